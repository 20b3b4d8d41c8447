import PyProof.Rows.All
import Wide.All
import OpenK.AllK
import Wide.FinOn
import Lean
import PyProof.EqAt
import PyProof.EqKinds
import PyProof.TupleCall
import PyProof.Rows.Catch
import PyProof.Rows.TupIter
import PyProof.TupleIter
import PyProof.Seq
import PyProof.ExcInit
import PyProof.ExcClass2
import KE.KIntText
import PyProof.StrOps2
import PyProof.ConsumeWalk
import PyProof.Rows.RuleM_int
import PyProof.ZipIter
import PyProof.EnumMake
import KE.KLam
import PyProof.StrWalks
import PyProof.Rows.TupAssign
import PyProof.Rows.Range3
import PyProof.DictWalks
import PyProof.DictUpdate
import PyProof.P3In
import PySem.Challenge.RW_tenreckon_k11_settled
set_option Elab.async false
set_option linter.all false
set_option maxRecDepth 100000
namespace L2
open PySem PySem.Spec PyProof.Rows
noncomputable abbrev Key:=Sum Int Str
noncomputable def C8u:Key ->Value ->Bool
 | .inl k,v=>Value.isInt k v
 | .inr x,v=>Value.isStrOf x v
noncomputable def Z9v (w:World):Key ->Int
 | .inl k=>hashInt k
 | .inr x=>hashStr w x
theorem V8:∀{k:Key} {v:Value},C8u k v=true ->(∃i t,k=Sum.inl i/\v=Value.int i t)\/(∃x t,k=Sum.inr x/\v=Value.str x t)
 | .inl i,v,h=>by
   obtain⟨t,e⟩:=Value.isInt_shape (k:=i) (v:=v) h
   exact .inl ⟨i,t,rfl,e⟩
 | .inr x,v,h=>by
   obtain⟨t,e⟩:=Value.isStrOf_shape (x:=x) (v:=v) h
   exact .inr ⟨x,t,rfl,e⟩
theorem J8d(i:Int)(t:Tok):C8u (.inl i) (.int i t)=true:=by simp[C8u,Value.isInt]
theorem J8f(x:Str)(t:Tok):C8u (.inr x) (.str x t)=true:=by simp[C8u,Value.isStrOf]
theorem Y9d(a b:Int):decide ((Sum.inl a:Key)=Sum.inl b)=(a==b):=by
 by_cases e:a=b
 . subst e;simp
 . have h:¬(Sum.inl a:Key)=Sum.inl b:=fun q=>e (Sum.inl.inj q)
   rw[decide_eq_false h]
   exact(beq_eq_false_iff_ne.mpr e).symm
theorem Y8e(a b:Str):decide ((Sum.inr a:Key)=Sum.inr b)=decide (a=b):=by
 by_cases e:a=b
 . subst e;simp
 . have h:¬(Sum.inr a:Key)=Sum.inr b:=fun q=>e (Sum.inr.inj q)
   rw[decide_eq_false h,decide_eq_false e]
theorem Z0d(a:Int)(b:Str):decide ((Sum.inl a:Key)=Sum.inr b)=false:=decide_eq_false (fun q=>nomatch q)
theorem Y9g(a:Str)(b:Int):decide ((Sum.inr a:Key)=Sum.inl b)=false:=decide_eq_false (fun q=>nomatch q)
noncomputable def Y1 (prog:Program) (w:World):PySem.KeyKind prog w Key where
 is:=C8u
 hash:=Z9v w
 inj :=fun v a b ha hb=>by
   rcases V8 ha with⟨i,t,rfl,rfl⟩|⟨x,t,rfl,rfl⟩
   . rcases V8 hb with⟨j,u,rfl,e⟩|⟨y,u,rfl,e⟩
     . injection e with e1 _;rw[e1]
     . exact nomatch e
   . rcases V8 hb with⟨j,u,rfl,e⟩|⟨y,u,rfl,e⟩
     . exact nomatch e
     . injection e with e1 _;rw[e1]
 byValue:=fun k v h=>by
   rcases V8 h with⟨i,t,rfl,rfl⟩|⟨x,t,rfl,rfl⟩<;>rfl
 pyHash:=fun hv h=>by
   rcases V8 hv with⟨i,t,rfl,rfl⟩|⟨x,t,rfl,rfl⟩
   . exact wpAny_pyHash_int h
   . exact wpAny_pyHash_str h
 eqBool:=fun hu hv h=>by
   rcases V8 hu with⟨i,t,rfl,rfl⟩|⟨x,t,rfl,rfl⟩
   . rcases V8 hv with⟨j,u,rfl,rfl⟩|⟨y,u,rfl,rfl⟩
     . rw[Y9d] at h;exact wpAny_eqBool_int h
     . rw[Z0d] at h;exact SeqAt.EqAt.int_str i t y u _ _ _ _ h
   . rcases V8 hv with⟨j,u,rfl,rfl⟩|⟨y,u,rfl,rfl⟩
     . rw[Y9g] at h;exact SeqAt.EqAt.str_int x t j u _ _ _ _ h
     . rw[Y8e] at h;exact wpAny_eqBool_str h
 «strs» := fun k x t v h => by
   rcases V8 h with⟨i,u,rfl,e⟩|⟨y,u,rfl,e⟩
   . exact nomatch e
   . injection e with e1 _
     subst e1
     cases v<;>rfl
theorem G1a(prog:Program)(w:World)(i:Int)(t:Tok):(Y1 prog w).is (.inl i) (.int i t)=true:=J8d i t
theorem G1f(prog:Program)(w:World)(x:Str)(t:Tok):(Y1 prog w).is (.inr x) (.str x t)=true:=J8f x t
inductive V where
 |non|bl (b:Bool)|int (i:Int)|str (x:Str)|byt (b:Array UInt8)|flt (b:UInt64)|ref (a:Addr)|ty (n:String)
 deriving DecidableEq
noncomputable def RelV:V ->Value ->Prop
 | .non,u=>u=Value.none
 | .bl b,u=>u=Value.bool b
 | .int i,u=>∃t,u=Value.int i t
 | .str x,u=>∃t,u=Value.str x t
 | .byt b,u=>∃t,u=Value.bytes b t
 | .flt b,u=>∃t,u=Value.float b t
 | .ref a,u=>u=Value.ref a
 | .ty n,u=>u=Value.type n
noncomputable abbrev Vals:List V ->List Value ->Prop:=Paired RelV
theorem Vals.length{xs:List V}{us:List Value}(r:Vals xs us):xs.length=us.length:=Paired.length r
theorem Vals.get:∀{xs:List V} {us:List Value} {i:Nat} {x:V},Vals xs us ->xs[i]?=some x ->∃u,us[i]?=some u/\RelV x u
 |_,_,_,_,.nil,e=>by simp at e
 |_,_,0,_,.cons r _,e=>by simp at e;subst e;exact⟨_,rfl,r⟩
 | _,_,i+1,x,.cons _ t,e=>by
   obtain⟨u,h1,h2⟩:=Vals.get (i:=i) (x:=x) t (by simpa using e)
   exact⟨u,by simpa using h1,h2⟩
theorem Vals.append:∀{xs ys:List V} {us ws:List Value},Vals xs us ->Vals ys ws ->Vals (xs++ys) (us++ws)
 |_,_,_,_,.nil,s=>s
 |_,_,_,_,.cons r t,s=> .cons r (Vals.append t s)
theorem Vals.take:∀{xs:List V} {us:List Value} (n:Nat),Vals xs us ->Vals (xs.take n) (us.take n)
 |_,_,0,_=> .nil
 |_,_,_+1,.nil=> .nil
 |_,_,n+1,.cons r t=> .cons r (Vals.take n t)
theorem Vals.drop:∀{xs:List V} {us:List Value} (n:Nat),Vals xs us ->Vals (xs.drop n) (us.drop n)
 |_,_,0,r=>r
 |_,_,_+1,.nil=> .nil
 |_,_,n+1,.cons _ t=>Vals.drop n t
noncomputable def RelO:Option V ->Option Value ->Prop
 |some v,some u=>RelV v u
 |none,none=>True
 |_,_=>False
noncomputable def KV {κ:Type}:List (κ×V) ->List (κ×Value) ->Prop:=Paired fun(p:κ×V) (q:κ×Value)=>p.1=q.1/\RelV p.2 q.2
noncomputable def kV:Key ->V
 | .inl i=> .int i
 | .inr x=> .str x
inductive HO where
 |lst (xs:List V)
 |tup (xs:List V)
 |dK (kvs:List (Key×V))|dT (kvs:List (List Key×V))
 |set (S:Int ->Bool) (n:Nat)
 |ins (C dx:Addr) (fs:List (Str×V))
 |own (x:Addr)
 |xd (fs:List (Str×V))
 |met (f x:Addr)
 |rng (lo hi:Int)
 |frz (o:Obj) (u:HO)
 |tbl (ps:Array Value)
 |ext (φ:Heap ->Prop)
noncomputable abbrev Hp:=Addr ->Option HO
noncomputable def upd (H:Hp) (a:Addr) (o:HO):Hp:=fun b=>if b=a then some o else H b
theorem A6{H:Hp}{a:Addr}{o:HO}:upd H a o a=some o:=by unfold upd;rw[if_pos rfl]
theorem C6{H:Hp}{a b:Addr}{o:HO}(h:b≠a):upd H a o b=H b:=by unfold upd;rw[if_neg h]
theorem Y2q{H:Hp}{a:Addr}{o u:HO}:upd (upd H a o) a u=upd H a u:=by
 funext b;unfold upd;split<;>rfl
theorem U6{H:Hp}{a b:Addr}{o u:HO}(h:H a=some o)(h':H b=some u)(d:o≠u):a≠b:=by
 intro e;subst e;rw[h] at h';exact d (Option.some.inj h')
theorem D5{H:Hp}{a b:Addr}{o:HO}(h:H a=some o)(h':H b=none):a≠b:=by
 intro e;subst e;rw[h] at h';cases h'
section
variable(P:Program)(w:World)
noncomputable def ObjOk (H:Hp) (h:Heap) (a:Addr):HO ->Prop
 | .lst xs=>xs.length<=sizeLine/\∃(its:List Value) (n:Nat),Vals xs its/\h.get? a=some {cls:= .type "list",data:= .seq its.toArray n}
 | .tup xs=>xs.length<=sizeLine/\∃its:List Value,Vals xs its/\IsTup h a its.toArray
 | .dK kvs=>kvs.length<=sizeLine/\(a==sysModules)=false/\∃vs,KV kvs vs/\h.DictOf (Y1 P w) a vs
 | .dT kvs=>kvs.length<=sizeLine/\(a==sysModules)=false/\∃xs:List (List Key×Addr×Value),
     Paired (fun(p:List Key×V) (q:List Key×Addr×Value)=>p.1=q.1/\H q.2.1=some (.tup (p.1.map kV))/\RelV p.2 q.2.2) kvs xs/\
     ∃o es ep,h.get? a=some o/\o.ExactDict/\o.data= .dict es ep/\es.toList=xs.map (entryOfKey (tupleKind (Y1 P w)))/\(xs.map (·.1)).Nodup
 | .set S n=>h.SetOf (intKind P w) a S n
 | .ins C dx fs=>H dx=some (.own a)/\fs.length<=1000/\dx≠a/\h.get? a=some (PySem.W.instObj C dx)/\
     ∃mA,h.Ns1 dx mA/\(∀f,RelO (fs.lookup f) (mA f))/\PySem.Within mA (fs.map (·.1))
 | .own _=>∃o,h.get? a=some o
 | .xd fs=>∃mA,h.Ns1 a mA/\∀f,RelO (fs.lookup f) (mA f)
 | .rng lo hi=>∃t u v,h.get? a=some {cls:= .type "range",data:= .fields #[.int lo t,.int hi u,.int 1 v]}
 | .frz o u=>h.get? a=some o/\ObjOk H h a u
 | .tbl ps=>h.get? a=some {cls:= .none,data:= .fields ps}
 | .met f x=>h.get? a=some (PySem.W.methodObj (.ref f) (.ref x))
 | .ext φ=>φ h/\(∃o,h.get? a=some o)/\∀h1 h2:Heap,φ h1 ->(∀o,h1.get? a=some o ->h2.get? a=some o) ->φ h2
noncomputable def HOk (H:Hp) (h:Heap):Prop:=∀a o,H a=some o ->ObjOk P w H h a o
end
section
variable{P:Program}{w:World}{H H':Hp}{h h':Heap}{a:Addr}{o:HO}
theorem ObjOk.lt(x:ObjOk P w H h a o):a<h.objs.size:=by
 cases o with
 |lst xs=>obtain⟨_,_,_,_,e⟩:=x;exact Heap.lt_size e
 |tup xs=>obtain⟨_,_,_,p⟩:=x;exact p.lt
 |dK kvs=>obtain⟨_,_,_,_,o,_,_,e,_⟩:=x;exact Heap.lt_size e
 |dT kvs=>obtain⟨_,_,_,_,o,_,_,e,_⟩:=x;exact Heap.lt_size e
 |set S n=>obtain⟨o,_,_,_,e,_⟩:=x;exact Heap.lt_size e
 |ins C dx fs=>obtain⟨_,_,_,e,_⟩:=x;exact Heap.lt_size e
 |own y=>obtain⟨_,e⟩:=x;exact Heap.lt_size e
 |xd fs=>obtain⟨_,⟨_,_,_,e,_⟩,_⟩:=x;exact Heap.lt_size e
 |rng lo hi=>obtain⟨_,_,_,e⟩:=x;exact Heap.lt_size e
 |frz ob u=>obtain⟨e,_⟩:=x;exact Heap.lt_size e
 |tbl ps=>exact Heap.lt_size (show h.get? a=some _ from x)
 |met f y=>exact Heap.lt_size (show h.get? a=some _ from x)
 |ext φ=>obtain⟨_,⟨_,e⟩,_⟩:=x;exact Heap.lt_size e
theorem Paired.mapP{α β:Type}{F G:α ->β ->Prop}:∀{l₁:List α} {l₂:List β},Paired F l₁ l₂ ->(∀a b,F a b ->G a b) ->Paired G l₁ l₂
 |_,_,.nil,_=> .nil
 |_,_,.cons r t,f=> .cons (f _ _ r) (Paired.mapP t f)
theorem ObjOk.stay(x:ObjOk P w H h a o)(k:∀b u,(b=a\/H b=some (.own a)) ->h.get? b=some u ->h'.get? b=some u)
   (ho:∀b,H b=some (.own a) ->H' b=some (.own a)) (ht:∀b xs,H b=some (.tup xs) ->H' b=some (.tup xs)):ObjOk P w H' h' a o:=by
 induction o with
 |lst xs=>obtain⟨z,its,n,r,e⟩:=x;exact⟨z,its,n,r,k _ _ (.inl rfl) e⟩
 |tup xs=>obtain⟨z,its,r,ob,e,c⟩:=x;exact⟨z,its,r,ob,k _ _ (.inl rfl) e,c⟩
 |dK kvs=>obtain⟨z,y,vs,r,ob,es,ep,e,c⟩:=x;exact⟨z,y,vs,r,ob,es,ep,k _ _ (.inl rfl) e,c⟩
 | dT kvs=>
   obtain⟨z,y,xs,r,ob,es,ep,e,c⟩:=x
   exact⟨z,y,xs,Paired.mapP r fun p q z=>⟨z.1,ht _ _ z.2.1,z.2.2⟩,ob,es,ep,k _ _ (.inl rfl) e,c⟩
 |set S n=>obtain⟨ob,es,ep,t,e,c⟩:=x;exact⟨ob,es,ep,t,k _ _ (.inl rfl) e,c⟩
 | ins C dx fs=>
   obtain⟨d,z,ne,e,mA,⟨od,es,ep,e2,c⟩,r⟩:=x
   exact⟨ho _ d,z,ne,k _ _ (.inl rfl) e,mA,⟨od,es,ep,k _ _ (.inr d) e2,c⟩,r⟩
 |own y=>obtain⟨ob,e⟩:=x;exact⟨ob,k _ _ (.inl rfl) e⟩
 |xd fs=>obtain⟨mA,⟨od,es,ep,e,c⟩,r⟩:=x;exact⟨mA,⟨od,es,ep,k _ _ (.inl rfl) e,c⟩,r⟩
 |rng lo hi=>obtain⟨t,u,v,e⟩:=x;exact⟨t,u,v,k _ _ (.inl rfl) e⟩
 |frz ob u ih=>obtain⟨e,q⟩:=x;exact⟨k _ _ (.inl rfl) e,ih q⟩
 | tbl ps=>
   have e:h.get? a=some {cls:= .none,data:= .fields ps}:=x
   show h'.get? a=some {cls:= .none,data:= .fields ps}
   exact k a _ (.inl rfl) e
 | met f y=>
   have e:h.get? a=some (PySem.W.methodObj (.ref f) (.ref y)):=x
   show h'.get? a=some (PySem.W.methodObj (.ref f) (.ref y))
   exact k a _ (.inl rfl) e
 |ext φ=>obtain⟨p,⟨o,e⟩,st⟩:=x;exact⟨st _ _ p fun o q=>k _ _ (.inl rfl) q,⟨o,k _ _ (.inl rfl) e⟩,st⟩
theorem HOk.lt(x:HOk P w H h)(e:H a=some o):a<h.objs.size:=(x a o e).lt
theorem HOk.fresh(x:HOk P w H h)(e:h.objs.size<=a):H a=none:=by
 cases q:H a with
 |none=>rfl
 |some u=>exact absurd (Nat.lt_of_lt_of_le (x.lt q) e) (Nat.lt_irrefl _)
theorem HOk.kept(x:HOk P w H h)(k:∀b u,h.get? b=some u ->h'.get? b=some u):HOk P w H h':=fun a o e=>
 (x a o e).stay (fun b u _ q=>k b u q) (fun _ q=>q) fun _ _ q=>q
theorem HOk.laid(x:HOk P w H h)(k:∀b u,h.get? b=some u ->h'.get? b=some u)(hp:h.objs.size<=a)(new:ObjOk P w (upd H a o) h' a o):HOk P w (upd H a o) h':=fun b u e=>by
 have hn:=x.fresh hp
 by_cases hb:b=a
 . subst hb;rw[A6] at e;cases e;exact new
 . rw[C6 hb] at e
   exact(x b u e).stay (fun c v _ q=>k c v q) (fun c q=>by rw[C6 (D5 q hn)];exact q) fun c xs q=>by rw[C6 (D5 q hn)];exact q
end
noncomputable def Rd (H:Hp) (a:Addr) (u:HO):Prop:=H a=some u\/∃o,H a=some (.frz o u)
theorem Rd.ok{P:Program}{w:World}{H:Hp}{h:Heap}{a:Addr}{u:HO}(r:Rd H a u)(x:HOk P w H h):ObjOk P w H h a u:=by
 rcases r with r|⟨o,r⟩
 . exact x a u r
 . obtain⟨_,q⟩:=x a _ r
   exact q
noncomputable def Mut:Option HO ->Prop
 |some (.lst _)=>True
 |some (.dK _)=>True
 |some (.dT _)=>True
 |some (.set _ _)=>True
 |some (.ins _ _ _)=>True
 |some (.ext _)=>True
 |_=>False
section
variable{P:Program}{w:World}{H:Hp}{h h':Heap}{x e:Addr}{o':HO}
theorem HOk.write(ok:HOk P w H h)(mu:Mut (H x))(he:e=x\/H e=some (.own x))(k:∀b u,b≠e ->h.get? b=some u ->h'.get? b=some u)(heo:∃u,h'.get? e=some u)
   (new:ObjOk P w (upd H x o') h' x o'):HOk P w (upd H x o') h':=fun b u q=>by
 have nown:∀c y,H c=some (.own y) ->c≠x:=fun c y r z=>by subst z;rw[r] at mu;exact mu
 have ntup:∀c xs,H c=some (.tup xs) ->c≠x:=fun c xs r z=>by subst z;rw[r] at mu;exact mu
 by_cases hb:b=x
 . subst hb;rw[A6] at q;cases q;exact new
 . rw[C6 hb] at q
   by_cases hbe:b=e
   . have q':H b=some (.own x):=by
       rcases he with z|z
       . exact absurd (hbe.trans z) hb
       . rw[hbe];exact z
     rw[q] at q';cases q'
     obtain⟨v,hv⟩:=heo
     exact⟨v,by rw[hbe];exact hv⟩
   . refine(ok b u q).stay (fun c v hc r=>k c v ?_ r) (fun c r=>by rw[C6 (nown c b r)];exact r) fun c xs r=>by rw[C6 (ntup c xs r)];exact r
     rcases hc with rfl|hc
     . exact hbe
     . rintro rfl
       rcases he with z|z
       . exact nown c b hc z
       . rw[hc] at z;cases z;exact hb rfl
end
structure Un(fs ex:List Addr)(H H':Hp)(h h':Heap):Prop where
 keep:∀b o,h.get? b=some o ->H b=none ->b ∉ fs ->b ∉ ex ->h'.get? b=some o
 slot:∀b o,h.get? b=some o ->H b=none ->b∈fs ->b ∉ ex ->∃sl,h'.get? b=some {o with slots:=sl}
 free:∀b o,h.get? b=some o ->H b=none ->b ∉ ex ->H' b=none
 there:∀b o,h.get? b=some o ->b ∉ ex ->∃o',h'.get? b=some o'
 tups:∀b xs,H b=some (.tup xs) ->H' b=some (.tup xs)
 frzs:∀b o u,H b=some (.frz o u) ->H' b=some (.frz o u)
 tbls:∀b ps,H b=some (.tbl ps) ->∃more,H' b=some (.tbl (ps++more))
section
variable{fs fs' ex ex':List Addr}{H H1 H2:Hp}{h h1 h2 h':Heap}{a x e:Addr}{o:HO}
theorem Un.any(u:Un fs ex H H1 h h1){b:Addr}{ob:Obj}(q:h.get? b=some ob)(n:H b=none)(hx:b ∉ ex):∃sl,h1.get? b=some {ob with slots:=sl}:=by
 by_cases hb:b∈fs
 . exact u.slot b ob q n hb hx
 . exact⟨ob.slots,u.keep b ob q n hb hx⟩
theorem Un.kept(k:∀b u,h.get? b=some u ->h'.get? b=some u):Un fs ex H H h h':=
 ⟨fun b ob q _ _ _=>k b ob q,fun b ob q _ _ _=>⟨ob.slots,k b ob q⟩,fun _ _ _ n _=>n,fun b ob q _=>⟨ob,k b ob q⟩,fun _ _ q=>q,fun _ _ _ q=>q,fun _ ps q=>⟨#[],by rw[q];simp⟩⟩
theorem Un.refl:Un fs ex H H h h:=Un.kept fun _ _ q=>q
theorem Un.laid(k:∀b u,h.get? b=some u ->h'.get? b=some u)(hp:h.objs.size<=a)(hn:H a=none):Un fs ex H (upd H a o) h h' where
 keep:=fun b u q _ _ _=>k b u q
 slot:=fun b u q _ _ _=>⟨u.slots,k b u q⟩
 free:=fun b u q n _=>by rw[C6 (Nat.ne_of_lt (Nat.lt_of_lt_of_le (Heap.lt_size q) hp))];exact n
 there:=fun b u q _=>⟨u,k b u q⟩
 tups:=fun b xs q=>by rw[C6 (D5 q hn)];exact q
 frzs:=fun b u xs q=>by rw[C6 (D5 q hn)];exact q
 tbls:=fun b ps q=>⟨#[],by rw[C6 (D5 q hn),q];simp⟩
theorem Un.write(mu:Mut (H x))(he:e=x\/H e=some (.own x))(k:∀b u,b≠e ->h.get? b=some u ->h'.get? b=some u)(heo:∃u,h'.get? e=some u):Un fs ex H (upd H x o) h h':=by
 have hx:∀b,H b=none ->b≠x:=fun b n z=>by subst z;rw[n] at mu;exact mu
 have hb:∀b,H b=none ->b≠e:=fun b n z=>by
   subst z
   rcases he with r|r
   . exact hx b n r
   . rw[n] at r;cases r
 have hm:∀b u,H b=some u ->¬Mut (some u) ->b≠x:=fun b u q nm z=>by subst z;rw[q] at mu;exact nm mu
 refine⟨fun b u q n _ _=>k b u (hb b n) q,fun b u q n _ _=>⟨u.slots,k b u (hb b n) q⟩,fun b u q n _=>by rw[C6 (hx b n)];exact n,fun b u q _=>?_,
   fun b xs q=>by rw[C6 (hm b _ q fun z=>z)];exact q,fun b u xs q=>by rw[C6 (hm b _ q fun z=>z)];exact q,fun b ps q=>⟨#[],by rw[C6 (hm b _ q fun z=>z),q];simp⟩⟩
 by_cases hbe:b=e
 . subst hbe;exact heo
 . exact⟨u,k b u hbe q⟩
end
noncomputable def trk (h:Heap) (H:Hp):List Addr:=(List.range h.objs.size).filter fun a=>(H a).isSome
noncomputable def C5b (h:Heap) (H:Hp):Heap:=PySem.W.hideAll h (trk h H)
theorem J9r(h:Heap)(H:Hp):(C5b h H).objs.size=h.objs.size:=PySem.W.hideAll_size _ _
theorem U4v{h:Heap}{H:Hp}{b:Addr}{o:Obj}(e:h.get? b=some o)(n:H b=none):(C5b h H).get? b=some o:=
 PySem.W.hideAll_get _ e fun hm=>by
   have q:(H b).isSome=true:=(List.mem_filter.mp hm).2
   rw[n] at q;simp at q
theorem Y1c{h:Heap}{H:Hp}{b:Addr}{o:Obj}(e:(C5b h H).get? b=some o):h.get? b=some o/\H b=none:=by
 have e':h.get? b=some o:=PySem.W.of_hideAll (trk h H) e
 refine⟨e',?_⟩
 cases q:H b with
 |none=>rfl
 | some x=>
   have hm:b∈trk h H:=List.mem_filter.mpr ⟨List.mem_range.mpr (Heap.lt_size e'),by simp[q]⟩
   have z:(C5b h H).get? b=none:=PySem.W.hideAll_none (trk h H) hm
   rw[z] at e;cases e
structure Mod(K:PySem.W.Frag)(mg:Str ->Option Value)(base:Heap):Prop where
 kin:K.In base
 glob:base.Ns mainGlobals mg
 blt:∃mb,base.Ns builtinsNs mb/\∀x:Str,x≠"__name__" ->mb x=bootBuiltins x
 nolimit:base.NoLimit
structure Cx where
 prog:Program
 w:World
 K:PySem.W.Frag
 mg:Str ->Option Value
 base:Heap
 A:Around
 N:List Str
 s₀:Shared
 H₀:Hp
 env:Env
 outer:List Env
 stack:List Env
 ex:List Addr
 fn:Str ->Bool
 calm:Bool
 pn:List (Addr×Obj)
 xe:Value ->Shared ->Prop
noncomputable def frs (l:List Env):List Addr:=l.filterMap (·.frame)
noncomputable abbrev Cx.fs (X:Cx):List Addr:=frs X.outer
noncomputable def Vis (sc:Scope) (x:Str):Prop:=sc.names.lookup x=some .local\/sc.names.lookup x=some .cell\/sc.names.lookup x=some .free
noncomputable def Loc (sc:Scope) (x:Str):Prop:=sc.names.lookup x=some .local\/sc.names.lookup x=some .cell
noncomputable def Z5m (env:Env) (h:Heap) (m:Str ->Option Value) (x:Str) (u:Value):Prop:=
 (env.kindOf x=some .local/\m x=some u)\/((env.kindOf x=some .cell\/env.kindOf x=some .free)/\∃c,env.cells.lookup x=some c/\h.IsCell c (some u))
structure Cx.Ok(X:Cx):Prop where
 mod:Mod X.K X.mg X.base
 kind:X.env.scope.kind= .function
 glob:X.env.globals=mainGlobals
 blt:X.env.builtins=builtinsNs
 above:X.s₀.heap.objs.size<=X.env.locals
 inj:∀x y c,X.env.cells.lookup x=some c ->X.env.cells.lookup y=some c ->x=y
 has:∀x,(X.env.kindOf x=some .cell\/X.env.kindOf x=some .free) ->∃c,X.env.cells.lookup x=some c
 cab:∀x c,X.fn x=true ->X.env.cells.lookup x=some c ->X.s₀.heap.objs.size<=c
 hd:X.calm=true ->X.A.handled=none
 frames:X.A.frames=some X.stack
 stk:X.stack=X.outer\/(X.stack=X.env::X.outer/\X.env.frame=some X.env.locals)
 exf:∀b∈X.ex,b≠X.env.locals/\∀x c,X.env.cells.lookup x=some c ->c≠b
 bs:∀b o,X.base.get? b=some o ->X.s₀.heap.get? b=some o/\X.H₀ b=none
 bsz:X.base.objs.size<=X.s₀.heap.objs.size
 noex:∀b o,X.base.get? b=some o ->b ∉ X.ex
 exfs:∀b∈X.ex,b ∉ X.fs
 funs:X.s₀.heap.FunFrames X.base X.outer
 frf:∀b∈X.fs,X.H₀ b=none
structure Inv(X:Cx)(pins:List (Addr×Obj))(σ:List (Option V))(H:Hp)(s:Shared):Prop where
 ok:X.Ok
 os:s.os=X.s₀.os
 bare:AllBare s.gens
 base:Un X.fs X.ex X.H₀ H X.s₀.heap s.heap
 loc:∃m,s.heap.Ns X.env.locals m/\∀(i:Nat) (x:Str) (v:V),X.N[i]?=some x ->σ[i]?=some (some v) ->Vis X.env.scope x ->∃u,RelV v u/\Z5m X.env s.heap m x u
 cell:∀x c,X.env.cells.lookup x=some c ->∃v,s.heap.IsCell c v
 free:H X.env.locals=none
 freeC:∀x c,X.env.cells.lookup x=some c ->H c=none
 pin:∀p∈X.pn++pins,s.heap.get? p.1=some p.2/\H p.1=none/\p.1≠X.env.locals/\p.1 ∉ X.fs/\∀v,p.2.data≠ .cell v
 hok:HOk X.prog X.w H s.heap
 len:σ.length=X.N.length
section
variable{X:Cx}{pins:List (Addr×Obj)}{σ:List (Option V)}{H H':Hp}{s:Shared}{h':Heap}
theorem Cx.Ok.nofr(ok:X.Ok){b:Addr}{o:Obj}(e:X.base.get? b=some o):b ∉ X.fs:=fun hb=>by
 have:=(ok.funs.mem hb).1
 rw[e] at this;cases this
theorem Inv.bs(I:Inv X pins σ H s):∀b o,X.base.get? b=some o ->s.heap.get? b=some o/\H b=none:=fun b o e=>
 ⟨I.base.keep b o (I.ok.bs b o e).1 (I.ok.bs b o e).2 (I.ok.nofr e) (I.ok.noex b o e),I.base.free b o (I.ok.bs b o e).1 (I.ok.bs b o e).2 (I.ok.noex b o e)⟩
theorem Inv.bk(I:Inv X pins σ H s):∀b o,X.base.get? b=some o ->s.heap.get? b=some o:=fun b o e=>(I.bs b o e).1
theorem Inv.mod(I:Inv X pins σ H s):Mod X.K X.mg X.base:=I.ok.mod
theorem Inv.kIn(I:Inv X pins σ H s):X.K.In s.heap:=I.ok.mod.kin.keeps I.bk
theorem Inv.lt(I:Inv X pins σ H s):X.env.locals<s.heap.objs.size:=let⟨_,hn,_⟩:=I.loc;hn.lt
theorem Inv.sz(I:Inv X pins σ H s):X.s₀.heap.objs.size<=s.heap.objs.size:=Nat.le_trans I.ok.above (Nat.le_of_lt I.lt)
theorem Inv.nofs(I:Inv X pins σ H s){a:Addr}(h:s.heap.objs.size<=a):a ∉ X.fs:=fun hb=>by
 obtain⟨_,o,ho,_⟩:=I.ok.funs.mem hb
 exact absurd (Nat.lt_of_lt_of_le (Heap.lt_size ho) (Nat.le_trans I.sz h)) (Nat.lt_irrefl _)
theorem Inv.cne(I:Inv X pins σ H s):∀x c,X.env.cells.lookup x=some c ->c≠X.env.locals:=fun x c e z=>by
 obtain⟨v,o,ho,hd⟩:=I.cell x c e
 obtain⟨m,⟨o',es,ep,ho',hd',_⟩,_⟩:=I.loc
 rw[z,ho'] at ho;cases ho;rw[hd'] at hd;cases hd
theorem Inv.funs(I:Inv X pins σ H s):s.heap.FunFrames X.base X.outer:=by
 have all:∀(l:List Env),(∀b∈frs l,b∈X.fs) ->X.s₀.heap.FunFrames X.base l ->s.heap.FunFrames X.base l:=by
   intro l
   induction l with
   |nil=>intro _ _;trivial
   | cons env r ih=>
     intro hs hl
     obtain⟨hk,⟨L,o,hf,hn,ho,hd⟩,hr⟩:=hl
     have hL:L∈X.fs:=hs L (by unfold frs;rw[List.filterMap_cons,hf];exact List.mem_cons_self)
     obtain⟨sl,e⟩:=I.base.slot L o ho (I.ok.frf L hL) hL fun z=>I.ok.exfs L z hL
     exact⟨hk,⟨L,_,hf,hn,e,hd⟩,ih (fun b hb=>hs b (by unfold frs;rw[List.filterMap_cons,hf];exact List.mem_cons_of_mem _ hb)) hr⟩
 exact all X.outer (fun _ hb=>hb) I.ok.funs
theorem Inv.stack(I:Inv X pins σ H s):s.heap.FunFrames X.base X.stack:=by
 rcases I.ok.stk with e|⟨e,hf⟩
 . rw[e];exact I.funs
 . rw[e]
   obtain⟨m,hn,_⟩:=I.loc
   refine .cons (by rw[I.ok.kind];decide) hf hn ?_ I.funs
   exact Heap.get?_none_of_le (Nat.le_trans I.ok.bsz I.ok.above)
theorem Inv.stkSub(I:Inv X pins σ H s):∀b∈frs X.stack,b∈X.env.locals::X.fs:=fun b hb=>by
 rcases I.ok.stk with e|⟨e,hf⟩
 . rw[e] at hb;exact List.mem_cons_of_mem _ hb
 . rw[e] at hb
   unfold frs at hb
   rw[List.filterMap_cons,hf] at hb
   exact hb
theorem Inv.stkFree(I:Inv X pins σ H s):∀b∈frs X.stack,H b=none:=fun b hb=>by
 rcases List.mem_cons.mp (I.stkSub b hb) with e|hb
 . rw[e];exact I.free
 . obtain⟨_,o,ho,_⟩:=I.ok.funs.mem hb
   exact I.base.free b o ho (I.ok.frf b hb) fun z=>I.ok.exfs b z hb
theorem Inv.step{g':Array GenState}{t':Nat}{d':Drawn}{ch:List Addr}(I:Inv X pins σ H s)
   (hch:∀b∈ch,(b∈X.ex\/X.s₀.heap.objs.size<=b)/\b≠X.env.locals/\(∀x c,X.env.cells.lookup x=some c ->c≠b)/\∀p∈X.pn++pins,p.1≠b)
   (keep:∀b o,b≠X.env.locals ->b ∉ X.fs ->b ∉ ch ->s.heap.get? b=some o ->H b=none ->h'.get? b=some o)
   (slot:∀b o,b≠X.env.locals ->b∈X.fs ->b ∉ ch ->s.heap.get? b=some o ->H b=none ->∃sl,h'.get? b=some {o with slots:=sl}) (free:∀b o,b ∉ ch ->s.heap.get? b=some o ->H b=none ->H' b=none)
   (there:∀b o,b ∉ ch ->s.heap.get? b=some o ->∃o',h'.get? b=some o')
   (tups:∀b xs,H b=some (.tup xs) ->H' b=some (.tup xs)) (frzs:∀b o u,H b=some (.frz o u) ->H' b=some (.frz o u)) (tbls:∀b ps,H b=some (.tbl ps) ->∃more,H' b=some (.tbl (ps++more)))
   (ns:∀m,s.heap.Ns X.env.locals m ->h'.Ns X.env.locals m) (hok:HOk X.prog X.w H' h') (hg:AllBare g'):
   Inv X pins σ H' {s with heap:=h',gens:=g',drawn:=d',toks:=t'}:=by
 have neL:∀b o,X.s₀.heap.get? b=some o ->b≠X.env.locals:=fun b o e=>Nat.ne_of_lt (Nat.lt_of_lt_of_le (Heap.lt_size e) I.ok.above)
 have neC:∀b o,X.s₀.heap.get? b=some o ->b ∉ X.ex ->b ∉ ch:=fun b o e hx hb=>by
   rcases(hch b hb).1 with z|z
   . exact hx z
   . exact absurd (Nat.lt_of_lt_of_le (Heap.lt_size e) z) (Nat.lt_irrefl _)
 have cellK:∀x c,X.env.cells.lookup x=some c ->∀v,s.heap.IsCell c v ->h'.IsCell c v:=fun x c e v ⟨o,ho,hd⟩=>by
   have nch:c ∉ ch:=fun z=>(hch c z).2.2.1 x c e rfl
   by_cases hc:c∈X.fs
   . obtain⟨sl,q⟩:=slot c o (I.cne x c e) hc nch ho (I.freeC x c e)
     exact⟨_,q,hd⟩
   . exact⟨o,keep c o (I.cne x c e) hc nch ho (I.freeC x c e),hd⟩
 refine⟨I.ok,I.os,hg,⟨fun b o e n hb hx=>?_,fun b o e n hb hx=>?_,fun b o e n hx=>?_,fun b o e hx=>?_,fun b xs e=>tups b xs (I.base.tups b xs e),fun b o xs e=>frzs b o xs (I.base.frzs b o xs e),fun b ps e=>?_⟩,?_,fun x c e=>?_,?_,fun x c e=>?_,fun p hp=>?_,hok,I.len⟩
 . exact keep b o (neL b o e) hb (neC b o e hx) (I.base.keep b o e n hb hx) (I.base.free b o e n hx)
 . obtain⟨sl,e1⟩:=I.base.slot b o e n hb hx
   obtain⟨sl',e2⟩:=slot b _ (neL b o e) hb (neC b o e hx) e1 (I.base.free b o e n hx)
   exact⟨sl',e2⟩
 . obtain⟨o',e1⟩:=I.base.there b o e hx
   exact free b o' (neC b o e hx) e1 (I.base.free b o e n hx)
 . obtain⟨o',e1⟩:=I.base.there b o e hx
   exact there b o' (neC b o e hx) e1
 . obtain⟨m1,e1⟩:=I.base.tbls b ps e
   obtain⟨m2,e2⟩:=tbls b _ e1
   exact⟨m1++m2,by rw[e2,Array.append_assoc]⟩
 . obtain⟨m,hn,hl⟩:=I.loc
   refine⟨m,ns m hn,fun i x v e1 e2 e3=>?_⟩
   obtain⟨u,r,l⟩:=hl i x v e1 e2 e3
   refine⟨u,r,?_⟩
   rcases l with l|⟨k,c,e,z⟩
   . exact .inl l
   . exact .inr ⟨k,c,e,cellK x c e _ z⟩
 . obtain⟨v,z⟩:=I.cell x c e
   exact⟨v,cellK x c e v z⟩
 . obtain⟨m,⟨o,_,_,ho,_⟩,_⟩:=I.loc
   exact free _ o (fun z=>(hch _ z).2.1 rfl) ho I.free
 . obtain⟨v,o,ho,hd⟩:=I.cell x c e
   exact free c o (fun z=>(hch c z).2.2.1 x c e rfl) ho (I.freeC x c e)
 . obtain⟨e,n,ne,nf,d⟩:=I.pin p hp
   have nch:p.1 ∉ ch:=fun z=>(hch p.1 z).2.2.2 p hp rfl
   exact⟨keep p.1 p.2 ne nf nch e n,free p.1 p.2 nch e n,ne,nf,d⟩
theorem Inv.un{t':Nat}(I:Inv X pins σ H s)(u:Un X.fs [] H H' s.heap h')(hok:HOk X.prog X.w H' h'):Inv X pins σ H' {s with heap:=h',toks:=t'}:=by
 obtain⟨m,⟨o,es,ep,ho,r⟩,_⟩:=id I.loc
 obtain⟨sl,hL⟩:=u.any ho I.free (by simp)
 exact I.step (g':=s.gens) (d':=s.drawn) (ch:=[]) (fun _ z=>nomatch z) (fun b o _ hb _ e n=>u.keep b o e n hb (by simp)) (fun b o _ hb _ e n=>u.slot b o e n hb (by simp)) (fun b o _ e n=>u.free b o e n (by simp)) (fun b o _ e=>u.there b o e (by simp)) u.tups u.frzs u.tbls (fun m' hm=>by
   obtain⟨o',es',ep',ho',r'⟩:=hm
   rw[ho] at ho';cases ho'
   exact⟨_,es',ep',hL,r'⟩) hok I.bare
theorem Inv.call{g':Array GenState}{t':Nat}{d':Drawn}{ch:List Addr}(I:Inv X pins σ H s)(u:Un (frs X.stack) ch H H' s.heap h')(hok:HOk X.prog X.w H' h')(hg:AllBare g')
   (hch:∀b∈ch,(b∈X.ex\/X.s₀.heap.objs.size<=b)/\b≠X.env.locals/\(∀x c,X.env.cells.lookup x=some c ->c≠b)/\∀p∈X.pn++pins,p.1≠b):
   Inv X pins σ H' {s with heap:=h',gens:=g',drawn:=d',toks:=t'}:=by
 obtain⟨m,⟨o,es,ep,ho,r⟩,_⟩:=id I.loc
 obtain⟨sl,hL⟩:=u.any ho I.free fun z=>(hch _ z).2.1 rfl
 exact I.step (ch:=ch) hch (fun b o hL hb hc e n=>u.keep b o e n (fun z=>(List.mem_cons.mp (I.stkSub b z)).elim hL hb) hc) (fun b o _ _ hc e n=>u.any e n hc) (fun b o hc e n=>u.free b o e n hc) (fun b o hc e=>u.there b o e hc) u.tups u.frzs u.tbls (fun m' hm=>by
   obtain⟨o',es',ep',ho',r'⟩:=hm
   rw[ho] at ho';cases ho'
   exact⟨_,es',ep',hL,r'⟩) hok hg
theorem Inv.turned{t':Nat}{it:Addr}(I:Inv X pins σ H s)(k:∀b o,b≠it ->s.heap.get? b=some o ->h'.get? b=some o)(hn:H it=none)(hL:it≠X.env.locals)
   (h1:it∈X.ex\/X.s₀.heap.objs.size<=it) (h2:∀x c,X.env.cells.lookup x=some c ->c≠it) (h3:∀p∈X.pn++pins,p.1≠it):Inv X pins σ H {s with heap:=h',toks:=t'}:=by
 have nit:∀b u,H b=some u ->b≠it:=fun b u e z=>by rw[z,hn] at e;cases e
 refine I.step (g':=s.gens) (d':=s.drawn) (ch:=[it]) (fun b hb=>?_) (fun b o _ _ hc e _=>k b o (fun z=>hc (by simp[z])) e) (fun b o _ _ hc e _=>⟨o.slots,k b o (fun z=>hc (by simp[z])) e⟩) (fun _ _ _ _ n=>n)
   (fun b o hc e=>⟨o,k b o (fun z=>hc (by simp[z])) e⟩) (fun _ _ e=>e) (fun _ _ _ e=>e) (fun b ps e=>⟨#[],by rw[e];simp⟩) (fun m hm=>?_) (fun b u e=>?_) I.bare
 . have e:b=it:=by simpa using hb
   subst e
   exact⟨h1,hL,h2,h3⟩
 . obtain⟨o,es,ep,ho,r⟩:=hm
   exact⟨o,es,ep,k _ o (Ne.symm hL) ho,r⟩
 . refine(I.hok b u e).stay (fun c v hc q=>k c v ?_ q) (fun _ q=>q) fun _ _ q=>q
   rcases hc with z|z
   . rw[z];exact nit b u e
   . exact nit c _ z
theorem Inv.tok(I:Inv X pins σ H s)(t:Nat):Inv X pins σ H {s with toks:=t}:=I.un (h':=s.heap) (t':=t) Un.refl I.hok
theorem Inv.kept{t':Nat}(I:Inv X pins σ H s)(k:∀b u,s.heap.get? b=some u ->h'.get? b=some u):Inv X pins σ H {s with heap:=h',toks:=t'}:=I.un (Un.kept k) (I.hok.kept k)
theorem Inv.laid{a:Addr}{o:HO}{t':Nat}(I:Inv X pins σ H s)(k:∀b u,s.heap.get? b=some u ->h'.get? b=some u)(hp:s.heap.objs.size<=a)(new:ObjOk X.prog X.w (upd H a o) h' a o):
   Inv X pins σ (upd H a o) {s with heap:=h',toks:=t'}:=I.un (Un.laid k hp (I.hok.fresh hp)) (I.hok.laid k hp new)
theorem Inv.write{x e:Addr}{o:HO}{t':Nat}(I:Inv X pins σ H s)(mu:Mut (H x))(he:e=x\/H e=some (.own x))(k:∀b u,b≠e ->s.heap.get? b=some u ->h'.get? b=some u)(heo:∃u,h'.get? e=some u)
   (new:ObjOk X.prog X.w (upd H x o) h' x o):Inv X pins σ (upd H x o) {s with heap:=h',toks:=t'}:=I.un (Un.write mu he k heo) (I.hok.write mu he k heo new)
theorem Inv.pins_of{pins':List (Addr×Obj)}(I:Inv X pins σ H s)(h:∀p∈pins',s.heap.get? p.1=some p.2/\H p.1=none/\p.1≠X.env.locals/\p.1 ∉ X.fs/\∀v,p.2.data≠ .cell v):Inv X pins' σ H s:=
 ⟨I.ok,I.os,I.bare,I.base,I.loc,I.cell,I.free,I.freeC,fun p hp=>(List.mem_append.mp hp).elim (fun z=>I.pin p (List.mem_append_left _ z)) (h p),I.hok,I.len⟩
theorem C0j{N:List Str}(hN:N.Nodup){i j:Nat}{x:Str}(a:N[i]?=some x)(b:N[j]?=some x):i=j:=by
 obtain⟨h1,e1⟩:=List.getElem?_eq_some_iff.mp a
 obtain⟨h2,e2⟩:=List.getElem?_eq_some_iff.mp b
 exact(List.getElem_inj hN).mp (e1.trans e2.symm)
theorem C8z{M:Model}{A:Around}{E:Value ->Shared ->Prop}{i:Nat}{x:Str}{v:V}{u:Value}{Q:Unit ->Shared ->Prop}(I:Inv X pins σ H s)(hN:X.N.Nodup)(hi:X.N[i]?=some x)(hx:Loc X.env.scope x)(r:RelV v u)
   (h:∀s',Inv X pins (σ.set i (some v)) H s' ->(∃a,Heap.SameBut a s.heap s'.heap/\(a=X.env.locals\/X.env.cells.lookup x=some a)) ->Q () s') (hf:X.fn x=true\/X.env.scope.names.lookup x=some .local:=by first|exact .inl rfl|exact .inr rfl|assumption):wpAny M A (storeName X.env x u) Q E s:=by
 obtain⟨m,hn,hl⟩:=id I.loc
 have hcls:(X.env.scope.kind== .class||(X.env.scope.kind== .module&&X.env.locals !=X.env.globals))=false:=by rw[I.ok.kind];rfl
 have hiσ:i<σ.length:=by rw[I.len];exact(List.getElem?_eq_some_iff.mp hi).1
 have cne:=I.cne
 have tracked:∀{a:Addr} {h':Heap},(∃o,s.heap.get? a=some o/\H a=none) ->Heap.SameBut a s.heap h' ->HOk X.prog X.w H h':=fun{a h'} ha hs b ob e=>by
   obtain⟨_,_,hfree⟩:=ha
   refine(I.hok b ob e).stay (fun c w' hc q=>(hs.2 c ?_).trans q) (fun _ q=>q) fun _ _ q=>q
   rintro rfl
   rcases hc with rfl|hc
   . rw[hfree] at e;cases e
   . rw[hfree] at hc;cases hc
 rcases hx with hk|hk
 . refine wpAny_storeName_local hk hn (fun h' hn' hs=>?_) hcls
   obtain⟨oL,_,_,hoL,_⟩:=id hn
   refine h _ ⟨I.ok,I.os,I.bare,⟨fun b o e n hb hx=>?_,fun b o e n hb hx=>?_,I.base.free,fun b o e hx=>?_,I.base.tups,I.base.frzs,I.base.tbls⟩,⟨_,hn',fun j y v' e1 e2 e3=>?_⟩,fun y c e=>?_,I.free,I.freeC,fun p hp=>?_,tracked ⟨oL,hoL,I.free⟩ hs,by simpa using I.len⟩ ⟨_,hs,.inl rfl⟩
   . exact(hs.2 b (Nat.ne_of_lt (Nat.lt_of_lt_of_le (Heap.lt_size e) I.ok.above))).trans (I.base.keep b o e n hb hx)
   . obtain⟨sl,e1⟩:=I.base.slot b o e n hb hx
     exact⟨sl,(hs.2 b (Nat.ne_of_lt (Nat.lt_of_lt_of_le (Heap.lt_size e) I.ok.above))).trans e1⟩
   . obtain⟨o',e1⟩:=I.base.there b o e hx
     exact⟨o',(hs.2 b (Nat.ne_of_lt (Nat.lt_of_lt_of_le (Heap.lt_size e) I.ok.above))).trans e1⟩
   . by_cases hj:j=i
     . subst hj
       rw[hi] at e1;cases e1
       rw[List.getElem?_set_self hiσ] at e2
       cases e2
       exact⟨u,r,.inl ⟨hk,by simp⟩⟩
     . rw[List.getElem?_set_ne (Ne.symm hj)] at e2
       obtain⟨u',r',q⟩:=hl j y v' e1 e2 e3
       refine⟨u',r',?_⟩
       rcases q with⟨k,e⟩|⟨k,c,e,z⟩
       . refine .inl ⟨k,?_⟩
         have:y≠x:=fun e=>hj (C0j hN e1 (e▸hi))
         simp[this,e]
       . exact .inr ⟨k,c,e,z.sameBut hs (cne y c e)⟩
   . obtain⟨w',z⟩:=I.cell y c e
     exact⟨w',z.sameBut hs (cne y c e)⟩
   . obtain⟨e,n,ne,nf,d⟩:=I.pin p hp
     exact⟨(hs.2 p.1 ne).trans e,n,ne,nf,d⟩
 . have hfn:X.fn x=true:=by
     rcases hf with z|z
     . exact z
     . rw[z] at hk;cases hk
   obtain⟨c,hc⟩:=I.ok.has x (.inl hk)
   obtain⟨w',z⟩:=I.cell x c hc
   refine wpAny_storeName_cell I.ok.kind hk hc z (fun h' hc' hs=>?_)
   obtain⟨oc,hoc,hocd⟩:=id z
   refine h {s with heap:=h'} ⟨I.ok,I.os,I.bare,⟨fun b o e n hb hx=>?_,fun b o e n hb hx=>?_,I.base.free,fun b o e hx=>?_,I.base.tups,I.base.frzs,I.base.tbls⟩,⟨m,hn.sameBut hs (Ne.symm (cne x c hc)),fun j y v' e1 e2 e3=>?_⟩,fun y c' e=>?_,I.free,I.freeC,fun p hp=>?_,tracked ⟨oc,hoc,I.freeC x c hc⟩ hs,by simpa using I.len⟩ ⟨c,hs,.inr hc⟩
   . exact(hs.2 b (Nat.ne_of_lt (Nat.lt_of_lt_of_le (Heap.lt_size e) (I.ok.cab x c hfn hc)))).trans (I.base.keep b o e n hb hx)
   . obtain⟨sl,e1⟩:=I.base.slot b o e n hb hx
     exact⟨sl,(hs.2 b (Nat.ne_of_lt (Nat.lt_of_lt_of_le (Heap.lt_size e) (I.ok.cab x c hfn hc)))).trans e1⟩
   . obtain⟨o',e1⟩:=I.base.there b o e hx
     exact⟨o',(hs.2 b (Nat.ne_of_lt (Nat.lt_of_lt_of_le (Heap.lt_size e) (I.ok.cab x c hfn hc)))).trans e1⟩
   . by_cases hj:j=i
     . subst hj
       rw[hi] at e1;cases e1
       rw[List.getElem?_set_self hiσ] at e2
       cases e2
       exact⟨u,r,.inr ⟨.inl hk,c,hc,hc'⟩⟩
     . rw[List.getElem?_set_ne (Ne.symm hj)] at e2
       obtain⟨u',r',q⟩:=hl j y v' e1 e2 e3
       refine⟨u',r',?_⟩
       rcases q with q|⟨k,c',e,z'⟩
       . exact .inl q
       . refine .inr ⟨k,c',e,z'.sameBut hs ?_⟩
         rintro rfl
         exact hj (C0j hN e1 (I.ok.inj _ _ _ e hc▸hi))
   . by_cases hcc:c'=c
     . subst hcc;exact⟨_,hc'⟩
     . obtain⟨w2,z2⟩:=I.cell y c' e
       exact⟨w2,z2.sameBut hs hcc⟩
   . obtain⟨e,n,ne,nf,d⟩:=I.pin p hp
     refine⟨(hs.2 p.1 ?_).trans e,n,ne,nf,d⟩
     intro q
     rw[q,hoc] at e
     have q':oc=p.2:=Option.some.inj e
     exact d w' (by rw[<-q'];exact hocd)
theorem A7v{M:Model}{A:Around}{E:Value ->Shared ->Prop}{i:Nat}{x:Str}{v:V}{u:Value}{Q:Unit ->Shared ->Prop}(I:Inv X pins σ H s)(hN:X.N.Nodup)(hi:X.N[i]?=some x)(hx:Loc X.env.scope x)(r:RelV v u)
   (h:∀s',Inv X pins (σ.set i (some v)) H s' ->Q () s') (hf:X.fn x=true\/X.env.scope.names.lookup x=some .local:=by first|exact .inl rfl|exact .inr rfl|assumption):wpAny M A (storeName X.env x u) Q E s:=
 C8z I hN hi hx r (fun s' I' _=>h s' I') hf
theorem Inv.call'{s':Shared}{ch:List Addr}(I:Inv X pins σ H s)(ho:s'.os=s.os)(u:Un (frs X.stack) ch H H' s.heap s'.heap)(hok:HOk X.prog X.w H' s'.heap)(hg:AllBare s'.gens)
   (hch:∀b∈ch,(b∈X.ex\/X.s₀.heap.objs.size<=b)/\b≠X.env.locals/\(∀x c,X.env.cells.lookup x=some c ->c≠b)/\∀p∈X.pn++pins,p.1≠b):Inv X pins σ H' s':=by
 obtain⟨h',g',d',t',o'⟩:=s'
 have e:o'=s.os:=ho
 subst e
 exact I.call (g':=g') (t':=t') (d':=d') u hok hg hch
end
noncomputable abbrev XK:=Value ->Option Addr ->Hp ->Prop
noncomputable abbrev St:=List (Option V)
noncomputable abbrev VK:=V ->Hp ->Prop
noncomputable abbrev TE:=St ->Hp ->VK ->Prop
noncomputable abbrev TT:=St ->Hp ->(Bool ->Hp ->Prop) ->Prop
noncomputable abbrev TA:=St ->Hp ->(List V ->Hp ->Prop) ->Prop
structure Ends where
 nx:St ->Hp ->Prop
 rt:VK
 bk:St ->Hp ->Prop:=fun _ _=>False
 ct:St ->Hp ->Prop:=fun _ _=>False
noncomputable abbrev TS:=Ends ->St ->Hp ->Prop
noncomputable def EP (X:Cx) (pins:List (Addr×Obj)) (σ:St) (Q:VK) (u:Value) (s':Shared):Prop:=∃v H',Inv X pins σ H' s'/\RelV v u/\Q v H'
noncomputable def TP (X:Cx) (pins:List (Addr×Obj)) (σ:St) (Q:Bool ->Hp ->Prop) (b:Bool) (s':Shared):Prop:=∃H',Inv X pins σ H' s'/\Q b H'
noncomputable def AP (X:Cx) (pins:List (Addr×Obj)) (σ:St) (Q:List V ->Hp ->Prop) (us:List Value) (s':Shared):Prop:=∃vs H',Inv X pins σ H' s'/\Vals vs us/\Q vs H'
noncomputable def SP (X:Cx) (pins:List (Addr×Obj)) (D:Ends) (f:Flow) (s':Shared):Prop:=
 match f with
 | .next=>∃σ' H',Inv X pins σ' H' s'/\D.nx σ' H'
 | .brk=>∃σ' H',Inv X pins σ' H' s'/\D.bk σ' H'
 | .cont=>∃σ' H',Inv X pins σ' H' s'/\D.ct σ' H'
 | .ret u=>∃v σ' H',Inv X pins σ' H' s'/\RelV v u/\D.rt v H'
noncomputable def PE (X:Cx) (e:Expr) (t:TE):Prop:=
 ∀(pins:List (Addr×Obj)) (s:Shared) (σ:St) (H:Hp) (Q:VK),Inv X pins σ H s ->t σ H Q ->wpAny (model X.prog X.w) X.A (eval e X.env) (EP X pins σ Q) X.xe s
noncomputable def PT (X:Cx) (e:Expr) (t:TT):Prop:=
 ∀(pins:List (Addr×Obj)) (s:Shared) (σ:St) (H:Hp) (Q:Bool ->Hp ->Prop),Inv X pins σ H s ->t σ H Q ->wpAny (model X.prog X.w) X.A (isTrue e X.env (eval e X.env)) (TP X pins σ Q) X.xe s
noncomputable def PW (X:Cx) (e:Expr) (t:TT):Prop:=
 ∀(whole:Sem Value) (pins:List (Addr×Obj)) (s:Shared) (σ:St) (H:Hp) (Q:Bool ->Hp ->Prop),Inv X pins σ H s ->t σ H Q ->wpAny (model X.prog X.w) X.A (isTrue e X.env whole) (TP X pins σ Q) X.xe s
theorem PW.pt{X:Cx}{e:Expr}{t:TT}(h:PW X e t):PT X e t:=h _
noncomputable def PA (X:Cx) (es:List Expr) (t:TA):Prop:=
 ∀(pos:Pos) (pins:List (Addr×Obj)) (s:Shared) (σ:St) (H:Hp) (Q:List V ->Hp ->Prop),Inv X pins σ H s ->t σ H Q ->wpAny (model X.prog X.w) X.A (spliced (backTo pos (starEach es X.env))) (AP X pins σ Q) X.xe s
noncomputable def PS (X:Cx) (st:Stmt) (t:TS):Prop:=
 ∀(pins:List (Addr×Obj)) (s:Shared) (σ:St) (H:Hp) (D:Ends),Inv X pins σ H s ->t D σ H ->wpAny (model X.prog X.w) X.A (exec st X.env) (SP X pins D) X.xe s
noncomputable def PSs (X:Cx) (st:List Stmt) (t:TS):Prop:=
 ∀(pins:List (Addr×Obj)) (s:Shared) (σ:St) (H:Hp) (D:Ends),Inv X pins σ H s ->t D σ H ->wpAny (model X.prog X.w) X.A (execs st X.env) (SP X pins D) X.xe s
theorem thn{α:Type}{t:Sem α}{Q Q':α ->Shared ->Prop}{M:Model}{A:Around}{E:Value ->Shared ->Prop}{s:Shared}(h:wpAny M A t Q E s)(hQ:∀a s,Q a s ->Q' a s):wpAny M A t Q' E s:=wpAny_mono h hQ fun _ _ x=>x
section
variable{X:Cx}
noncomputable def Z6f (i:Nat):TE:=fun σ H Q=>∃v,σ[i]?=some (some v)/\Q v H
noncomputable def tC (v:V):TE:=fun _ H Q=>Q v H
theorem G5k{i:Nat}{x:Str}{pos:Pos}(hN:X.N[i]?=some x)(hv:Vis X.env.scope x)(hd:(x==("__debug__":Str))=false:=by decide)(hcd:(x==("__classdict__":Str))=false:=by decide):PE X (.Name x pos) (Z6f i):=by
 intro pins s σ H Q I h
 obtain⟨v,e,h⟩:=h
 obtain⟨m,hn,hl⟩:=I.loc
 obtain⟨u,r,l⟩:=hl i x v hN e hv
 have fin:EP X pins σ Q u s:=⟨v,H,I,r,h⟩
 rcases l with⟨hk,hm⟩|⟨hk,c,hc,hcell⟩
 . exact wpAny_Name (wpAny_loadName_local I.ok.kind hk hn hm fin) hd
 . rcases hk with hk|hk
   . exact wpAny_Name (wpAny_loadName_cell I.ok.kind hk hc hcell fin) hd
   . exact wpAny_Name (wpAny_loadName_free I.ok.kind hk hc hcell fin hcd) hd
theorem A3{i j pos}:PE X (.Constant (.int i) j pos) (tC (.int i)):=fun _ _ _ H _ I h=>wpAny_Constant_int ⟨.int i,H,I.tok _,⟨_,rfl⟩,h⟩
theorem A3h{b j pos}:PE X (.Constant (.bool b) j pos) (tC (.bl b)):=fun _ _ _ H _ I h=>Constant_bool ⟨.bl b,H,I,rfl,h⟩
theorem Y8n{j pos}:PE X (.Constant .none j pos) (tC .non):=fun _ _ _ H _ I h=>Constant_none ⟨.non,H,I,rfl,h⟩
theorem C5{x j pos}:PE X (.Constant (.str x) j pos) (tC (.str x)):=fun _ _ _ H _ I h=>Calls.Constant_str ⟨.str x,H,I.tok _,⟨_,rfl⟩,h⟩
noncomputable def Gl (X:Cx) (x:Str):Prop:=X.env.kindOf x=some .globalImplicit
theorem A1e{E:Value ->Shared ->Prop}{pins:List (Addr×Obj)}{s:Shared}{σ:St}{H:Hp}{x:Str}{u:Value}{pos:Pos}{Q:Value ->Shared ->Prop}(I:Inv X pins σ H s)(hg:Gl X x)(hm:X.mg x=some u)(h:Q u s)
   (hd:(x==("__debug__":Str))=false:=by decide):wpAny (model X.prog X.w) X.A (eval (.Name x pos) X.env) Q E s:=
 Calls.Name_function_global I.ok.kind hg (Calls.loadGlobal_global (by rw[I.ok.glob];exact I.mod.glob.keeps I.bk) hm h) hd
theorem C1x{E:Value ->Shared ->Prop}{pins:List (Addr×Obj)}{s:Shared}{σ:St}{H:Hp}{x:Str}{u:Value}{pos:Pos}{Q:Value ->Shared ->Prop}(I:Inv X pins σ H s)(hg:Gl X x)(hm:X.mg x=none)(hv:bootBuiltins x=some u)(h:Q u s)
   (hn:x≠"__name__":=by decide) (hd:(x==("__debug__":Str))=false:=by decide):wpAny (model X.prog X.w) X.A (eval (.Name x pos) X.env) Q E s:=by
 obtain⟨mb,h1,h2⟩:=I.mod.blt
 exact Calls.Name_function_global I.ok.kind hg (Calls.loadGlobal_builtin (by rw[I.ok.glob];exact I.mod.glob.keeps I.bk) hm (by rw[I.ok.blt];exact h1.keeps I.bk) ((h2 x hn).trans hv) h) hd
theorem Y1p{x:Str}{v:V}{u:Value}{pos:Pos}(hg:Gl X x)(hm:X.mg x=some u)(r:RelV v u)(hd:(x==("__debug__":Str))=false:=by decide):PE X (.Name x pos) (tC v):=
 fun _ _ _ H _ I h=>A1e I hg hm ⟨v,H,I,r,h⟩ hd
theorem Y0n{x:Str}{v:V}{u:Value}{pos:Pos}(hg:Gl X x)(hm:X.mg x=none)(hv:bootBuiltins x=some u)(r:RelV v u)(hn:x≠"__name__":=by decide)(hd:(x==("__debug__":Str))=false:=by decide):PE X (.Name x pos) (tC v):=
 fun _ _ _ H _ I h=>C1x I hg hm hv ⟨v,H,I,r,h⟩ hn hd
variable{a b:Expr}{ta tb:TE}{pos:Pos}
noncomputable def tB (t:TE):TT:=fun σ H Q=>t σ H fun x H1=>∃c,x= .bl c/\Q c H1
theorem Y0{e:Expr}{t:TE}(h:PE X e t)(he:∀whole,isTrue e X.env whole=(do let v<-whole;standAt e.pos;holding [v] (truthy v)):=by intro _;rfl):PT X e (tB t):=by
 intro pins s σ H Q I hw
 refine isTrue_plain (thn (h pins s σ H _ I hw) fun v s1 hh_=>?_) (he _)
 obtain⟨x,H1,I1,r1,q1⟩:=hh_
 obtain⟨d,rfl,q⟩:=q1
 cases r1
 exact wpAny_truthy_bool ⟨H1,I1,q⟩
variable{tA tB':TT}{rest:List Expr}
noncomputable def Z8e (t u:TT):TT:=fun σ H Q=>t σ H fun c H1=>if c=true then u σ H1 Q else Q false H1
noncomputable def tOr (t u:TT):TT:=fun σ H Q=>t σ H fun c H1=>if c=true then Q true H1 else u σ H1 Q
noncomputable def Z8u (t:TT):TT:=fun σ H Q=>t σ H fun c H1=>Q (!c) H1
theorem B4u(ha:PT X a tA):PW X (.BoolOp .And [a] pos) tA:=by
 intro wh pins s σ H Q I h
 refine isTrue_and (thn (ha pins s σ H Q I h) fun c s1 e=>?_)
 cases c with
 |true=>exact isTrue_and_nil e
 |false=>exact e
theorem C1d(ha:PT X a tA):PW X (.BoolOp .Or [a] pos) tA:=by
 intro wh pins s σ H Q I h
 refine isTrue_or (thn (ha pins s σ H Q I h) fun c s1 e=>?_)
 cases c with
 |false=>exact isTrue_or_nil e
 |true=>exact e
theorem C1t(ha:PT X a tA)(hb:PW X (.BoolOp .And (b::rest) pos) tB'):PW X (.BoolOp .And (a::b::rest) pos) (Z8e tA tB'):=by
 intro wh pins s σ H Q I h
 refine isTrue_and (thn (ha pins s σ H _ I h) fun c s1 ⟨H1,I1,q1⟩=>?_)
 cases c with
 |true=>exact hb wh pins s1 σ H1 Q I1 q1
 |false=>exact⟨H1,I1,q1⟩
theorem G1h(ha:PT X a tA)(hb:PW X (.BoolOp .Or (b::rest) pos) tB'):PW X (.BoolOp .Or (a::b::rest) pos) (tOr tA tB'):=by
 intro wh pins s σ H Q I h
 refine isTrue_or (thn (ha pins s σ H _ I h) fun c s1 ⟨H1,I1,q1⟩=>?_)
 cases c with
 |true=>exact⟨H1,I1,q1⟩
 |false=>exact hb wh pins s1 σ H1 Q I1 q1
theorem A2y(ha:PT X a tA):PT X (.UnaryOp .Not a pos) (Z8u tA):=by
 intro pins s σ H Q I h
 exact isTrue_not (ha pins s σ H (fun c H1=>Q (!c) H1) I h)
noncomputable def Z4v (ta tb:TE):TE:=fun σ H Q=>ta σ H fun x H1=>∃c,x= .bl c/\if c=true then tb σ H1 Q else Q (.bl false) H1
noncomputable def Z9x (ta tb:TE):TE:=fun σ H Q=>ta σ H fun x H1=>∃c,x= .bl c/\if c=true then Q (.bl true) H1 else tb σ H1 Q
noncomputable def Z6d (ta:TE):TE:=fun σ H Q=>ta σ H fun x H1=>∃c,x= .bl c/\Q (.bl (!c)) H1
theorem A2r{op}{t:TE}(h:PE X a t):PE X (.BoolOp op [a] pos) t:=fun pins s σ H Q I hw=>BoolOp_one (h pins s σ H Q I hw)
theorem B2x(ha:PE X a ta)(hb:PE X (.BoolOp .And (b::rest) pos) tb):PE X (.BoolOp .And (a::b::rest) pos) (Z4v ta tb):=by
 intro pins s σ H Q I h
 refine BoolOp_and (thn (ha pins s σ H _ I h) fun v s1 hh_=>?_)
 obtain⟨x,H1,I1,r1,q1⟩:=hh_
 obtain⟨c,rfl,q1⟩:=q1
 cases r1
 refine wpAny_truthy_bool ?_
 cases c with
 |true=>exact hb pins s1 σ H1 Q I1 q1
 |false=>exact⟨.bl false,H1,I1,rfl,q1⟩
theorem U4e(ha:PE X a ta)(hb:PE X (.BoolOp .Or (b::rest) pos) tb):PE X (.BoolOp .Or (a::b::rest) pos) (Z9x ta tb):=by
 intro pins s σ H Q I h
 refine BoolOp_or (thn (ha pins s σ H _ I h) fun v s1 hh_=>?_)
 obtain⟨x,H1,I1,r1,q1⟩:=hh_
 obtain⟨c,rfl,q1⟩:=q1
 cases r1
 refine wpAny_truthy_bool ?_
 cases c with
 |false=>exact hb pins s1 σ H1 Q I1 q1
 |true=>exact⟨.bl true,H1,I1,rfl,q1⟩
theorem U7w(ha:PE X a ta):PE X (.UnaryOp .Not a pos) (Z6d ta):=by
 intro pins s σ H Q I h
 refine UnaryOp_ (thn (ha pins s σ H _ I h) fun v s1 hh_=>?_)
 obtain⟨x,H1,I1,r1,q1⟩:=hh_
 obtain⟨c,rfl,q1⟩:=q1
 cases r1
 exact not_of (wpAny_truthy_bool ⟨.bl (!c),H1,I1,rfl,q1⟩)
noncomputable def tIf (t:TT) (ta tb:TE):TE:=fun σ H Q=>t σ H fun c H1=>if c=true then ta σ H1 Q else tb σ H1 Q
theorem A2s{c:Expr}(hc:PT X c tA)(ha:PE X a ta)(hb:PE X b tb):PE X (.IfExp c a b pos) (tIf tA ta tb):=by
 intro pins s σ H Q I h
 refine wpAny_IfExp (thn (hc pins s σ H _ I h) fun d s1 ⟨H1,I1,q1⟩=>?_)
 cases d with
 |true=>exact ha pins s1 σ H1 Q I1 q1
 |false=>exact hb pins s1 σ H1 Q I1 q1
end
noncomputable def SqL (K:PySem.W.Frag) (H:Hp) (a:Addr) (xs:List V):Prop:=
 Rd H a (.lst xs)\/
   ∃(o:Obj) (its:Array Value) (n:Nat),K.lookup a=some o/\o.cls= .type "list"/\o.dict=none/\o.data= .seq its n/\its.size<=sizeLine/\Vals xs its.toList
noncomputable def SqT (K:PySem.W.Frag) (H:Hp) (a:Addr) (xs:List V):Prop:=
 Rd H a (.tup xs)\/
   ∃(o:Obj) (its:Array Value) (n:Nat),K.lookup a=some o/\o.cls= .type "tuple"/\o.data= .seq its n/\its.size<=sizeLine/\Vals xs its.toList
noncomputable def Z8z:Value ->Option V
 | .none=>some .non
 | .bool b=>some (.bl b)
 | .int i _=>some (.int i)
 | .str x _=>some (.str x)
 | .bytes b _=>some (.byt b)
 | .float b _=>some (.flt b)
 | .ref a=>some (.ref a)
 | .type n=>some (.ty n)
 |_=>none
theorem RelV.abs{x:V}{u:Value}(r:RelV x u):Z8z u=some x:=by
 cases x with
 |non=>cases r;rfl
 |bl _=>cases r;rfl
 |int _=>obtain⟨t,rfl⟩:=r;rfl
 |str _=>obtain⟨t,rfl⟩:=r;rfl
 |byt _=>obtain⟨t,rfl⟩:=r;rfl
 |flt _=>obtain⟨t,rfl⟩:=r;rfl
 |ref _=>cases r;rfl
 |ty _=>cases r;rfl
theorem RelV.inj{x y:V}{u:Value}(r:RelV x u)(q:RelV y u):x=y:=Option.some.inj (r.abs.symm.trans q.abs)
theorem Vals.inj:∀{xs ys:List V} {us:List Value},Vals xs us ->Vals ys us ->xs=ys
 |_,_,_,.nil,.nil=>rfl
 |_,_,_,.cons r t,.cons r' t'=>by rw[r.inj r',Vals.inj t t']
section
variable{X:Cx}{pins:List (Addr×Obj)}{σ:St}{H:Hp}{s:Shared}{a:Addr}{xs ys:List V}
theorem SqL.of{K:PySem.W.Frag}(h:H a=some (.lst xs)):SqL K H a xs:= .inl (.inl h)
theorem SqT.of{K:PySem.W.Frag}(h:H a=some (.tup xs)):SqT K H a xs:= .inl (.inl h)
theorem Inv.list(I:Inv X pins σ H s)(h:SqL X.K H a xs):∃its:List Value,Vals xs its/\PlainL s.heap a its.toArray/\xs.length<=sizeLine:=by
 rcases h with h|⟨o,its,n,hk,hc,hd,hs,hz,r⟩
 . obtain⟨z,its,n,r,e⟩:=h.ok I.hok
   exact⟨its,r,⟨_,n,e,rfl,rfl,rfl⟩,z⟩
 . refine⟨its.toList,r,⟨o,n,I.kIn a o hk,hc,hd,by simpa using hs⟩,?_⟩
   have e:=r.length
   simp only[Array.length_toList] at e
   omega
theorem Inv.tuple(I:Inv X pins σ H s)(h:SqT X.K H a xs):∃its:List Value,Vals xs its/\IsTup s.heap a its.toArray/\xs.length<=sizeLine:=by
 rcases h with h|⟨o,its,n,hk,hc,hs,hz,r⟩
 . obtain⟨z,its,r,p⟩:=h.ok I.hok
   exact⟨its,r,p,z⟩
 . refine⟨its.toList,r,⟨o,I.kIn a o hk,hc,n,by simpa using hs⟩,?_⟩
   have e:=r.length
   simp only[Array.length_toList] at e
   omega
theorem Inv.list_inj(I:Inv X pins σ H s)(h:SqL X.K H a xs)(h':SqL X.K H a ys):xs=ys:=by
 obtain⟨its,r,⟨o,n,e,_,_,d⟩,_⟩:=I.list h
 obtain⟨its',r',⟨o',n',e',_,_,d'⟩,_⟩:=I.list h'
 rw[e] at e';cases e'
 rw[d] at d'
 injection d' with d1 _
 have:its=its':=by simpa using congrArg Array.toList d1
 subst this
 exact r.inj r'
theorem Inv.tuple_inj(I:Inv X pins σ H s)(h:SqT X.K H a xs)(h':SqT X.K H a ys):xs=ys:=by
 obtain⟨its,r,⟨o,e,_,n,d⟩,_⟩:=I.tuple h
 obtain⟨its',r',⟨o',e',_,n',d'⟩,_⟩:=I.tuple h'
 rw[e] at e';cases e'
 rw[d] at d'
 injection d' with d1 _
 have:its=its':=by simpa using congrArg Array.toList d1
 subst this
 exact r.inj r'
end
noncomputable abbrev Cx.wish (X:Cx) (E:Value ->Shared ->Prop):Cx:={X with xe:=E}
noncomputable abbrev Cx.nox (X:Cx):Cx:=X.wish fun _ _=>False
theorem Cx.Ok.wish{X:Cx}(ok:X.Ok)(E:Value ->Shared ->Prop):(X.wish E).Ok:=
 ⟨ok.mod,ok.kind,ok.glob,ok.blt,ok.above,ok.inj,ok.has,ok.cab,ok.hd,ok.frames,ok.stk,ok.exf,ok.bs,ok.bsz,ok.noex,ok.exfs,ok.funs,ok.frf⟩
theorem Cx.Ok.unwish{X:Cx}{E:Value ->Shared ->Prop}(ok:(X.wish E).Ok):X.Ok:=
 ⟨ok.mod,ok.kind,ok.glob,ok.blt,ok.above,ok.inj,ok.has,ok.cab,ok.hd,ok.frames,ok.stk,ok.exf,ok.bs,ok.bsz,ok.noex,ok.exfs,ok.funs,ok.frf⟩
section
variable{X:Cx}{pins:List (Addr×Obj)}{σ:St}{H:Hp}{s:Shared}{E:Value ->Shared ->Prop}
theorem Inv.wish(I:Inv X pins σ H s)(E:Value ->Shared ->Prop):Inv (X.wish E) pins σ H s:=⟨I.ok.wish E,I.os,I.bare,I.base,I.loc,I.cell,I.free,I.freeC,I.pin,I.hok,I.len⟩
theorem Inv.unwish(I:Inv (X.wish E) pins σ H s):Inv X pins σ H s:=⟨I.ok.unwish,I.os,I.bare,I.base,I.loc,I.cell,I.free,I.freeC,I.pin,I.hok,I.len⟩
theorem SP.unwish{D:Ends}{f:Flow}{s':Shared}(h:SP (X.wish E) pins D f s'):SP X pins D f s':=by
 cases f with
 |next=>obtain⟨σ',H',I,q⟩:=h;exact⟨σ',H',I.unwish,q⟩
 |brk=>obtain⟨σ',H',I,q⟩:=h;exact⟨σ',H',I.unwish,q⟩
 |cont=>obtain⟨σ',H',I,q⟩:=h;exact⟨σ',H',I.unwish,q⟩
 |ret u=>obtain⟨v,σ',H',I,r,q⟩:=h;exact⟨v,σ',H',I.unwish,r,q⟩
theorem PSs.nox{st:List Stmt}{t:TS}(h:PSs X.nox st t):PSs X st t:=fun pins s σ H D I hw=>
 wpAny_mono (h pins s σ H D (I.wish _) hw) (fun _ _ q=>q.unwish) fun _ _ z=>False.elim z
end
section
variable{X:Cx}{st:Stmt}{rest:List Stmt}{t u:TS}{e:Expr}{te:TE}{pos:Pos}
noncomputable def Z5s:TS:=fun D σ H=>D.nx σ H
noncomputable def Z9t (t u:TS):TS:=fun D σ H=>t {D with nx:=u D} σ H
theorem D4:PSs X [] Z5s:=fun _ _ σ H _ I h=>wpAny_execs_nil ⟨σ,H,I,h⟩
theorem A7(h1:PS X st t)(h2:PSs X rest u):PSs X (st::rest) (Z9t t u):=by
 intro pins s σ H D I h
 refine wpAny_execs_cons (thn (h1 pins s σ H {D with nx:=u D} I h) fun f s1 q=>?_)
 cases f with
 | next=>
   obtain⟨σ',H',I',q⟩:=q
   exact h2 pins s1 σ' H' D I' q
 |ret v=>exact q
 |brk=>exact q
 |cont=>exact q
theorem B3(h1:PS X st t):PSs X [st] t:=by
 intro pins s σ H D I h
 refine wpAny_execs_cons (thn (h1 pins s σ H D I h) fun f s1 q=>?_)
 cases f with
 |next=>exact wpAny_execs_nil q
 |ret v=>exact q
 |brk=>exact q
 |cont=>exact q
theorem Inv.quiet{pins:List (Addr×Obj)}{σ:St}{H:Hp}{s:Shared}(I:Inv X pins σ H s):interactive X.env=false:=by simp[interactive,I.ok.kind]
noncomputable def Z5y (te:TE):TS:=fun D σ H=>te σ H fun _ H1=>D.nx σ H1
theorem A1b(he:PE X e te)(hs:swapsWith e none pos.line X.env=pure false:=by rfl):PS X (.Expr e pos) (Z5y te):=by
 intro pins s σ H D I h
 exact wpAny_Expr_any (thn (he pins s σ H _ I h) fun v s1 ⟨x,H1,I1,r1,q1⟩=>⟨σ,H1,I1,q1⟩) I.quiet hs
noncomputable def tRet (te:TE):TS:=fun D σ H=>te σ H D.rt
theorem C4(he:PE X e te):PS X (.Return (some e) pos) (tRet te):=by
 intro pins s σ H D I h
 exact wpAny_Return_some (thn (he pins s σ H _ I h) fun v s1 ⟨x,H1,I1,r1,q1⟩=>⟨x,σ,H1,I1,r1,q1⟩)
noncomputable def Z9q (c:TT) (t u:TS):TS:=fun D σ H=>c σ H fun b H1=>if b=true then t D σ H1 else u D σ H1
theorem J9{c:Expr}{a b:List Stmt}{tc:TT}(hc:PT X c tc)(ha:PSs X a t)(hb:PSs X b u):PS X (.If c a b pos) (Z9q tc t u):=by
 intro pins s σ H D I h
 refine wpAny_If (thn (hc pins s σ H _ I h) fun d s1 ⟨H1,I1,q1⟩=>?_)
 cases d with
 |true=>exact ha pins s1 σ H1 D I1 q1
 |false=>exact hb pins s1 σ H1 D I1 q1
end
noncomputable abbrev TG:=V ->St ->Hp ->(St ->Hp ->Prop) ->Prop
noncomputable abbrev TGs:=List V ->St ->Hp ->(St ->Hp ->Prop) ->Prop
noncomputable def PG (X:Cx) (target:Expr) (t:TG):Prop:=
 ∀ (pins:List (Addr×Obj)) (s:Shared) (σ:St) (H:Hp) (v:V) (u:Value) (Q:St ->Hp ->Prop),Inv X pins σ H s ->RelV v u ->t v σ H Q ->
   wpAny (model X.prog X.w) X.A (assign target X.env u) (fun _ s'=>∃σ' H',Inv X pins σ' H' s'/\Q σ' H') X.xe s
noncomputable def PGs (X:Cx) (ts:List Expr) (t:TGs):Prop:=
 ∀ (pins:List (Addr×Obj)) (s:Shared) (σ:St) (H:Hp) (vs:List V) (us:List Value) (Q:St ->Hp ->Prop),Inv X pins σ H s ->Vals vs us ->t vs σ H Q ->
   wpAny (model X.prog X.w) X.A (assignInOrder ((assignEach ts X.env).map (·.2)) us) (fun _ s'=>∃σ' H',Inv X pins σ' H' s'/\Q σ' H') X.xe s
noncomputable abbrev TIp:=V ->V ->Hp ->VK ->Prop
noncomputable def PIp (X:Cx) (op:Operator) (t:TIp):Prop:=
 ∀ (pins:List (Addr×Obj)) (s:Shared) (σ:St) (H:Hp) (x y:V) (v u:Value) (Q:VK),Inv X pins σ H s ->RelV x v ->RelV y u ->t x y H Q ->
   wpAny (model X.prog X.w) X.A (inplaceOp op v u) (EP X pins σ Q) X.xe s
section
variable{X:Cx}{pos:Pos}
noncomputable def J6f (i:Nat):TG:=fun v σ H Q=>Q (σ.set i (some v)) H
theorem V6{i:Nat}{x:Str}(hN:X.N.Nodup)(hi:X.N[i]?=some x)(hx:Loc X.env.scope x)(hf:X.fn x=true\/X.env.scope.names.lookup x=some .local:=by first|exact .inl rfl|exact .inr rfl|assumption):PG X (.Name x pos) (J6f i):=by
 intro pins s σ H v u Q I r h
 exact wpAny_assign_Name (A7v I hN hi hx r (fun s' I'=>⟨_,H,I',h⟩) hf)
noncomputable def gNil:TGs:=fun vs σ H Q=>vs=[]/\Q σ H
noncomputable def Z4t (t:TG) (u:TGs):TGs:=fun vs σ H Q=>∃v r,vs=v::r/\t v σ H fun σ' H'=>u r σ' H' Q
theorem B9w:PGs X [] gNil:=by
 intro pins s σ H vs us Q I r h
 obtain⟨e,h⟩:=h
 subst e
 cases r
 exact assignInOrder_nil ⟨σ,H,I,h⟩
theorem Y8{e:Expr}{es:List Expr}{t:TG}{u:TGs}(h1:PG X e t)(h2:PGs X es u)
   (hs:(assignEach (e::es) X.env).map (·.2)=assign e X.env::(assignEach es X.env).map (·.2):=by rfl):PGs X (e::es) (Z4t t u):=by
 intro pins s σ H vs us Q I r h
 obtain⟨v,vr,e1,h⟩:=h
 subst e1
 cases r with
 | cons r rr=>
   rw[hs]
   refine assignInOrder_cons (thn (h1 pins s σ H _ _ _ I r h) fun _ s1 hh_=>?_)
   obtain⟨σ1,H1,I1,q1⟩:=hh_
   exact h2 pins s1 σ1 H1 _ _ Q I1 rr q1
noncomputable def Y7t (K:PySem.W.Frag) (n:Nat) (t:TGs):TG:=fun v σ H Q=>∃a xs,v= .ref a/\SqT K H a xs/\xs.length=n/\t xs σ H Q
theorem G6z{es:List Expr}{k:Nat}{t:TGs}{n:Nat}(hc:X.calm=true)(h:PGs X es t)
   (hn:(assignEach es X.env).length=n:=by rfl) (hst:(assignEach es X.env).findIdx? (·.1)=none:=by rfl):PG X (.Tuple es k pos) (Y7t X.K n t):=by
 intro pins s σ H v u Q I r hw
 obtain⟨a,xs,e1,hq,hl,hw⟩:=hw
 subst e1
 cases r
 obtain⟨its,rv,ht,hz⟩:=I.tuple hq
 refine assign_Tuple_tuple (I.ok.hd hc) ht (by simp[hn, <-hl,rv.length]) hst fun h' hx=>?_
 have I1:Inv X pins σ H {s with heap:=h'}:=I.kept (t':=s.toks) fun b o e=>hx b o (Nat.ne_of_lt (Heap.lt_size e)) e
 exact h pins _ σ H xs _ Q I1 (by simpa using rv) hw
noncomputable def Y7y (te:TE) (g:TG):TS:=fun D σ H=>te σ H fun x H1=>g x σ H1 D.nx
theorem G6t{tg e:Expr}{te:TE}{g:TG}(he:PE X e te)(hg:PG X tg g)(hs:swapsWithSole [tg] e pos.line X.env=pure false:=by rfl)(hw:swappedStores [tg] e X.env=pure none:=by rfl)
   (h1:(assignEach [tg] X.env).map (·.2)=[assign tg X.env]:=by rfl):PS X (.Assign [tg] e pos) (Y7y te g):=by
 intro pins s σ H D I h
 refine wpAny_Assign_stores (thn (he pins s σ H _ I h) fun v s1 hh_=>?_) hs hw
 obtain⟨x,H1,I1,r1,q1⟩:=hh_
 rw[h1]
 exact thn (hg pins s1 σ H1 x v _ I1 r1 q1) fun _ s2 q=>q
theorem D3{i:Nat}{x:Str}{e:Expr}{te:TE}{pos':Pos}(hN:X.N.Nodup)(hi:X.N[i]?=some x)(hx:Loc X.env.scope x)(he:PE X e te)(hs:swapsWith e (some (.Name x pos')) pos.line X.env=pure false:=by rfl)(hf:X.fn x=true\/X.env.scope.names.lookup x=some .local:=by first|exact .inl rfl|exact .inr rfl|assumption):
   PS X (.Assign [.Name x pos'] e pos) (Y7y te (J6f i)):=by
 intro pins s σ H D I h
 refine wpAny_Assign_Name (thn (he pins s σ H _ I h) fun v s1 hh_=>?_) hs
 obtain⟨y,H1,I1,r1,q1⟩:=hh_
 exact A7v I1 hN hi hx r1 (fun s2 I2=>⟨_,H1,I2,q1⟩) hf
noncomputable def Z9p (i:Nat) (te:TE) (ti:TIp):TS:=fun D σ H=>∃x,σ[i]?=some (some x)/\te σ H fun y H1=>ti x y H1 fun z H2=>D.nx (σ.set i (some z)) H2
theorem C0u{i:Nat}{x:Str}{e:Expr}{te:TE}{op:Operator}{ti:TIp}{pos':Pos}(hN:X.N.Nodup)(hi:X.N[i]?=some x)(hx:Loc X.env.scope x)(he:PE X e te)(ho:PIp X op ti)(hf:X.fn x=true\/X.env.scope.names.lookup x=some .local:=by first|exact .inl rfl|exact .inr rfl|assumption):
   PS X (.AugAssign (.Name x pos') op e pos) (Z9p i te ti):=by
 intro pins s σ H D I h
 obtain⟨v,e1,h⟩:=h
 obtain⟨m,hn,hl⟩:=I.loc
 have vis:Vis X.env.scope x:=by rcases hx with k|k;exact .inl k;exact .inr (.inl k)
 obtain⟨u,r,l⟩:=hl i x v hi e1 vis
 refine wpAny_AugAssign_Name ?_
 have go:wpAny (model X.prog X.w) X.A (eval e X.env) (fun w s₂=>wpAny (model X.prog X.w) X.A (inplaceOp op u w) (fun r s₃=>wpAny (model X.prog X.w) X.A (storeName X.env x r) (fun _=>SP X pins D .next) X.xe s₃) X.xe s₂) X.xe s:=by
   refine thn (he pins s σ H _ I h) fun w s1 hh_=>?_
   obtain⟨y,H1,I1,r1,q1⟩:=hh_
   refine thn (ho pins s1 σ H1 v y u w _ I1 r r1 q1) fun z s2 hh_=>?_
   obtain⟨zv,H2,I2,r2,q2⟩:=hh_
   exact A7v I2 hN hi hx r2 (fun s3 I3=>⟨_,H2,I3,q2⟩) hf
 rcases l with⟨hk,hm⟩|⟨hk,c,hc,hcell⟩
 . exact wpAny_loadName_local I.ok.kind hk hn hm go
 . rcases hk with hk|hk
   . exact wpAny_loadName_cell I.ok.kind hk hc hcell go
   . rcases hx with k|k
     . have:X.env.scope.names.lookup x=some .free:=hk
       rw[k] at this;cases this
     . have:X.env.scope.names.lookup x=some .free:=hk
       rw[k] at this;cases this
noncomputable def ipI (f:Int ->Int ->Int):TIp:=fun x y H Q=>∃i j,x= .int i/\y= .int j/\Q (.int (f i j)) H
theorem D0x:PIp X .Add (ipI fun i j=>i+j):=by
 intro pins s σ H x y v u Q I r1 r2 h
 obtain⟨i,j,e1,e2,q⟩:=h
 subst e1;subst e2
 obtain⟨t,rfl⟩:=r1
 obtain⟨t',rfl⟩:=r2
 exact iadd_int ⟨.int _,H,I.tok _,⟨_,rfl⟩,q⟩
theorem Y7n:PIp X .Sub (ipI fun i j=>i-j):=by
 intro pins s σ H x y v u Q I r1 r2 h
 obtain⟨i,j,e1,e2,q⟩:=h
 subst e1;subst e2
 obtain⟨t,rfl⟩:=r1
 obtain⟨t',rfl⟩:=r2
 exact isub_int ⟨.int _,H,I.tok _,⟨_,rfl⟩,q⟩
end
section
variable{X:Cx}{pos:Pos}
noncomputable def U8c (c:TT) (tb:TS):TS:=fun D σ H=>∃W:Nat ->St ->Hp ->Prop,(∃m,W m σ H)/\∀m σ H,W m σ H ->
 c σ H fun b H1=>if b=true then∃N:St ->Hp ->Prop,(∀σ' H',N σ' H' ->∃m',m'<m/\W m' σ' H')/\tb {D with nx:=N,ct:=N,bk:=D.nx} σ H1 else D.nx σ H1
theorem B4s{c:Expr}{body:List Stmt}{tc:TT}{tb:TS}(hp:PassesOwn (model X.prog X.w) X.A X.env X.xe)(hc:PT X c tc)(hb:PSs X body tb):PS X (.While c body [] pos) (U8c tc tb):=by
 intro pins s σ H D I h
 obtain⟨W,⟨m0,w0⟩,turn⟩:=h
 refine wpAny_While (codeAny_whileLoop (fun n s'=>∃σ' H',Inv X pins σ' H' s'/\W n σ' H') ?_ m0 ⟨σ,H,I,w0⟩)
 rintro n s1 ⟨σ1,H1,I1,w1⟩
 refine wpAny_passesOwn hp (thn (hc pins s1 σ1 H1 _ I1 (turn n σ1 H1 w1)) fun b s2 ⟨H2,I2,q2⟩=>?_)
 cases b with
 | true=>
   obtain⟨N,hN,q2⟩:=q2
   rw[if_pos rfl]
   refine wpAny_passesOwn hp (thn (hb pins s2 σ1 H2 _ I2 q2) fun f s3 q3=>?_)
   cases f with
   | next=>
     obtain⟨σ3,H3,I3,n3⟩:=q3
     obtain⟨m',hm,w3⟩:=hN σ3 H3 n3
     exact⟨m',hm,σ3,H3,I3,w3⟩
   | cont=>
     obtain⟨σ3,H3,I3,n3⟩:=q3
     obtain⟨m',hm,w3⟩:=hN σ3 H3 n3
     exact⟨m',hm,σ3,H3,I3,w3⟩
   |brk=>exact q3
   |ret v=>exact q3
 | false=>
   rw[if_neg Bool.false_ne_true]
   exact wpAny_execs_nil ⟨σ1,H2,I2,q2⟩
end
structure It where
 go:Nat ->Hp ->Prop
 yld:Nat ->Hp ->V ->Hp ->Prop
 stop:Nat ->Hp ->Prop
noncomputable def A8g (X:Cx) (pins:List (Addr×Obj)) (H:Hp) (b:Addr):Prop:=
 H b=none/\b≠X.env.locals/\b ∉ X.fs/\(b∈X.ex\/X.s₀.heap.objs.size<=b)/\(∀x c,X.env.cells.lookup x=some c ->c≠b)/\∀p∈X.pn++pins,p.1≠b
theorem Inv.fpOk{X:Cx}{pins:List (Addr×Obj)}{σ:St}{H H':Hp}{s:Shared}{b:Addr}(I:Inv X pins σ H s)(hb:s.heap.objs.size<=b)(hn:H' b=none):A8g X pins H' b:=by
 refine⟨hn,Nat.ne_of_gt (Nat.lt_of_lt_of_le I.lt hb),I.nofs hb,.inr (Nat.le_trans I.sz hb),fun x c e z=>?_,fun p hp z=>?_⟩
 . obtain⟨v,q⟩:=I.cell x c e
   exact absurd (Nat.lt_of_lt_of_le q.lt (by rw[z];exact hb)) (Nat.lt_irrefl _)
 . exact absurd (Nat.lt_of_lt_of_le (Heap.lt_size (I.pin p hp).1) (by rw[z];exact hb)) (Nat.lt_irrefl _)
structure Turn(P:Program)(w:World)(K:PySem.W.Frag)(tg:Expr)(J:It)(fp:List Addr)(it:Addr)(tn:Nat ->Heap ->Prop):Prop where
 mem:it∈fp
 obj:∀i h,tn i h ->∀b∈fp,∃o,h.get? b=some o/\∀v,o.data≠ .cell v
 keep:∀i h h',tn i h ->(∀b∈fp,∀o,h.get? b=some o ->h'.get? b=some o) ->tn i h'
 item:∀(X:Cx),X.prog=P ->X.w=w ->X.K=K ->X.calm=true ->∀(i:Nat) (pins:List (Addr×Obj)) (s:Shared) (σ:St) (H:Hp) (E:Value ->Shared ->Prop),Inv X pins σ H s ->(∀b∈fp,A8g X pins H b) ->tn i s.heap ->J.go i H ->
   wpAny (model P w) X.A (pyNext (.ref it)) (fun r s1=>∃u,r=some u/\
     wpAny (model P w) X.A (letOwnedTupleGo tg (.ref it) u) (fun _ s2=>∃x H',Inv X pins σ H' s2/\RelV x u/\J.yld i H x H'/\tn (i+1) s2.heap/\∀b∈fp,H' b=none) E s1) E s
 done:∀(X:Cx),X.prog=P ->X.w=w ->X.K=K ->X.calm=true ->∀(i:Nat) (pins:List (Addr×Obj)) (s:Shared) (σ:St) (H:Hp) (E:Value ->Shared ->Prop),Inv X pins σ H s ->(∀b∈fp,A8g X pins H b) ->tn i s.heap ->J.stop i H ->
   wpAny (model P w) X.A (pyNext (.ref it)) (fun r s1=>r=none/\Inv X pins σ H s1) E s
 self:∀(A:Around) (i:Nat) (s:Shared) (Q:Value ->Shared ->Prop) (E:Value ->Shared ->Prop),tn i s.heap ->Q (.ref it) s ->wpAny (model P w) A (pyIter (.ref it)) Q E s
noncomputable abbrev TI:=St ->Hp ->(It ->Hp ->Prop) ->Prop
noncomputable def PIE (X:Cx) (pins:List (Addr×Obj)) (σ:St) (tg:Expr) (R:It ->Hp ->Prop) (itv:Value) (s2:Shared):Prop:=
 ∃(it:Addr) (fp:List Addr) (tn:Nat ->Heap ->Prop) (J:It) (H':Hp),itv= .ref it/\Inv X pins σ H' s2/\Turn X.prog X.w X.K tg J fp it tn/\tn 0 s2.heap/\(∀b∈fp,A8g X pins H' b)/\R J H'
noncomputable def PI (X:Cx) (tg iter:Expr) (wi:TI):Prop:=
 ∀ (pins:List (Addr×Obj)) (s:Shared) (σ:St) (H:Hp) (R:It ->Hp ->Prop),Inv X pins σ H s ->wi σ H R ->
   wpAny (model X.prog X.w) X.A (eval iter X.env) (fun v s1=>wpAny (model X.prog X.w) X.A (pyIter v) (PIE X pins σ tg R) X.xe s1) X.xe s
theorem U5p{M:Model}{A:Around}{E:Value ->Shared ->Prop}{s:Shared}{tg:Expr}{it:Addr}{u:Value}{o:Obj}{n:String}{vs:Array Value}{Q:Unit ->Shared ->Prop}(ho:s.heap.get? it=some o)(hc:o.cls= .type n)(hd:o.data= .fields vs)
   (hn: ["enumerate","zip","dict_itemiterator","dict_reverseitemiterator","odict_iterator","itertools.zip_longest","itertools.pairwise"].contains n=false) (hQ:Q () s):wpAny M A (letOwnedTupleGo tg (.ref it) u) Q E s:=by
 unfold letOwnedTupleGo
 cases tg <;>first
   |exact wpAny_pure hQ
   |(cases u<;>first
       |exact wpAny_pure hQ
       | (refine wpAny_bind (wpAny_load ho ?_)
          rw[hc,hd]
          show wpAny M A (if(["enumerate","zip","dict_itemiterator","dict_reverseitemiterator","odict_iterator","itertools.zip_longest","itertools.pairwise"].contains n&&vs[0]?==some (rawInt _))=true then _ else _) Q E s
          rw[if_neg (by intro h;rw[hn,Bool.false_and] at h;cases h)]
          exact wpAny_pure hQ))
noncomputable def Itl (K:PySem.W.Frag) (a:Addr):It:=
 ⟨fun i H=>∃xs x,SqL K H a xs/\xs[i]?=some x,fun i H x H'=>H'=H/\∀xs,SqL K H a xs ->xs[i]?=some x,fun i H=>∃xs,SqL K H a xs/\xs.length<=i⟩
noncomputable def Itt (K:PySem.W.Frag) (a:Addr):It:=
 ⟨fun i H=>∃xs x,SqT K H a xs/\xs[i]?=some x,fun i H x H'=>H'=H/\∀xs,SqT K H a xs ->xs[i]?=some x,fun i H=>∃xs,SqT K H a xs/\xs.length<=i⟩
noncomputable def Itr (lo:Int) (n:Nat):It:=⟨fun i _=>i<n,fun i H x H'=>H'=H/\x= .int (lo+i),fun i _=>n<=i⟩
theorem J8j{P:Program}{w:World}{K:PySem.W.Frag}{tg:Expr}(a it:Addr):Turn P w K tg (Itl K a) [it] it (fun i h=>h.IsListIter it a i) where
 mem:=by simp
 obj:=fun i h st b hb=>by
   have e:b=it:=by simpa using hb
   subst e
   obtain⟨o,e,c,d⟩:=st
   exact⟨o,e,fun v z=>by rw[d] at z;cases z⟩
 keep:=fun i h h' st k=>st.at fun o e=>k it (by simp) o e
 item:=by
   intro X hP hw hK hc i pins s σ H E I hf st hg
   subst hP hw hK
   obtain⟨xs,x,hq,hx⟩:=hg
   obtain⟨its,rv,p,hz⟩:=I.list hq
   obtain⟨u,hu,ru⟩:=rv.get hx
   obtain⟨f0,f1,f2,f3,f4,f5⟩:=hf it (by simp)
   refine wpAny_pyNext_list_item st p.isList (x:=u) (by simpa using hu) fun h' st' sb=>?_
   have I1:Inv X pins σ H {s with heap:=h'}:=I.turned (t':=s.toks) (fun b o hb e=>(sb.2 b hb).trans e) f0 f1 f3 f4 f5
   obtain⟨o,e,c,d⟩:=id st'
   exact⟨u,rfl,U5p (s:={s with heap:=h'}) e c d (by decide) ⟨x,H,I1,ru,⟨rfl,fun ys hy=>by rw[I.list_inj hy hq];exact hx⟩,st',fun b hb=>(hf b hb).1⟩⟩
 done:=by
   intro X hP hw hK hc i pins s σ H E I hf st hg
   subst hP hw hK
   obtain⟨xs,hq,hx⟩:=hg
   obtain⟨its,rv,p,hz⟩:=I.list hq
   obtain⟨f0,f1,f2,f3,f4,f5⟩:=hf it (by simp)
   have hl:=rv.length
   exact wpAny_pyNext_list_end (I.ok.hd hc) st p.isList (by simp;omega) fun h' eb=>⟨rfl,I.turned (t':=s.toks) (fun b o hb e=>eb b o hb e) f0 f1 f3 f4 f5⟩
 self:=fun _ _ _ _ _ st h=>wpAny_pyIter_listiter st h
theorem G6c{P:Program}{w:World}{K:PySem.W.Frag}{tg:Expr}(a it:Addr):Turn P w K tg (Itt K a) [it] it (fun i h=>h.IsTupleIter it a i) where
 mem:=by simp
 obj:=fun i h st b hb=>by
   have e:b=it:=by simpa using hb
   subst e
   obtain⟨o,e,c,d⟩:=st
   exact⟨o,e,fun v z=>by rw[d] at z;cases z⟩
 keep:=fun i h h' st k=>st.at fun o e=>k it (by simp) o e
 item:=by
   intro X hP hw hK hc i pins s σ H E I hf st hg
   subst hP hw hK
   obtain⟨xs,x,hq,hx⟩:=hg
   obtain⟨its,rv,p,hz⟩:=I.tuple hq
   obtain⟨u,hu,ru⟩:=rv.get hx
   obtain⟨f0,f1,f2,f3,f4,f5⟩:=hf it (by simp)
   refine wpAny_pyNext_tuple_item st (show s.heap.IsTuple a its.toArray from p) (x:=u) (by simpa using hu) fun h' st' sb=>?_
   have I1:Inv X pins σ H {s with heap:=h'}:=I.turned (t':=s.toks) (fun b o hb e=>(sb.2 b hb).trans e) f0 f1 f3 f4 f5
   obtain⟨o,e,c,d⟩:=id st'
   exact⟨u,rfl,U5p (s:={s with heap:=h'}) e c d (by decide) ⟨x,H,I1,ru,⟨rfl,fun ys hy=>by rw[I.tuple_inj hy hq];exact hx⟩,st',fun b hb=>(hf b hb).1⟩⟩
 done:=by
   intro X hP hw hK hc i pins s σ H E I hf st hg
   subst hP hw hK
   obtain⟨xs,hq,hx⟩:=hg
   obtain⟨its,rv,p,hz⟩:=I.tuple hq
   obtain⟨f0,f1,f2,f3,f4,f5⟩:=hf it (by simp)
   have hl:=rv.length
   exact wpAny_pyNext_tuple_end (I.ok.hd hc) st (show s.heap.IsTuple a its.toArray from p) (by simp;omega) fun h' eb=>⟨rfl,I.turned (t':=s.toks) (fun b o hb e=>eb b o hb e) f0 f1 f3 f4 f5⟩
 self:=fun _ _ _ _ _ st h=>wpAny_pyIter_tupleiter st h
theorem G6m{P:Program}{w:World}{K:PySem.W.Frag}{tg:Expr}(it:Addr)(lo:Int)(n:Nat):Turn P w K tg (Itr lo n) [it] it (fun i h=>IsRangeIter h it (lo+(i:Nat)*1) ((n:Int)- (i:Nat)) 1) where
 mem:=by simp
 obj :=fun i h st b hb=>by
   have e:b=it:=by simpa using hb
   subst e
   exact⟨_,st,fun v z=>by
     have z':Data.fields _=Data.cell v:=z
     cases z'⟩
 keep:=fun i h h' st k=>k it (by simp) _ st
 item:=by
   intro X hP hw hK hc i pins s σ H E I hf st hg
   subst hP hw hK
   obtain⟨f0,f1,f2,f3,f4,f5⟩:=hf it (by simp)
   have W:=Walks.range (prog:=X.prog) (w:=X.w) (I.ok.hd hc) it lo 1 n
   refine W.item i s _ _ hg st fun v h' tk hv st' kk=>?_
   obtain⟨t,rfl⟩:=hv
   have I1:Inv X pins σ H {s with heap:=h',toks:=tk}:=I.turned (fun b o hb e=>kk b o (by simpa using hb) e) f0 f1 f3 f4 f5
   refine⟨_,rfl,U5p (s:={s with heap:=h',toks:=tk}) (n:="range_iterator") st' rfl rfl (by decide) ⟨.int (lo+i),H,I1,⟨t,?_⟩,⟨rfl,rfl⟩,st',fun b hb=>(hf b hb).1⟩⟩
   rw[Int.mul_one]
 done:=by
   intro X hP hw hK hc i pins s σ H E I hf st hg
   subst hP hw hK
   obtain⟨f0,f1,f2,f3,f4,f5⟩:=hf it (by simp)
   exact wpAny_pyNext_range_end (I.ok.hd hc) st (by have:n<=i:=hg;omega) fun h' eb=>⟨rfl,I.turned (t':=s.toks) (fun b o hb e=>eb b o hb e) f0 f1 f3 f4 f5⟩
 self:=fun _ _ _ _ _ st h=>wpAny_pyIter_rangeiter st h
section
variable{X:Cx}{tg:Expr}
noncomputable def Z4r (K:PySem.W.Frag) (tl:TE):TI:=fun σ H R=>tl σ H fun x H1=>∃a,x= .ref a/\(∃xs,SqL K H1 a xs)/\R (Itl K a) H1
noncomputable def Z4b (K:PySem.W.Frag) (tl:TE):TI:=fun σ H R=>tl σ H fun x H1=>∃a,x= .ref a/\(∃xs,SqT K H1 a xs)/\R (Itt K a) H1
theorem B9x{l:Expr}{tl:TE}(hl:PE X l tl):PI X tg l (Z4r X.K tl):=by
 intro pins s σ H R I h
 refine thn (hl pins s σ H _ I h) fun v s1 hh_=>?_
 obtain⟨x,H1,I1,r1,q1⟩:=hh_
 obtain⟨a,e,⟨xs,hq⟩,q⟩:=q1
 subst e
 cases r1
 obtain⟨its,rv,p,hz⟩:=I1.list hq
 refine wpAny_pyIter_list p.isList ?_
 refine⟨s1.heap.objs.size,[s1.heap.objs.size],_,_,H1,rfl,I1.kept (t':=s1.toks) fun b o e=>Heap.get?_push_of_some _ e,J8j a _,⟨_,Heap.get?_push_size _ rfl,rfl,rfl⟩,fun b hb=>?_,q⟩
 have e:b=s1.heap.objs.size:=by simpa using hb
 subst e
 exact I1.fpOk (Nat.le_refl _) (I1.hok.fresh (Nat.le_refl _))
theorem U5q{l:Expr}{tl:TE}(hl:PE X l tl):PI X tg l (Z4b X.K tl):=by
 intro pins s σ H R I h
 refine thn (hl pins s σ H _ I h) fun v s1 hh_=>?_
 obtain⟨x,H1,I1,r1,q1⟩:=hh_
 obtain⟨a,e,⟨xs,hq⟩,q⟩:=q1
 subst e
 cases r1
 obtain⟨its,rv,p,hz⟩:=I1.tuple hq
 refine wpAny_pyIter_tuple (show s1.heap.IsTuple a its.toArray from p) ?_
 refine⟨s1.heap.objs.size,[s1.heap.objs.size],_,_,H1,rfl,I1.kept (t':=s1.toks) fun b o e=>Heap.get?_push_of_some _ e,G6c a _,⟨_,Heap.get?_push_size _ rfl,rfl,rfl⟩,fun b hb=>?_,q⟩
 have e:b=s1.heap.objs.size:=by simpa using hb
 subst e
 exact I1.fpOk (Nat.le_refl _) (I1.hok.fresh (Nat.le_refl _))
theorem U7p{pins:List (Addr×Obj)}{σ:St}{H:Hp}{s:Shared}{R:It ->Hp ->Prop}{E:Value ->Shared ->Prop}{lo hi:Int}{t u v:Tok}{tk:Nat}(I:Inv X pins σ H s)(h1: -(2^62)<=lo)(h2:lo<2^62)(h3: -(2^62)<=hi)(h4:hi<2^62)
   (q:R (Itr lo (hi-lo).toNat) H):wpAny (model X.prog X.w) X.A (pyIter (.ref s.heap.objs.size)) (PIE X pins σ tg R) E {s with heap:=s.heap.push {cls:= .type "range",data:= .fields #[.int lo t,.int hi u,.int 1 v]},toks:=tk}:=by
 refine wpAny_pyIter_range (IsRange.new ..) (small_one h1 h2 h3 h4) ?_
 have I1:Inv X pins σ H {s with heap:=s.heap.push {cls:= .type "range",data:= .fields #[.int lo t,.int hi u,.int 1 v]},toks:=tk}:=I.kept fun b o e=>Heap.get?_push_of_some _ e
 refine⟨(s.heap.push {cls:= .type "range",data:= .fields #[.int lo t,.int hi u,.int 1 v]}).objs.size,[(s.heap.push {cls:= .type "range",data:= .fields #[.int lo t,.int hi u,.int 1 v]}).objs.size],_,_,H,rfl,
   I1.kept (t':=tk) fun b o e=>Heap.get?_push_of_some _ e,G6m _ lo (hi-lo).toNat,?_,fun b hb=>?_,q⟩
 . have e1:lo+((0:Nat):Int)*1=lo:=by simp
   have e2:(((hi-lo).toNat:Nat):Int)- ((0:Nat):Int)=Builtin.Range.rangeSize lo hi 1:=by rw[rangeSize_one];split<;>omega
   show IsRangeIter _ _ (lo+((0:Nat):Int)*1) ((((hi-lo).toNat:Nat):Int)- ((0:Nat):Int)) 1
   rw[e1,e2]
   exact Heap.get?_push_size _ rfl
 . have e:b=(s.heap.push {cls:= .type "range",data:= .fields #[.int lo t,.int hi u,.int 1 v]}).objs.size:=by simpa using hb
   subst e
   exact I1.fpOk (Nat.le_refl _) (I1.hok.fresh (Nat.le_refl _))
noncomputable def Z3f (ta:TA):TI:=fun σ H R=>ta σ H fun vs H1=>∃j:Int,vs=[.int j]/\ -(2^62)<=j/\j<2^62/\R (Itr 0 j.toNat) H1
theorem J9s{a:Expr}{ta:TA}{p pos:Pos}(hg:Gl X "range")(hm:X.mg "range"=none)(ha:PA X [a] ta)(hs:starEach [a] X.env=[(false,eval a X.env)]:=by rfl):PI X tg (.Call (.Name "range" p) [a] [] pos) (Z3f ta):=by
 intro pins s σ H R I h
 refine Call_ (C1x I hg hm boot_range (PyProof.Rows.callWith_type1 (thn (ha pos pins s σ H _ I h) fun us s1 hh_=>?_) hs rfl))
 obtain⟨vs,H1,I1,r1,q1⟩:=hh_
 obtain⟨j,e,q1,q2,q⟩:=q1
 subst e
 cases r1 with
 | cons r rr=>
   cases rr
   obtain⟨t,rfl⟩:=r
   exact call_range_1 (U7p I1 (by omega) (by omega) q1 q2 (by simpa using q))
noncomputable def Z9e (wi:TI) (g:TG) (tb:TS):TS:=fun D σ H=>wi σ H fun J H1=>∃W:Nat ->Nat ->St ->Hp ->Prop,(∃m,W 0 m σ H1)/\∀i m σ H,W i m σ H ->
 (J.stop i H/\D.nx σ H)\/(J.go i H/\∃N:St ->Hp ->Prop,(∀σ' H',N σ' H' ->∃m',m'<m/\W (i+1) m' σ' H')/\∀x H',J.yld i H x H' ->g x σ H' fun σ2 H2=>tb {D with nx:=N,ct:=N,bk:=D.nx} σ2 H2)
noncomputable def Z9 (fp:List Addr) (h:Heap):List (Addr×Obj):=fp.filterMap fun b=>(h.get? b).map fun o=>(b,o)
theorem A0s{fp:List Addr}{h:Heap}{b:Addr}{o:Obj}(hb:b∈fp)(e:h.get? b=some o):(b,o)∈Z9 fp h:=List.mem_filterMap.mpr ⟨b,hb,by rw[e];rfl⟩
theorem J9d{fp:List Addr}{h:Heap}{p:Addr×Obj}(hp:p∈Z9 fp h):p.1∈fp/\h.get? p.1=some p.2:=by
 obtain⟨b,hb,e⟩:=List.mem_filterMap.mp hp
 cases q:h.get? b with
 |none=>rw[q] at e;cases e
 | some o=>
   rw[q] at e
   have e':(b,o)=p:=Option.some.inj e
   subst e'
   exact⟨hb,q⟩
theorem Inv.pinned{pins:List (Addr×Obj)}{σ:St}{H:Hp}{s:Shared}{fp:List Addr}(I:Inv X pins σ H s)(hf:∀b∈fp,A8g X pins H b)(ho:∀b∈fp,∃o,s.heap.get? b=some o/\∀v,o.data≠ .cell v):Inv X (pins++Z9 fp s.heap) σ H s:=
 I.pins_of fun p hp=>(List.mem_append.mp hp).elim (fun z=>I.pin p (List.mem_append_right _ z)) fun z=>by
   obtain⟨hb,e⟩:=J9d z
   obtain⟨f0,f1,f2,_⟩:=hf p.1 hb
   obtain⟨o,e',d⟩:=ho p.1 hb
   rw[e] at e';cases e'
   exact⟨e,f0,f1,f2,d⟩
theorem Inv.unpinned{pins pl:List (Addr×Obj)}{σ:St}{H:Hp}{s:Shared}(I:Inv X (pins++pl) σ H s):Inv X pins σ H s:=I.pins_of fun p hp=>I.pin p (List.mem_append_right _ (List.mem_append_left _ hp))
theorem G5t{iter:Expr}{body:List Stmt}{wi:TI}{g:TG}{tb:TS}{pos:Pos}(hp:PassesOwn (model X.prog X.w) X.A X.env X.xe)(hc:X.calm=true)(hi:PI X tg iter wi)(hg:PG X tg g)(hb:PSs X body tb)
   (hs:∀x,foldedSetIterable iter X.env x=pure x:=by intro _;rfl):PS X (.For tg iter body [] pos) (Z9e wi g tb):=by
 intro pins s σ H D I h
 refine wpAny_For (thn (hi pins s σ H _ I h) fun v s1 h1=>thn h1 fun itv s2 h2=>?_) hs
 obtain⟨it,fp,tn,J,H2,e,I2,T,st2,f2,W,⟨m0,w0⟩,turn⟩:=h2
 subst e
 have stat:∀{H':Hp},(∀b∈fp,H' b=none) ->∀b∈fp,A8g X pins H' b:=fun hn b hb=>⟨hn b hb,(f2 b hb).2⟩
 refine codeAny_forLoop_any (fun n s'=>∃i σ' H',Inv X pins σ' H' s'/\tn i s'.heap/\(∀b∈fp,H' b=none)/\W i n σ' H') ?_ m0 ⟨0,σ,H2,I2,st2,fun b hb=>(f2 b hb).1,w0⟩
 rintro n s3 ⟨i,σ3,H3,I3,st3,fr3,w3⟩
 rcases turn i n σ3 H3 w3 with⟨stop,qn⟩|⟨go,N,hN,step⟩
 . refine wpAny_passesOwn hp (thn (T.done X rfl rfl rfl hc i pins s3 σ3 H3 X.xe I3 (stat fr3) st3 stop) fun r s4 ⟨hr,I4⟩=>?_)
   subst hr
   exact wpAny_execs_nil ⟨σ3,H3,I4,qn⟩
 . refine wpAny_passesOwn hp (thn (T.item X rfl rfl rfl hc i pins s3 σ3 H3 X.xe I3 (stat fr3) st3 go) fun r s4 ⟨u,hr,h4⟩=>?_)
   subst hr
   refine wpAny_passesOwn hp (thn h4 fun _ s5 hh_=>?_)
   obtain⟨x,H5,I5,r5,y5,st5,fr5⟩:=hh_
   have I5':=I5.pinned (stat fr5) (T.obj _ _ st5)
   refine wpAny_passesOwn hp (thn (hg _ s5 σ3 H5 x u _ I5' r5 (step x H5 y5)) fun _ s6 hh_=>?_)
   obtain⟨σ6,H6,I6,q6⟩:=hh_
   refine wpAny_passesOwn hp (thn (hb _ s6 σ6 H6 _ I6 q6) fun f s7 q7=>?_)
   have again:∀{σ7:St} {H7:Hp},Inv X (pins++Z9 fp s5.heap) σ7 H7 s7 ->N σ7 H7 ->∃m,m<n/\∃i σ' H',Inv X pins σ' H' s7/\tn i s7.heap/\(∀b∈fp,H' b=none)/\W i m σ' H':=fun{σ7 H7} I7 n7=>by
     obtain⟨m',hm,w7⟩:=hN σ7 H7 n7
     refine⟨m',hm,i+1,σ7,H7,I7.unpinned,T.keep _ _ _ st5 fun b hb o e=>(I7.pin (b,o) (List.mem_append_right _ (List.mem_append_right _ (A0s hb e)))).1,fun b hb=>?_,w7⟩
     obtain⟨o,e,d⟩:=T.obj _ _ st5 b hb
     exact(I7.pin (b,o) (List.mem_append_right _ (List.mem_append_right _ (A0s hb e)))).2.1
   cases f with
   |next=>obtain⟨σ7,H7,I7,n7⟩:=q7;exact again I7 n7
   |cont=>obtain⟨σ7,H7,I7,n7⟩:=q7;exact again I7 n7
   |brk=>obtain⟨σ7,H7,I7,q7⟩:=q7;exact⟨σ7,H7,I7.unpinned,q7⟩
   |ret v=>obtain⟨x7,σ7,H7,I7,r7,q7⟩:=q7;exact⟨x7,σ7,H7,I7.unpinned,r7,q7⟩
end
theorem C1q{K:PySem.W.Frag}{a:Addr}{xs:List V}{g:TG}{tb:TS}{D:Ends}{σ:St}{H:Hp}(Pv:Nat ->St ->Hp ->Prop)(h0:Pv 0 σ H)(hl:∀i σ H,i<=xs.length ->Pv i σ H ->SqL K H a xs)
   (hs:∀i x σ H,xs[i]?=some x ->Pv i σ H ->g x σ H fun σ2 H2=>tb {D with nx:=Pv (i+1),ct:=Pv (i+1),bk:=D.nx} σ2 H2) (hd:∀σ H,Pv xs.length σ H ->D.nx σ H):
   ∃ W:Nat ->Nat ->St ->Hp ->Prop,(∃m,W 0 m σ H)/\∀i m σ H,W i m σ H ->
     ((Itl K a).stop i H/\D.nx σ H)\/((Itl K a).go i H/\∃N:St ->Hp ->Prop,(∀σ' H',N σ' H' ->∃m',m'<m/\W (i+1) m' σ' H')/\∀x H',(Itl K a).yld i H x H' ->g x σ H' fun σ2 H2=>tb {D with nx:=N,ct:=N,bk:=D.nx} σ2 H2):=by
 refine⟨fun i m σ H=>m=xs.length-i/\i<=xs.length/\Pv i σ H,⟨xs.length,by simp,Nat.zero_le _,h0⟩,?_⟩
 rintro i m σ H ⟨rfl,hi,p⟩
 have q:=hl i σ H hi p
 by_cases hlt:i<xs.length
 . refine .inr ⟨⟨xs,xs[i],q,by simp[hlt]⟩,Pv (i+1),fun σ' H' p'=>⟨xs.length-(i+1),by omega,rfl,hlt,p'⟩,fun x H' y=>?_⟩
   obtain⟨e,y⟩:=y
   subst e
   exact hs i x σ _ (y xs q) p
 . have e:i=xs.length:=by omega
   subst e
   exact .inl ⟨⟨xs,q,Nat.le_refl _⟩,hd σ H p⟩
theorem J8y{lo:Int}{n:Nat}{g:TG}{tb:TS}{D:Ends}{σ:St}{H:Hp}(Pv:Nat ->St ->Hp ->Prop)(h0:Pv 0 σ H)
   (hs:∀i σ H,i<n ->Pv i σ H ->g (.int (lo+i)) σ H fun σ2 H2=>tb {D with nx:=Pv (i+1),ct:=Pv (i+1),bk:=D.nx} σ2 H2) (hd:∀σ H,Pv n σ H ->D.nx σ H):
   ∃ W:Nat ->Nat ->St ->Hp ->Prop,(∃m,W 0 m σ H)/\∀i m σ H,W i m σ H ->
     ((Itr lo n).stop i H/\D.nx σ H)\/((Itr lo n).go i H/\∃N:St ->Hp ->Prop,(∀σ' H',N σ' H' ->∃m',m'<m/\W (i+1) m' σ' H')/\∀x H',(Itr lo n).yld i H x H' ->g x σ H' fun σ2 H2=>tb {D with nx:=N,ct:=N,bk:=D.nx} σ2 H2):=by
 refine⟨fun i m σ H=>m=n-i/\i<=n/\Pv i σ H,⟨n,by simp,Nat.zero_le _,h0⟩,?_⟩
 rintro i m σ H ⟨rfl,hi,p⟩
 by_cases hlt:i<n
 . refine .inr ⟨hlt,Pv (i+1),fun σ' H' p'=>⟨n-(i+1),by omega,rfl,hlt,p'⟩,fun x H' y=>?_⟩
   obtain⟨e,y⟩:=y
   subst e y
   exact hs i σ _ hlt p
 . have e:i=n:=by omega
   subst e
   exact .inl ⟨Nat.le_refl _,hd σ H p⟩
theorem B4q{c:TT}{tb:TS}{D:Ends}{σ:St}{H:Hp}(Pv:St ->Hp ->Prop)(μ:St ->Hp ->Nat)(h0:Pv σ H)
   (hs:∀σ H,Pv σ H ->c σ H fun b H1=>if b=true then tb {D with nx:=fun σ' H'=>Pv σ' H'/\μ σ' H'<μ σ H,ct:=fun σ' H'=>Pv σ' H'/\μ σ' H'<μ σ H,bk:=D.nx} σ H1 else D.nx σ H1)
   (mono:∀σ H Q Q',(∀b H1,Q b H1 ->Q' b H1) ->c σ H Q ->c σ H Q'):U8c c tb D σ H:=by
 refine⟨fun m σ H=>m=μ σ H/\Pv σ H,⟨_,rfl,h0⟩,?_⟩
 rintro m σ H ⟨rfl,p⟩
 refine mono σ H _ _ (fun b H1 q=>?_) (hs σ H p)
 cases b with
 |true=>exact⟨_,fun σ' H' ⟨p',l⟩=>⟨_,l,rfl,p'⟩,q⟩
 |false=>exact q
noncomputable abbrev R2:=V ->V ->Hp ->VK ->Prop
noncomputable def OpR (X:Cx) (f:Value ->Value ->Sem Value) (r:R2):Prop:=
 ∀ (pins:List (Addr×Obj)) (s:Shared) (σ:St) (H:Hp) (x y:V) (v u:Value) (Q:VK),Inv X pins σ H s ->RelV x v ->RelV y u ->r x y H Q ->
   wpAny (model X.prog X.w) X.A (f v u) (EP X pins σ Q) X.xe s
noncomputable def UnR (X:Cx) (f:Value ->Sem Value) (r:V ->Hp ->VK ->Prop):Prop:=
 ∀ (pins:List (Addr×Obj)) (s:Shared) (σ:St) (H:Hp) (x:V) (v:Value) (Q:VK),Inv X pins σ H s ->RelV x v ->r x H Q ->
   wpAny (model X.prog X.w) X.A (f v) (EP X pins σ Q) X.xe s
noncomputable def A8j (X:Cx) (f:Value) (r:List V ->Hp ->VK ->Prop):Prop:=
 ∀ (pins:List (Addr×Obj)) (s:Shared) (σ:St) (H:Hp) (xs:List V) (us:List Value) (Q:VK),Inv X pins σ H s ->Vals xs us ->r xs H Q ->
   wpAny (model X.prog X.w) X.A (call f us) (EP X pins σ Q) X.xe s
noncomputable def tOp (r:R2) (ta tb:TE):TE:=fun σ H Q=>ta σ H fun x H1=>tb σ H1 fun y H2=>r x y H2 Q
noncomputable def tUn (r:V ->Hp ->VK ->Prop) (ta:TE):TE:=fun σ H Q=>ta σ H fun x H1=>r x H1 Q
noncomputable def rI (C:Int ->Int ->Prop) (g:Int ->Int ->V):R2:=fun x y H Q=>∃i j,x= .int i/\y= .int j/\C i j/\Q (g i j) H
noncomputable def rI0 (g:Int ->Int ->V):R2:=fun x y H Q=>∃i j,x= .int i/\y= .int j/\Q (g i j) H
noncomputable def rU (g:Int ->V):V ->Hp ->VK ->Prop:=fun x H Q=>∃i,x= .int i/\Q (g i) H
section
variable{X:Cx}{a b c:Expr}{ta tb tc:TE}{pos:Pos}
theorem Y8f(ha:PE X a ta)(hb:PE X b tb){pins:List (Addr×Obj)}{s:Shared}{σ:St}{H:Hp}{R:V ->V ->Hp ->Prop}(I:Inv X pins σ H s)
   (h:ta σ H fun x H1=>tb σ H1 fun y H2=>R x y H2) {Q:Value ->Shared ->Prop} {f:Value ->Value ->Sem Value}
   (hf:∀v u s2 x y H2,Inv X pins σ H2 s2 ->RelV x v ->RelV y u ->R x y H2 ->wpAny (model X.prog X.w) X.A (f v u) Q X.xe s2):
   wpAny (model X.prog X.w) X.A (eval a X.env) (fun v s₁=>wpAny (model X.prog X.w) X.A (eval b X.env) (fun u s₂=>wpAny (model X.prog X.w) X.A (f v u) Q X.xe s₂) X.xe s₁) X.xe s:=by
 refine thn (ha pins s σ H _ I h) fun v s1 hh_=>?_
 obtain⟨x,H1,I1,r1,q1⟩:=hh_
 refine thn (hb pins s1 σ H1 _ I1 q1) fun u s2 hh_=>?_
 obtain⟨y,H2,I2,r2,q2⟩:=hh_
 exact hf v u s2 x y H2 I2 r1 r2 q2
theorem B7{op:Operator}{r:R2}(ho:OpR X (binaryOp op) r)(ha:PE X a ta)(hb:PE X b tb):PE X (.BinOp a op b pos) (tOp r ta tb):=by
 intro pins s σ H Q I h
 exact wpAny_BinOp (Y8f ha hb I h fun v u s2 x y H2 I2 rx ry q=>ho pins s2 σ H2 x y v u Q I2 rx ry q)
theorem G0r{op:UnaryOp}{r:V ->Hp ->VK ->Prop}(ho:UnR X (unaryOp op) r)(ha:PE X a ta):PE X (.UnaryOp op a pos) (tUn r ta):=by
 intro pins s σ H Q I h
 exact UnaryOp_ (thn (ha pins s σ H _ I h) fun v s1 ⟨x,H1,I1,r1,q1⟩=>ho pins s1 σ H1 x v Q I1 r1 q1)
theorem opI{f:Value ->Value ->Sem Value}{C:Int ->Int ->Prop}{g:Int ->Int ->Int}
   (rule:∀(i j:Int) (t u:Tok) (s:Shared) (Q:Value ->Shared ->Prop) (E:Value ->Shared ->Prop),C i j ->Q (.int (g i j) s.toks) {s with toks:=s.toks+1} ->wpAny (model X.prog X.w) X.A (f (.int i t) (.int j u)) Q E s):
   OpR X f (rI C fun i j=> .int (g i j)):=by
 intro pins s σ H x y v u Q I rx ry h
 obtain⟨i,j,rfl,rfl,hc,q⟩:=h
 obtain⟨t,rfl⟩:=rx
 obtain⟨t',rfl⟩:=ry
 exact rule i j t t' s _ _ hc ⟨.int (g i j),H,I.tok _,⟨_,rfl⟩,q⟩
theorem Z5p{f:Value ->Value ->Sem Value}{g:Int ->Int ->Int}
   (rule:∀(i j:Int) (t u:Tok) (s:Shared) (Q:Value ->Shared ->Prop) (E:Value ->Shared ->Prop),Q (.int (g i j) s.toks) {s with toks:=s.toks+1} ->wpAny (model X.prog X.w) X.A (f (.int i t) (.int j u)) Q E s):
   OpR X f (rI0 fun i j=> .int (g i j)):=by
 intro pins s σ H x y v u Q I rx ry h
 obtain⟨i,j,rfl,rfl,q⟩:=h
 obtain⟨t,rfl⟩:=rx
 obtain⟨t',rfl⟩:=ry
 exact rule i j t t' s _ _ ⟨.int (g i j),H,I.tok _,⟨_,rfl⟩,q⟩
theorem Y0y{f:Value ->Value ->Sem Value}{g:Int ->Int ->Bool}
   (rule:∀(i j:Int) (t u:Tok) (s:Shared) (Q:Value ->Shared ->Prop) (E:Value ->Shared ->Prop),Q (.bool (g i j)) s ->wpAny (model X.prog X.w) X.A (f (.int i t) (.int j u)) Q E s):
   OpR X f (rI0 fun i j=> .bl (g i j)):=by
 intro pins s σ H x y v u Q I rx ry h
 obtain⟨i,j,rfl,rfl,q⟩:=h
 obtain⟨t,rfl⟩:=rx
 obtain⟨t',rfl⟩:=ry
 exact rule i j t t' s _ _ ⟨.bl (g i j),H,I,rfl,q⟩
noncomputable def Z5q (i j:Int):Prop:=0<=j/\j<=1000000/\i.natAbs<2^64
noncomputable def CMul (i j:Int):Prop:=(-(2^64)<i/\i<2^64)\/(-(2^64)<j/\j<2^64)
theorem CMul.ok{i j:Int}(h:CMul i j):IntMulOk i j:=by
 rcases h with⟨h1,h2⟩|⟨h1,h2⟩
 . exact .of_left (intBits_le_64 h1 h2)
 . exact .of_right (intBits_le_64 h1 h2)
theorem G8:OpR X (binaryOp .Add) (rI0 fun i j=> .int (i+j)):=Z5p fun _ _ _ _ _ _ _ q=>add_int q
theorem U2:OpR X (binaryOp .Sub) (rI0 fun i j=> .int (i-j)):=Z5p fun _ _ _ _ _ _ _ q=>sub_int q
theorem G5:OpR X (binaryOp .Mod) (rI (fun _ j=>0<j) fun i j=> .int (i % j)):=opI fun i j _ _ _ _ _ hc q=>by
 have h1:(0:Int)<j:=hc
 exact mod_int' (by omega) (by rw[Int.fmod_eq_emod_of_nonneg i (by omega)];exact q)
theorem U6w:OpR X (binaryOp .Pow) (rI Z5q fun i j=> .int (i^j.toNat)):=opI fun _ _ _ _ _ _ _ hc q=>pow_int_small hc.1 hc.2.1 hc.2.2 q
theorem unI{f:Value ->Sem Value}{g:Int ->Int}
   (rule:∀(i:Int) (t:Tok) (s:Shared) (Q:Value ->Shared ->Prop) (E:Value ->Shared ->Prop),Q (.int (g i) s.toks) {s with toks:=s.toks+1} ->wpAny (model X.prog X.w) X.A (f (.int i t)) Q E s):
   UnR X f (rU fun i=> .int (g i)):=by
 intro pins s σ H x v Q I rx h
 obtain⟨i,rfl,q⟩:=h
 obtain⟨t,rfl⟩:=rx
 exact rule i t s _ _ ⟨.int (g i),H,I.tok _,⟨_,rfl⟩,q⟩
theorem C0k:UnR X (unaryOp .USub) (rU fun i=> .int (-i)):=unI fun _ _ _ _ _ q=>neg_int q
end
noncomputable def Z5t:V ->V ->Bool
 | .non,.non=>true| .non,.int _=>true| .int _,.non=>true| .non,.bl _=>true| .bl _,.non=>true| .non,.str _=>true| .str _,.non=>true
 | .int _,.int _=>true| .bl _,.bl _=>true| .str _,.str _=>true| .byt _,.byt _=>true
 | .int _,.str _=>true| .str _,.int _=>true| .bl _,.str _=>true| .str _,.bl _=>true
 |_,_=>false
noncomputable def rEq:R2:=fun x y H Q=>Z5t x y=true/\Q (.bl (decide (x=y))) H
noncomputable def rNe:R2:=fun x y H Q=>Z5t x y=true/\Q (.bl (!decide (x=y))) H
theorem J6c{i j:Int}:decide (V.int i=V.int j)=(i==j):=by
 rw[Bool.eq_iff_iff]
 simp
theorem U8d{i j:Bool}:decide (V.bl i=V.bl j)=(i==j):=by
 rw[Bool.eq_iff_iff]
 simp
theorem J6t{i j:Str}:decide (V.str i=V.str j)=(i==j):=by
 rw[Bool.eq_iff_iff]
 simp
theorem J6j{i j:Array UInt8}:decide (V.byt i=V.byt j)=(i.toList==j.toList):=by
 rw[Bool.eq_iff_iff]
 cases i
 cases j
 simp
section
variable{X:Cx}{a b c:Expr}{ta tb tc:TE}{pos:Pos}
theorem U3{pins:List (Addr×Obj)}{σ:St}{H:Hp}{s:Shared}{Q:VK}{k k':Bool}(I:Inv X pins σ H s)(q:Q (.bl k) H)(e:k=k'):EP X pins σ Q (.bool k') s:=by
 subst e
 exact⟨.bl k,H,I,rfl,q⟩
theorem U0:OpR X (compareOp .Eq) rEq:=by
 intro pins s σ H x y v u Q I rx ry h
 obtain⟨hs,q⟩:=h
 cases x with
 | non=>
   cases rx
   cases y with
   |non=>cases ry;exact PySem.EqNone.eq_none_none (U3 I q (by simp))
   |bl j=>cases ry;exact PySem.EqNone.eq_none_bool (U3 I q (by simp))
   |int j=>obtain⟨t',rfl⟩:=ry;exact PySem.EqNone.eq_none_int (U3 I q (by simp))
   |str j=>obtain⟨t',rfl⟩:=ry;exact PySem.EqNone.eq_none_str (U3 I q (by simp))
   |_=>exact absurd (show false=true from hs) Bool.false_ne_true
 | bl i=>
   cases rx
   cases y with
   |non=>cases ry;exact PySem.EqNone.eq_bool_none (U3 I q (by simp))
   |bl j=>cases ry;exact eq_bool (U3 I q U8d)
   |str j=>obtain⟨t',rfl⟩:=ry;exact PySem.EqMixed.eq_bool_str (U3 I q (by simp))
   |_=>exact absurd (show false=true from hs) Bool.false_ne_true
 | int i=>
   obtain⟨t,rfl⟩:=rx
   cases y with
   |non=>cases ry;exact PySem.EqNone.eq_int_none (U3 I q (by simp))
   |int j=>obtain⟨t',rfl⟩:=ry;exact eq_int (U3 I q J6c)
   |str j=>obtain⟨t',rfl⟩:=ry;exact PySem.EqMixed.eq_int_str (U3 I q (by simp))
   |_=>exact absurd (show false=true from hs) Bool.false_ne_true
 | str i=>
   obtain⟨t,rfl⟩:=rx
   cases y with
   |non=>cases ry;exact PySem.EqNone.eq_str_none (U3 I q (by simp))
   |bl j=>cases ry;exact PySem.EqMixed.eq_str_bool (U3 I q (by simp))
   |int j=>obtain⟨t',rfl⟩:=ry;exact PySem.EqMixed.eq_str_int (U3 I q (by simp))
   |str j=>obtain⟨t',rfl⟩:=ry;exact eq_str (U3 I q J6t)
   |_=>exact absurd (show false=true from hs) Bool.false_ne_true
 | byt i=>
   obtain⟨t,rfl⟩:=rx
   cases y with
   |byt j=>obtain⟨t',rfl⟩:=ry;exact PySem.W.eq_bytes (U3 I q J6j)
   |_=>exact absurd (show false=true from hs) Bool.false_ne_true
 |_=>cases y<;>exact absurd (show false=true from hs) Bool.false_ne_true
theorem J5v:OpR X (compareOp .NotEq) rNe:=by
 intro pins s σ H x y v u Q I rx ry h
 obtain⟨hs,q⟩:=h
 cases x with
 | non=>
   cases rx
   cases y with
   |non=>cases ry;exact PySem.EqNone.ne_none_none (U3 I q (by simp))
   |bl j=>cases ry;exact PySem.EqNone.ne_none_bool (U3 I q (by simp))
   |int j=>obtain⟨t',rfl⟩:=ry;exact PySem.EqNone.ne_none_int (U3 I q (by simp))
   |str j=>obtain⟨t',rfl⟩:=ry;exact PySem.EqNone.ne_none_str (U3 I q (by simp))
   |_=>exact absurd (show false=true from hs) Bool.false_ne_true
 | bl i=>
   cases rx
   cases y with
   |non=>cases ry;exact PySem.EqNone.ne_bool_none (U3 I q (by simp))
   |bl j=>cases ry;exact ne_bool (U3 I q (congrArg not U8d))
   |str j=>obtain⟨t',rfl⟩:=ry;exact PySem.EqMixed.ne_bool_str (U3 I q (by simp))
   |_=>exact absurd (show false=true from hs) Bool.false_ne_true
 | int i=>
   obtain⟨t,rfl⟩:=rx
   cases y with
   |non=>cases ry;exact PySem.EqNone.ne_int_none (U3 I q (by simp))
   |int j=>obtain⟨t',rfl⟩:=ry;exact ne_int (U3 I q (congrArg not J6c))
   |str j=>obtain⟨t',rfl⟩:=ry;exact PySem.EqMixed.ne_int_str (U3 I q (by simp))
   |_=>exact absurd (show false=true from hs) Bool.false_ne_true
 | str i=>
   obtain⟨t,rfl⟩:=rx
   cases y with
   |non=>cases ry;exact PySem.EqNone.ne_str_none (U3 I q (by simp))
   |bl j=>cases ry;exact PySem.EqMixed.ne_str_bool (U3 I q (by simp))
   |int j=>obtain⟨t',rfl⟩:=ry;exact PySem.EqMixed.ne_str_int (U3 I q (by simp))
   |str j=>obtain⟨t',rfl⟩:=ry;exact ne_str (U3 I q (congrArg not J6t))
   |_=>exact absurd (show false=true from hs) Bool.false_ne_true
 | byt i=>
   obtain⟨t,rfl⟩:=rx
   cases y with
   |byt j=>obtain⟨t',rfl⟩:=ry;exact PySem.W.ne_bytes (U3 I q (congrArg not J6j))
   |_=>exact absurd (show false=true from hs) Bool.false_ne_true
 |_=>cases y<;>exact absurd (show false=true from hs) Bool.false_ne_true
theorem C0c:OpR X (compareOp .Lt) (rI0 fun i j=> .bl (decide (i<j))):=Y0y fun _ _ _ _ _ _ _ q=>lt_int q
theorem U4f:OpR X (compareOp .LtE) (rI0 fun i j=> .bl (decide (i<=j))):=Y0y fun _ _ _ _ _ _ _ q=>le_int q
theorem C2b:OpR X (compareOp .Gt) (rI0 fun i j=> .bl (decide (j<i))):=Y0y fun _ _ _ _ _ _ _ q=>gt_int q
theorem J5r:OpR X (compareOp .GtE) (rI0 fun i j=> .bl (decide (j<=i))):=Y0y fun _ _ _ _ _ _ _ q=>ge_int q
theorem J8u:OpR X (compareOp .In) (fun x y H Q=>∃i j,x= .str i/\y= .str j/\Q (.bl (!(Builtin.Str.occurrences j i 0 j.length 1).isEmpty)) H):=by
 intro pins s σ H x y v u Q I rx ry h
 obtain⟨i,j,rfl,rfl,q⟩:=h
 obtain⟨t,rfl⟩:=rx
 obtain⟨t',rfl⟩:=ry
 exact in_str (U3 I q rfl)
theorem Y8j:OpR X (compareOp .Is) (fun x y H Q=>y= .non/\Q (.bl (decide (x= .non))) H):=by
 intro pins s σ H x y v u Q I rx ry h
 obtain⟨rfl,q⟩:=h
 cases ry
 refine is_none_gen (U3 I q ?_)
 cases x<;>first
   |(cases rx;rfl)
   |(obtain⟨t,rfl⟩:=rx;rfl)
theorem C8(b:Expr){op:CmpOp}(h:op≠ .In:=by decide)(h2:op≠ .NotIn:=by decide):behindInMarks op b=false:=by
 have e1:(op==CmpOp.In)=false:=by cases op<;>first|rfl|exact absurd rfl h
 have e2:(op==CmpOp.NotIn)=false:=by cases op<;>first|rfl|exact absurd rfl h2
 cases b<;>simp[behindInMarks,e1,e2]
theorem G3{op:CmpOp}{r:R2}(ho:OpR X (compareOp op) r)(ha:PE X a ta)(hb:PE X b tb)(hm:behindInMarks op b=false):PE X (.Compare a [op] [b] pos) (tOp r ta tb):=by
 intro pins s σ H Q I h
 exact wpAny_Compare1 (Y8f ha hb I h fun v u s2 x y H2 I2 rx ry q=>ho pins s2 σ H2 x y v u Q I2 rx ry q) hm
noncomputable def Z5a (t:TE):TT:=fun σ H Q=>t σ H fun x H'=>∃k,x= .bl k/\Q k H'
theorem D0{op:CmpOp}{r:R2}(ho:OpR X (compareOp op) r)(ha:PE X a ta)(hb:PE X b tb)(hm:behindInMarks op b=false):PT X (.Compare a [op] [b] pos) (Z5a (tOp r ta tb)):=by
 intro pins s σ H Q I h
 refine wpAny_isTrue_Compare1 (thn (ha pins s σ H _ I h) fun v s1 ⟨x,H1,I1,r1,q1⟩=>thn (hb pins s1 σ H1 _ I1 q1) fun u s2 ⟨y,H2,I2,r2,q2⟩=>
   thn (ho pins s2 σ H2 x y v u _ I2 r1 r2 q2) fun c s3 ⟨z,H3,I3,r3,k,e,q3⟩=>?_) hm
 subst e
 cases r3
 exact wpAny_truthy_bool ⟨H3,I3,q3⟩
theorem C0p:(sizeLine:Nat)<2^63:=by rw[sizeLine_eq];decide
theorem G6w:OpR X (binaryOp .Add) (fun x y H Q=>∃i j,x= .str i/\y= .str j/\i.length+j.length<=sizeLine/\Q (.str (i++j)) H):=by
 intro pins s σ H x y v u Q I rx ry h
 obtain⟨i,j,rfl,rfl,hz,q⟩:=h
 obtain⟨t,rfl⟩:=rx
 obtain⟨t',rfl⟩:=ry
 exact add_str (fun t' tk=>⟨.str (i++j),H,I.tok _,⟨_,rfl⟩,q⟩) hz
theorem C1g{x:V}{us:List Value}(r:Vals [x] us):∃u,us=[u]/\RelV x u:=by
 cases r with
 |cons r1 r2=>cases r2;exact⟨_,rfl,r1⟩
theorem Z6g{x y:V}{us:List Value}(r:Vals [x,y] us):∃u w',us=[u,w']/\RelV x u/\RelV y w':=by
 cases r with
 | cons r1 r2=>
   cases r2 with
   |cons r3 r4=>cases r4;exact⟨_,_,rfl,r1,r3⟩
theorem A0a(hc:X.calm=true):A8j X (.builtin "max") (fun xs H Q=>∃i j,xs=[.int i,.int j]/\Q (.int (if j>i then j else i)) H):=by
 intro pins s σ H xs us Q I r h
 obtain⟨i,j,rfl,q⟩:=h
 obtain⟨u,w',rfl,⟨t,rfl⟩,⟨t',rfl⟩⟩:=Z6g r
 refine max_two_ints (I.ok.hd hc) fun h' tk k=>⟨_,H,I.kept k,?_,q⟩
 by_cases hj:j>i
 . rw[if_pos hj,if_pos hj];exact⟨_,rfl⟩
 . rw[if_neg hj,if_neg hj];exact⟨_,rfl⟩
theorem A2m:A8j X (.type "int") (fun xs H Q=>(∃i,xs=[.int i]/\Q (.int i) H)\/∃k,xs=[.bl k]/\Q (.int (if k then 1 else 0)) H):=by
 intro pins s σ H xs us Q I r h
 rcases h with⟨i,rfl,q⟩|⟨k,rfl,q⟩
 . obtain⟨u,rfl,t,rfl⟩:=C1g r
   exact call_int_int ⟨.int i,H,I,⟨_,rfl⟩,q⟩
 . obtain⟨u,rfl,r1⟩:=C1g r
   cases r1
   exact call_int_bool ⟨.int (if k then 1 else 0),H,I.tok _,⟨_,rfl⟩,q⟩
theorem V5:A8j X (.type "str") (fun xs H Q=>∃i,xs=[.int i]/\i.natAbs.log2<1920/\Q (.str (toString i)) H):=by
 intro pins s σ H xs us Q I r h
 obtain⟨i,rfl,hz,q⟩:=h
 obtain⟨u,rfl,t,rfl⟩:=C1g r
 exact PySem.P.str_of_int hz ⟨.str _,H,I.tok _,⟨_,rfl⟩,q⟩
end
structure ObjM(h:Heap)(x dx C:Addr)(mA:Str ->Option Value):Prop where
 obj:h.get? x=some (PySem.W.instObj C dx)
 ns:h.Ns1 dx mA
 ne:dx≠x
theorem B5w{h:Heap}{dx:Addr}{mA:Str ->Option Value}(n:h.Ns1 dx mA):∃od,h.get? dx=some od/\∀name,PySem.W.lookIn name od=some (mA name):=by
 obtain⟨o,es,ep,ho,hd,hk,_,hm⟩:=n
 refine⟨o,ho,fun name=>?_⟩
 have e:=hm name
 unfold nsFind findBy at e
 rw[<-Array.find?_toList] at e
 unfold PySem.W.lookIn
 rw[hd]
 dsimp only
 split
 . rename_i y q
   rw[q] at e
   exact congrArg some e
 . rename_i q
   rw[q] at e
   have a:es.toList.any (·.refKey)=false:=by
     rw[List.any_eq_false]
     intro y hy
     obtain⟨z,t,hkey⟩:=hk y (Array.mem_toList_iff.mp hy)
     simp[DictEntry.refKey,hkey]
   have a':¬es.toList.any (·.refKey)=true:=by rw[a];exact Bool.false_ne_true
   rw[if_neg a']
   exact congrArg some e
theorem ObjM.look{h:Heap}{x dx C:Addr}{mA:Str ->Option Value}(I:ObjM h x dx C mA):∃od,PySem.W.InstAt h x (PySem.W.instObj C dx) C (some od)/\∀name,PySem.W.lookIn name od=some (mA name):=
 let⟨od,ho,hl⟩:=B5w I.ns
 ⟨od,⟨I.obj,rfl,rfl,ho⟩,hl⟩
section
variable{prog:Program}{w:World}{A:Around}{E:Value ->Shared ->Prop}{s:Shared}{K:PySem.W.Frag}{x dx C f:Addr}{mA:Str ->Option Value}{name:Str}{v:Value}
theorem Y2b{expr:Bool}{Q:Value ->Shared ->Prop}(X:K.In s.heap)(I:ObjM s.heap x dx C mA)(hg:PySem.W.plainGet K C name=true)(hh:PySem.W.hasDictIn K C=true)
   (ha:PySem.W.findIn K (.ref C) name=some none) (hv:mA name=some v) (hv':PySem.W.handedIn v=true) (h:Q v {s with toks:=s.toks+1}):
   wpAny (model prog w) A (getAttr (.ref x) name expr) Q E s:=by
 obtain⟨od,J,hl⟩:=I.look
 exact PySem.W.get_value X J (PySem.W.plainGet_of hg).1 (PySem.W.findObj_own hh ha rfl (by rw[hl,hv])) hv' h
theorem U6m{pl:Sem Bool}{Q:Value×List Value ->Shared ->Prop}(X:K.In s.heap)(I:ObjM s.heap x dx C mA)(hg:PySem.W.plainGet K C name=true)
   (hf:PySem.W.findIn K (.ref C) name=some (some (.ref f))) (ht:PySem.W.isFn K (.ref f)=true) (hv:mA name=none) (h:Q (.ref f,[.ref x]) s):
   wpAny (model prog w) A (getMethod (.ref x) name pl) Q E s:=by
 obtain⟨od,J,hl⟩:=I.look
 exact PySem.W.method_fn X J (PySem.W.plainGet_of hg).1 (PySem.W.plainGet_of hg).2 hf (beq_iff_eq.mp ht) (by show(PySem.W.lookIn name od).map (·.isSome)=some false;rw[hl,hv];rfl) h
theorem Y0m{ns:List Str}{Q:Unit ->Shared ->Prop}(X:K.In s.heap)(I:ObjM s.heap x dx C mA)
   (hs:PySem.W.findIn K (.ref C) "__setattr__"=some (some (.builtin "object.__setattr__"))) (hp:PySem.W.plainOver K C=true) (ht:PySem.W.takerIn K C name=some none) (hh:PySem.W.hasDictIn K C=true)
   (hw:PySem.Within mA ns) (hsz:ns.length<=sizeLine)
   (h:∀h',ObjM h' x dx C (fun y=>if y=name then some v else mA y) ->Heap.SameBut dx s.heap h' ->Q () {s with heap:=h',toks:=s.toks+2}):
   wpAny (model prog w) A (setAttr (.ref x) name v) Q E s:=by
 obtain⟨od,J,hl⟩:=I.look
 refine PySem.W.set_plain X J hs (PySem.W.osa_open (s:={s with toks:=s.toks+1}) (r:=none) X J hp ht fun b=>?_)
 obtain⟨cd,hc,hd'⟩:=PySem.W.any_some hh
 have hx:s.heap.get? x=some ⟨.ref C,some dx,.plain, #[]⟩:=I.obj
 refine wpAny_bind (wpAny_pure (wpAny_bind (wpAny_bind (wpAny_loadPart hx (wpAny_bind (PySem.W.Looks.here (s:={s with toks:=s.toks+1}) (PySem.W.looks_clsIn X hc) ?_))))))
 rw[hd']
 refine wpAny_pure (a:=some dx) (wpAny_bind (wpAny_pure (wpAny_bind ?_)))
 refine wpAny_nsSet1 (s:={s with toks:=s.toks+1}) I.ns fun h' hn2 hs2=>?_
 obtain⟨oD,esD,epD,hoD,hdD,hcD⟩:=hn2.count (PySem.Within.cons name v hw)
 refine wpAny_bind (wpAny_lookBehind hoD (by rw[hdD];exact pastItsLine_dict (Nat.le_trans hcD (by rw[List.length_cons];omega))) ?_)
 exact wpAny_pure (h _ ⟨(hs2.2 _ (Ne.symm I.ne)).trans I.obj,hn2,I.ne⟩ hs2)
theorem G1w{R:Result ->Shared ->Prop}{vs:List Value}{kw:List (Str×Value)}(X:K.In s.heap)(hm:PySem.W.makesIn K C=true)
   (hi:PySem.W.findIn K (.ref C) "__init__"=some (some (.ref f))) (hf:PySem.W.typeIn K (.ref f)=some (.type "function"))
   (h:codeAny (model prog w) (A.under (.builtin "type.__call__" ⟨.ref C::vs,kw⟩)) (.call (.ref f) ⟨.ref (s.heap.objs.size+1)::vs,kw⟩) (PySem.W.InitBack (s.heap.objs.size+1) R)
     {s with heap:=(s.heap.push PySem.W.emptyDict).push (PySem.W.instObj C s.heap.objs.size)}):
   codeAny (model prog w) A (.call (.ref C) ⟨vs,kw⟩) R s:=by
 obtain⟨hh,g,d,t,os⟩:=s
 exact PySem.W.make_core (PySem.W.makes_of X hm) (PySem.W.looks_findIn X hi) (fun self=>PySem.W.bind_fn X self hf) (.inl rfl) h
theorem J9t{R:Result ->Shared ->Prop}(X:K.In s.heap)(hm:PySem.W.makesIn K C=true)
   (hi:PySem.W.findIn K (.ref C) "__init__"=some (some (.builtin "object.__init__")))
   (hb:∀self,PySem.W.Looks (model prog w) s.heap (bindSpecial (.builtin "object.__init__") self) (.builtin "object.__init__",[self]))
   (h:codeAny (model prog w) (A.under (.builtin "type.__call__" ⟨[.ref C],[]⟩)) (.call (.builtin "object.__init__") ⟨[.ref (s.heap.objs.size+1)],[]⟩) (PySem.W.InitBack (s.heap.objs.size+1) R)
     {s with heap:=(s.heap.push PySem.W.emptyDict).push (PySem.W.instObj C s.heap.objs.size)}):
   codeAny (model prog w) A (.call (.ref C) ⟨[],[]⟩) R s:=by
 obtain⟨hh,g,d,t,os⟩:=s
 exact PySem.W.make_core (PySem.W.makes_of X hm) (PySem.W.looks_findIn X hi) hb (.inr ⟨rfl,rfl⟩) h
end
noncomputable def V4 (f:Str) (v:V):List (Str×V) ->List (Str×V)
 | []=>[(f,v)]
 |(g,x)::r=>if g=f then(g,v)::r else(g,x)::V4 f v r
theorem D6(f g:Str)(v:V):∀fs:List (Str×V),(V4 f v fs).lookup g=if g=f then some v else fs.lookup g
 | []=>by
   show List.lookup g [(f,v)]=_
   by_cases h:g=f
   . have hb:(g==f)=true:=beq_iff_eq.mpr h
     simp only[List.lookup,hb,if_pos h]
   . have hb:(g==f)=false:=beq_eq_false_iff_ne.mpr h
     simp only[List.lookup,hb,if_neg h]
 | (k, x)::r=>by
   have ih:=D6 f g v r
   rw[show V4 f v ((k,x)::r)=(if k=f then(k,v)::r else(k,x)::V4 f v r) from rfl]
   by_cases hk:k=f
   . rw[if_pos hk]
     by_cases h:g=k
     . have hb:(g==k)=true:=beq_iff_eq.mpr h
       simp only[List.lookup,hb,if_pos (h.trans hk)]
     . have hb:(g==k)=false:=beq_eq_false_iff_ne.mpr h
       simp only[List.lookup,hb,if_neg (fun e:g=f=>h (e.trans hk.symm))]
   . rw[if_neg hk]
     by_cases h:g=k
     . have hb:(g==k)=true:=beq_iff_eq.mpr h
       simp only[List.lookup,hb,if_neg (fun e:g=f=>hk (h.symm.trans e))]
     . have hb:(g==k)=false:=beq_eq_false_iff_ne.mpr h
       simp only[List.lookup,hb]
       exact ih
theorem B5r(f:Str)(v:V):∀fs:List (Str×V),f∈(V4 f v fs).map (·.1)/\∀g,g∈fs.map (·.1) ->g∈(V4 f v fs).map (·.1)
 | []=>⟨by simp[V4],fun g h=>by simp at h⟩
 | (k, x)::r=>by
   obtain⟨i1,i2⟩:=B5r f v r
   rw[show V4 f v ((k,x)::r)=(if k=f then(k,v)::r else(k,x)::V4 f v r) from rfl]
   by_cases hk:k=f
   . rw[if_pos hk]
     subst hk
     exact⟨by simp,fun g h=>by simpa using h⟩
   . rw[if_neg hk]
     refine⟨?_,fun g h=>?_⟩
     . rw[List.map_cons]
       exact List.mem_cons_of_mem _ i1
     . rw[List.map_cons] at h ⊢
       rcases List.mem_cons.mp h with e|e
       . exact List.mem_cons.mpr (.inl e)
       . exact List.mem_cons_of_mem _ (i2 g e)
theorem A1g(f:Str)(v:V):∀fs:List (Str×V),(V4 f v fs).length<=fs.length+1
 | []=>by simp[V4]
 | (k,x)::r=>by
   have ih:=A1g f v r
   rw[show V4 f v ((k,x)::r)=(if k=f then(k,v)::r else(k,x)::V4 f v r) from rfl]
   by_cases hk:k=f
   . rw[if_pos hk,List.length_cons,List.length_cons];omega
   . rw[if_neg hk,List.length_cons,List.length_cons];omega
theorem RelO.some_of{v:V}{o:Option Value}(r:RelO (some v) o):∃u,o=some u/\RelV v u:=by
 cases o with
 |none=>exact(show False from r).elim
 |some u=>exact⟨u,rfl,r⟩
theorem RelO.none_of{o:Option Value}(r:RelO none o):o=none:=by
 cases o with
 |none=>rfl
 |some u=>exact(show False from r).elim
theorem C9s{v:V}{u:Value}(r:RelV v u):PySem.W.handedIn u=true:=by
 cases v with
 |non=>cases(show u=Value.none from r);rfl
 |bl b=>cases(show u=Value.bool b from r);rfl
 |int i=>obtain⟨t,e⟩:=(show∃t,u=Value.int i t from r);cases e;rfl
 |str x=>obtain⟨t,e⟩:=(show∃t,u=Value.str x t from r);cases e;rfl
 |byt b=>obtain⟨t,e⟩:=(show∃t,u=Value.bytes b t from r);cases e;rfl
 |flt b=>obtain⟨t,e⟩:=(show∃t,u=Value.float b t from r);cases e;rfl
 |ref a=>cases(show u=Value.ref a from r);rfl
 |ty n=>cases(show u=Value.type n from r);rfl
section
variable{P:Program}{w:World}{H H':Hp}{h h':Heap}{a C dx:Addr}{fs fs':List (Str×V)}
theorem B9v(hok:HOk P w H h)(e:H a=some (.ins C dx fs)):∃mA,ObjM h a dx C mA/\(∀f,RelO (fs.lookup f) (mA f))/\PySem.Within mA (fs.map (·.1))/\fs.length<=1000/\H dx=some (.own a):=by
 obtain⟨d,z,ne,ob,mA,n,r,q⟩:=(show ObjOk P w H h a (.ins C dx fs) from hok a _ e)
 exact⟨mA,⟨ob,n,ne⟩,r,q,z,d⟩
end
structure Cls(K:PySem.W.Frag)(C:Addr):Prop where
 pg:PySem.W.plainGet K C Str.empty=true
 hd:PySem.W.hasDictIn K C=true
 po:PySem.W.plainOver K C=true
 sa:PySem.W.findIn K (.ref C) "__setattr__"=some (some (.builtin "object.__setattr__"))
theorem Cls.get{K:PySem.W.Frag}{C:Addr}(c:Cls K C)(f:Str):PySem.W.plainGet K C f=true:=c.pg
noncomputable def NoAttr (K:PySem.W.Frag) (C:Addr) (f:Str):Prop:=PySem.W.findIn K (.ref C) f=some none
theorem NoAttr.taker{K:PySem.W.Frag}{C:Addr}{f:Str}(n:NoAttr K C f):PySem.W.takerIn K C f=some none:=by
 unfold PySem.W.takerIn
 rw[show PySem.W.findIn K (.ref C) f=some none from n]
 rfl
structure Meth(K:PySem.W.Frag)(C:Addr)(m:Str)(f:Addr):Prop where
 at_:PySem.W.findIn K (.ref C) m=some (some (.ref f))
 fn:PySem.W.isFn K (.ref f)=true
 kp:PySem.W.keepIn K (.ref f)=true
section
variable{X:Cx}{pins:List (Addr×Obj)}{σ:St}{H:Hp}{s:Shared}{a C dx:Addr}{fs:List (Str×V)}{f:Str}{v:V}{A:Around}{E:Value ->Shared ->Prop}
theorem G7j{b:Bool}{Q:Value ->Shared ->Prop}(I:Inv X pins σ H s)(e:H a=some (.ins C dx fs))(c:Cls X.K C)(n:NoAttr X.K C f)(l:fs.lookup f=some v)
   (h:∀u s',Inv X pins σ H s' ->RelV v u ->Q u s'):wpAny (model X.prog X.w) A (getAttr (.ref a) f b) Q E s:=by
 obtain⟨mA,O,r,_,_,_⟩:=B9v I.hok e
 obtain⟨u,hu,ru⟩:=RelO.some_of (v:=v) (o:=mA f) (by rw[<-l];exact r f)
 exact Y2b I.kIn O (c.get f) c.hd n hu (C9s ru) (h u _ (I.tok _) ru)
theorem C0y{m:Str}{g:Addr}{pl:Sem Bool}{Q:Value×List Value ->Shared ->Prop}(I:Inv X pins σ H s)(e:H a=some (.ins C dx fs))(c:Cls X.K C)(k:Meth X.K C m g)(l:fs.lookup m=none)
   (h:Q (.ref g,[.ref a]) s):wpAny (model X.prog X.w) A (getMethod (.ref a) m pl) Q E s:=by
 obtain⟨mA,O,r,_,_,_⟩:=B9v I.hok e
 have hn:mA m=none:=RelO.none_of (by rw[<-l];exact r m)
 exact U6m I.kIn O (c.get m) k.at_ k.fn hn h
theorem G6a{y:V}{u:Value}{Q:Unit ->Shared ->Prop}(I:Inv X pins σ H s)(e:H a=some (.ins C dx fs))(c:Cls X.K C)(n:NoAttr X.K C f)(hl:fs.length<1000)(ry:RelV y u)
   (h:∀s',Inv X pins σ (upd H a (.ins C dx (V4 f y fs))) s' ->Q () s'):wpAny (model X.prog X.w) A (setAttr (.ref a) f u) Q E s:=by
 obtain⟨mA,O,r,wi,_,ho⟩:=B9v I.hok e
 have hz:(fs.map (·.1)).length<=sizeLine:=by rw[List.length_map,sizeLine_eq];omega
 refine Y0m I.kIn O c.sa c.po n.taker c.hd wi hz fun h' O' sb=>h _ ?_
 have hd:∃o,h'.get? dx=some o:=let⟨o,_,_,e',_⟩:=O'.ns;⟨o,e'⟩
 refine I.write (x:=a) (e:=dx) (by rw[e];exact True.intro) (.inr ho) (fun b q hb z=>(sb.2 b hb).trans z) hd ?_
 refine⟨by rw[C6 O.ne];exact ho,?_,O.ne,O'.obj,_,O'.ns,fun g=>?_,fun g hg=>?_⟩
 . have:=A1g f y fs;omega
 . show RelO ((V4 f y fs).lookup g) (if g=f then some u else mA g)
   rw[D6]
   by_cases q:g=f
   . rw[if_pos q,if_pos q];exact ry
   . rw[if_neg q,if_neg q];exact r g
 . by_cases q:g=f
   . rw[q];exact(B5r f y fs).1
   . refine(B5r f y fs).2 g (wi g fun z=>hg ?_)
     show(if g=f then some u else mA g)=none
     rw[if_neg q];exact z
theorem Inv.made(I:Inv X pins σ H s):Inv X pins σ (upd (upd H s.heap.objs.size (.own (s.heap.objs.size+1))) (s.heap.objs.size+1) (.ins C s.heap.objs.size []))
   {s with heap:=(s.heap.push PySem.W.emptyDict).push (PySem.W.instObj C s.heap.objs.size)}:=by
 have e1:(s.heap.push PySem.W.emptyDict).get? s.heap.objs.size=some PySem.W.emptyDict:=Heap.get?_push_size s.heap rfl
 have e2:((s.heap.push PySem.W.emptyDict).push (PySem.W.instObj C s.heap.objs.size)).get? (s.heap.objs.size+1)=some (PySem.W.instObj C s.heap.objs.size):=by
   have:=Heap.get?_push_size (s.heap.push PySem.W.emptyDict) (o:=PySem.W.instObj C s.heap.objs.size) rfl
   rwa[Heap.size_push] at this
 have e3:(s.heap.push PySem.W.emptyDict).Ns s.heap.objs.size (fun _=>none):=⟨PySem.W.emptyDict, #[],_,e1,rfl,(fun e he=>absurd he (by simp)),fun _=>rfl⟩
 have I1:=I.laid (a:=s.heap.objs.size) (o:= .own (s.heap.objs.size+1)) (h':=s.heap.push PySem.W.emptyDict) (t':=s.toks) (fun b u q=>Heap.get?_push_of_some _ q) (Nat.le_refl _) ⟨_,e1⟩
 refine I1.laid (a:=s.heap.objs.size+1) (o:= .ins C s.heap.objs.size []) (t':=s.toks) (fun b u q=>Heap.get?_push_of_some _ q) (Nat.le_of_eq (Heap.size_push _ _)) ?_
 have ne:s.heap.objs.size≠s.heap.objs.size+1:=Nat.ne_of_lt (Nat.lt_succ_self _)
 refine⟨by rw[C6 ne,A6],Nat.zero_le _,ne,e2,fun _=>none,(Heap.Ns1.of_empty e3).at fun o q=>Heap.get?_push_of_some _ q,fun _=>True.intro,fun y hy=>absurd rfl hy⟩
theorem J6g{prog:Program}{w:World}{env:Env}{e:Expr}{f:Str}{pos:Pos}{s:Shared}{Q:Value ->Shared ->Prop}(hb:attributeBase e f env (eval e env)=eval e env)
   (h:wpAny (model prog w) A (eval e env) (fun o s₁=>wpAny (model prog w) A (getAttr o f true) Q E s₁) E s):wpAny (model prog w) A (eval (.Attribute e f pos) env) Q E s:=
 Attribute_any_ h (by rw[arm_eval_Attribute,hb])
end
noncomputable def Z9s (K:PySem.W.Frag) (ta:TE) (f:Str):TE:=fun σ H Q=>ta σ H fun x H1=>∃a C dx fs v,x= .ref a/\H1 a=some (.ins C dx fs)/\Cls K C/\NoAttr K C f/\fs.lookup f=some v/\Q v H1
noncomputable def Z9m (K:PySem.W.Frag) (ta tv:TE) (f:Str):TS:=fun D σ H=>tv σ H fun y H1=>ta σ H1 fun x H2=>∃a C dx fs,x= .ref a/\H2 a=some (.ins C dx fs)/\Cls K C/\NoAttr K C f/\fs.length<1000/\
 D.nx σ (upd H2 a (.ins C dx (V4 f y fs)))
section
variable{X:Cx}{o e value:Expr}{f:Str}{pos pos' tpos:Pos}{ta tv:TE}
theorem U7(he:PE X e ta)(hb:attributeBase e f X.env (eval e X.env)=eval e X.env):PE X (.Attribute e f pos) (Z9s X.K ta f):=by
 intro pins s σ H Q I h
 refine J6g hb (thn (he pins s σ H _ I h) fun u s1 hh_=>?_)
 obtain⟨x,H1,I1,rx,a,C,dx,fs,v,ex,ea,c,n,l,q⟩:=hh_
 subst ex
 obtain rfl:u=Value.ref a:=rx
 exact G7j I1 ea c n l fun u' s2 I2 ru=>⟨v,H1,I2,ru,q⟩
theorem Z5(ha:PE X o ta)(hv:PE X value tv)(hs:swapsWith value (some (.Attribute o f pos')) pos.line X.env=pure false):PS X (.Assign [.Attribute o f pos'] value pos) (Z9m X.K ta tv f):=by
 intro pins s σ H D I h
 refine plainObj_wpAny_Assign_Attribute (thn (hv pins s σ H _ I h) fun u s1 ⟨y,H1,I1,ry,q⟩=>thn (ha pins s1 σ H1 _ I1 q) fun ov s2 hh_=>?_) hs
 obtain⟨x,H2,I2,rx,a,C,dx,fs,ex,ea,c,n,l,q2⟩:=hh_
 subst ex
 obtain rfl:ov=Value.ref a:=rx
 exact G6a I2 ea c n l ry fun s3 I3=>⟨σ,_,I3,q2⟩
end
section
variable{X:Cx}{pins:List (Addr×Obj)}{σ:St}{H:Hp}{s:Shared}{A:Around}{E:Value ->Shared ->Prop}{Q:Value ->Shared ->Prop}{c:Value}{b:Bool}
inductive TyOf(K:PySem.W.Frag)(H:Hp):V ->Value ->Prop where
 |non:TyOf K H .non (.type "NoneType")
 |bl (x:Bool):TyOf K H (.bl x) (.type "bool")
 |int (i:Int):TyOf K H (.int i) (.type "int")
 |str (x:Str):TyOf K H (.str x) (.type "str")
 |flt (x:UInt64):TyOf K H (.flt x) (.type "float")
 |lst {a:Addr} {xs:List V} (e:H a=some (.lst xs)):TyOf K H (.ref a) (.type "list")
 |frz {a:Addr} {o:Obj} {xs:List V} (e:H a=some (.frz o (.lst xs))):TyOf K H (.ref a) (.type "list")
 |tup {a:Addr} {xs:List V} (e:H a=some (.tup xs)):TyOf K H (.ref a) (.type "tuple")
 |dK {a:Addr} {kvs:List (Key×V)} (e:H a=some (.dK kvs)):TyOf K H (.ref a) (.type "dict")
 |dT {a:Addr} {kvs:List (List Key×V)} (e:H a=some (.dT kvs)):TyOf K H (.ref a) (.type "dict")
 |ins {a C dx:Addr} {fs:List (Str×V)} (e:H a=some (.ins C dx fs)) (cl:Cls K C) (ha:PySem.W.findIn K (.ref C) "__class__"=some (some (.builtin "object.__class__")))
     (hn:PySem.W.specialIn K (.builtin "object.__class__") "__get__"=some (some (.builtin "getset_descriptor.__get__"))) (htk:PySem.W.takesIn K (.builtin "object.__class__")=some true)
     (hm:PySem.W.mroIn K C (.type "object")=some true):TyOf K H (.ref a) (.ref C)
theorem J9b{x:V}{u t:Value}(I:Inv X pins σ H s)(rx:RelV x u)(ty:TyOf X.K H x t)(e:PySem.W.kitOne X.K t c=some b)(h:∀tk,Q (.bool b) {s with toks:=tk}):
   wpAny (model X.prog X.w) A (call (.builtin "isinstance") [u,c]) Q E s:=by
 cases ty with
 |non=>cases(show u=Value.none from rx);exact PySem.W.kia_one PySem.W.kitx_none I.kIn True.intro e (fun z=>nomatch z) h
 |bl y=>cases(show u=Value.bool y from rx);exact PySem.W.kia_one PySem.W.kitx_bool I.kIn True.intro e (fun z=>nomatch z) h
 |int i=>obtain⟨t,q⟩:=(show∃t,u=Value.int i t from rx);cases q;exact PySem.W.kia_one PySem.W.kitx_int I.kIn True.intro e (fun z=>nomatch z) h
 |str y=>obtain⟨t,q⟩:=(show∃t,u=Value.str y t from rx);cases q;exact PySem.W.kia_one PySem.W.kitx_str I.kIn True.intro e (fun z=>nomatch z) h
 |flt y=>obtain⟨t,q⟩:=(show∃t,u=Value.float y t from rx);cases q;exact PySem.W.kia_one PySem.W.kitx_float I.kIn True.intro e (fun z=>nomatch z) h
 | @lst a xs ea=>
   cases(show u=Value.ref a from rx)
   obtain⟨_,_,n,_,h1⟩:=(show ObjOk X.prog X.w H s.heap a (.lst xs) from I.hok a _ ea)
   exact PySem.W.kia_one PySem.W.kitx_list I.kIn ⟨_,h1,rfl⟩ e (fun z=>nomatch z) h
 | @frz a ob xs ea=>
   cases(show u=Value.ref a from rx)
   obtain⟨_,_,_,n,_,h1⟩:=(show ObjOk X.prog X.w H s.heap a (.frz ob (.lst xs)) from I.hok a _ ea)
   exact PySem.W.kia_one PySem.W.kitx_list I.kIn ⟨_,h1,rfl⟩ e (fun z=>nomatch z) h
 | @tup a xs ea=>
   cases(show u=Value.ref a from rx)
   obtain⟨_,_,_,p⟩:=(show ObjOk X.prog X.w H s.heap a (.tup xs) from I.hok a _ ea)
   obtain⟨o,h1,h2,_⟩:=p
   exact PySem.W.kia_one PySem.W.kitx_tuple I.kIn ⟨o,h1,h2⟩ e (fun z=>nomatch z) h
 | @dK a kvs ea=>
   cases(show u=Value.ref a from rx)
   obtain⟨_,_,vs,_,p⟩:=(show ObjOk X.prog X.w H s.heap a (.dK kvs) from I.hok a _ ea)
   obtain⟨o,es,ep,h1,h2,_⟩:=p
   exact PySem.W.kia_one PySem.W.kitx_dict I.kIn ⟨o,h1,h2.1⟩ e (fun z=>nomatch z) h
 | @dT a kvs ea=>
   cases(show u=Value.ref a from rx)
   obtain⟨_,_,xs,_,o,es,ep,h1,h2,_⟩:=(show ObjOk X.prog X.w H s.heap a (.dT kvs) from I.hok a _ ea)
   exact PySem.W.kia_one PySem.W.kitx_dict I.kIn ⟨o,h1,h2.1⟩ e (fun z=>nomatch z) h
 | @ins a C dx fs ea cl ha hn htk hm=>
   cases(show u=Value.ref a from rx)
   obtain⟨mA,O,_⟩:=B9v I.hok ea
   obtain⟨od,J,_⟩:=O.look
   exact PySem.W.kia_one (PySem.W.kitx_own (cl.get _) cl.hd ha hn htk hm) I.kIn J e (fun z=>nomatch z) h
end
structure Room(k:Nat)(A:Around):Prop where
 hd:A.handled=none
 dp:A.depth+3*k+5<recursionLimit
 un:A.units+16*k+200<cLine
theorem Room.mono{j k:Nat}{A:Around}(r:Room k A)(h:j<=k):Room j A:=⟨r.hd,by have:=r.dp;omega,by have:=r.un;omega⟩
theorem Room.deeper{k:Nat}{A:Around}(r:Room (k+1) A)(env:Env):Room k (A.deeper env):=
 ⟨r.hd,by have:=r.dp;show A.depth+1+3*k+5<_;omega,by have:=r.un;show A.units+3+16*k+200<_;omega⟩
theorem G7f{A:Around}{C:Addr}{us:List Value}{kw:List (Str×Value)}:(A.under (.builtin "type.__call__" ⟨.ref C::us,kw⟩)).depth=A.depth+1:=by
 first|rfl|simp[Around.under,Code.weight,Code.isCreation,Code.isGuard,Code.isCaller,Code.frames,Code.isFrame,guardIds]
theorem G6j{A:Around}{C:Addr}{us:List Value}{kw:List (Str×Value)}:(A.under (.builtin "type.__call__" ⟨.ref C::us,kw⟩)).units=A.units+1:=by
 first|rfl|simp[Around.under,Code.cUnits,Code.frames,Code.isFrame]
theorem Room.make{k:Nat}{A:Around}(r:Room (k+1) A)(C:Addr)(us:List Value)(kw:List (Str×Value)):Room k (A.under (.builtin "type.__call__" ⟨.ref C::us,kw⟩)):=
 ⟨r.hd,by have:=r.dp;rw[G7f];omega,by have:=r.un;rw[G6j];omega⟩
theorem Room.depth{k:Nat}{A:Around}(r:Room k A):A.depth<recursionLimit:=by have:=r.dp;omega
theorem Room.units{k:Nat}{A:Around}(r:Room k A):A.units+64<cLine:=by have:=r.un;omega
noncomputable def J9z:TA:=fun _ H Q=>Q [] H
noncomputable def G1s (ta:TE) (tr:TA):TA:=fun σ H Q=>ta σ H fun x H1=>tr σ H1 fun xs H2=>Q (x::xs) H2
section
variable{X:Cx}{e:Expr}{es:List Expr}{te:TE}{t:TA}{pos:Pos}
theorem A8:PA X [] J9z:=fun _ _ _ _ H Q I h=>Calls.spliced_nil ⟨[],H,I,.nil,h⟩
theorem A0(ha:PE X e te)(hr:PA X es t)(hs:starEach (e::es) X.env=(false,eval e X.env)::starEach es X.env:=by rfl):PA X (e::es) (G1s te t):=by
 intro pos pins s σ H Q I h
 rw[hs]
 show wpAny _ _ (spliced ((false,eval e X.env)::backTo pos (starEach es X.env))) _ _ s
 refine Calls.spliced_cons (thn (ha pins s σ H _ I h) fun u s1 hh_=>?_)
 obtain⟨x,H1,I1,r1,q1⟩:=hh_
 exact thn (hr pos pins s1 σ H1 _ I1 q1) fun us s2 ⟨xs,H2,I2,r2,q2⟩=>⟨x::xs,H2,I2,.cons r1 r2,q2⟩
noncomputable def Z9b (t:TA):TE:=fun σ H Q=>t σ H fun xs H1=>xs.length<=sizeLine/\∀p,H1 p=none ->Q (.ref p) (upd H1 p (.tup xs))
noncomputable def tLst (t:TA):TE:=fun σ H Q=>t σ H fun xs H1=>xs.length<=sizeLine/\∀p,H1 p=none ->Q (.ref p) (upd H1 p (.lst xs))
theorem Y9{x1}(h:PA X es t):PE X (.Tuple es x1 pos) (Z9b t):=by
 intro pins s σ H Q I hq
 refine wpAny_Tuple_spliced (thn (h pos pins s σ H _ I hq) fun us s1 ⟨xs,H1,I1,r,z,q⟩=>⟨by rw[<-r.length];exact z,?_⟩)
 have hf:H1 s1.heap.objs.size=none:=I1.hok.fresh (Nat.le_refl _)
 refine⟨.ref s1.heap.objs.size,upd H1 s1.heap.objs.size (.tup xs),I1.laid (t':=s1.toks) (fun b u e=>Heap.get?_push_of_some _ e) (Nat.le_refl _) ?_,rfl,q _ hf⟩
 exact⟨z,us,r,⟨_,Heap.get?_push_size _ rfl,rfl,_,rfl⟩⟩
theorem U4(h:PA X es t):PE X (.List es pos) (tLst t):=by
 intro pins s σ H Q I hq
 refine wpAny_List_spliced (thn (h pos pins s σ H _ I hq) fun us s1 ⟨xs,H1,I1,r,z,q⟩=>⟨by rw[<-r.length];exact z,?_⟩)
 have hf:H1 s1.heap.objs.size=none:=I1.hok.fresh (Nat.le_refl _)
 refine⟨.ref s1.heap.objs.size,upd H1 s1.heap.objs.size (.lst xs),I1.laid (t':=s1.toks) (fun b u e=>Heap.get?_push_of_some _ e) (Nat.le_refl _) ?_,rfl,q _ hf⟩
 exact⟨z,us,0,r,Heap.get?_push_size _ rfl⟩
end
noncomputable abbrev Sp:=List V ->Hp ->VK ->XK ->Prop
noncomputable abbrev CXT:=List Env ->Hp ->Shared ->XK ->Value ->Shared ->Prop
structure Env0(P:Program)(w:World)(K:PySem.W.Frag)(mg:Str ->Option Value)(base:Heap)(A:Around)(outer:List Env)(s:Shared)(H:Hp):Prop where
 frames:A.frames=some outer
 mod:Mod K mg base
 bs:∀b o,base.get? b=some o ->s.heap.get? b=some o/\H b=none
 bsz:base.objs.size<=s.heap.objs.size
 funs:s.heap.FunFrames base outer
 frf:∀b∈frs outer,H b=none
 hok:HOk P w H s.heap
 bare:AllBare s.gens
noncomputable def CE (outer:List Env) (P:Program) (w:World) (H:Hp) (s:Shared) (Q:VK) (u:Value) (s':Shared):Prop:=
 ∃v H',s'.os=s.os/\AllBare s'.gens/\Un (frs outer) [] H H' s.heap s'.heap/\HOk P w H' s'.heap/\RelV v u/\Q v H'
noncomputable def CR (CX:CXT) (outer:List Env) (P:Program) (w:World) (H:Hp) (s:Shared) (Q:VK) (E:XK) (r:Result) (s':Shared):Prop:=
 match r with
 | .ok (.ret u)=>CE outer P w H s Q u s'
 | .ok _=>False
 | .error e=>CX outer H s E e s'
structure FnOk(P:Program)(w:World)(K:PySem.W.Frag)(mg:Str ->Option Value)(base:Heap)(CX:CXT)(k:Nat)(f:Addr)(fd:FuncData)(ps:List Str)(sp:Sp):Prop where
 len:∀vs H Q E,sp vs H Q E ->vs.length=ps.length
 run:∀(A:Around) (outer:List Env) (s:Shared) (H:Hp) (args:Args) (us:List Value) (vs:List V) (Q:VK) (E:XK),Room k A ->Env0 P w K mg base A outer s H ->BindsTo s fd args (ps.zip us) ->Vals vs us ->sp vs H Q E ->
   codeAny (model P w) A (.call (.ref f) args) (CR CX outer P w H s Q E) s
theorem FnOk.mono{P:Program}{w:World}{K:PySem.W.Frag}{mg:Str ->Option Value}{base:Heap}{CX:CXT}{j k:Nat}{f:Addr}{fd:FuncData}{ps:List Str}{sp:Sp}(F:FnOk P w K mg base CX j f fd ps sp)(h:j<=k):
   FnOk P w K mg base CX k f fd ps sp:=⟨F.len,fun A outer s H args us vs Q E hr=>F.run A outer s H args us vs Q E (hr.mono h)⟩
theorem Env0.make{P:Program}{w:World}{K:PySem.W.Frag}{mg:Str ->Option Value}{base:Heap}{A:Around}{outer:List Env}{s:Shared}{H:Hp}(e:Env0 P w K mg base A outer s H)(C:Addr)(us:List Value)(kw:List (Str×Value)):
   Env0 P w K mg base (A.under (.builtin "type.__call__" ⟨.ref C::us,kw⟩)) outer s H:=⟨by first|exact e.frames|(simpa[Around.under,Code.envs,Code.isFrame,pushEnvs] using e.frames),e.mod,e.bs,e.bsz,e.funs,e.frf,e.hok,e.bare⟩
section
variable{X:Cx}{pins:List (Addr×Obj)}{σ:St}{H:Hp}{s s':Shared}
theorem Inv.env0(I:Inv X pins σ H s):Env0 X.prog X.w X.K X.mg X.base X.A X.stack s H:=
 ⟨I.ok.frames,I.ok.mod,I.bs,Nat.le_trans I.ok.bsz I.sz,I.stack,I.stkFree,I.hok,I.bare⟩
theorem Inv.after{Q:VK}{u:Value}(I:Inv X pins σ H s)(h:CE X.stack X.prog X.w H s Q u s'):EP X pins σ Q u s':=by
 obtain⟨v,H',os,bare,un,hok,r,q⟩:=h
 obtain⟨hh,g,d,t,os'⟩:=s'
 obtain rfl:os'=s.os:=os
 exact⟨v,H',I.call (h':=hh) (g':=g) (d':=d) (t':=t) (ch:=[]) un hok bare (fun b z=>absurd z (by simp)),r,q⟩
end
noncomputable def Z5v (C:Addr) (sp:Sp) (dvs:List V) (E:XK) (t:TA):TE:=fun σ H Q=>t σ H fun vs H1=>∀x dx,H1 x=none ->H1 dx=none ->dx≠x ->
 sp (.ref x::(vs++dvs)) (upd (upd H1 dx (.own x)) x (.ins C dx [])) (fun v H2=>v= .non/\Q (.ref x) H2) E
noncomputable def Binds (K:PySem.W.Frag) (fd:FuncData) (ps:List Str) (ds:List Value):Prop:=
 ∀(s:Shared) (us:List Value),K.In s.heap ->(us++ds).length=ps.length ->BindsTo s fd ⟨us,[]⟩ (ps.zip (us++ds))
theorem Binds.all{K:PySem.W.Frag}{fd:FuncData}{ps:List Str}(h:∀us:List Value,us.length=ps.length ->bindArgs fd ⟨us,[]⟩=pure (ps.zip us)):Binds K fd ps []:=fun s us _ hl=>by
 rw[List.append_nil] at hl ⊢
 exact .of_eq (h us hl)
noncomputable def G7r (CX:CXT) (X:Cx) (E:XK):Prop:=∀(pins:List (Addr×Obj)) (σ:St) (H:Hp) (s:Shared) (e:Value) (s':Shared),Inv X pins σ H s ->CX X.stack H s E e s' ->X.xe e s'
section
variable{X:Cx}{CX:CXT}{k:Nat}{f C:Addr}{fd:FuncData}{ps:List Str}{sp:Sp}{dvs:List V}{ds:List Value}{E:XK}{x m:Str}{p pos apos:Pos}{e o:Expr}{es:List Expr}{ta:TE}{t:TA}
structure Mk(K:PySem.W.Frag)(C f:Addr):Prop where
 makes:PySem.W.makesIn K C=true
 init:PySem.W.findIn K (.ref C) "__init__"=some (some (.ref f))
 fn:PySem.W.isFn K (.ref f)=true
 kp:PySem.W.keepIn K (.ref C)=true
theorem U6x{pins:List (Addr×Obj)}{σ:St}{H:Hp}{s:Shared}{Q:VK}{us:List Value}{vs:List V}(M:Mk X.K C f)(F:FnOk X.prog X.w X.K X.mg X.base CX k f fd ps sp)(hr:Room (k+1) X.A)(hb:Binds X.K fd ps ds)(hd:Vals dvs ds)
   (hx:G7r CX X E) (I:Inv X pins σ H s) (r:Vals vs us)
   (h:∀x dx,H x=none ->H dx=none ->dx≠x ->sp (.ref x::(vs++dvs)) (upd (upd H dx (.own x)) x (.ins C dx [])) (fun v H2=>v= .non/\Q (.ref x) H2) E):
   wpAny (model X.prog X.w) X.A (call (.ref C) us) (EP X pins σ Q) X.xe s:=by
 have hq:=h (s.heap.objs.size+1) s.heap.objs.size (I.hok.fresh (Nat.le_succ _)) (I.hok.fresh (Nat.le_refl _)) (Nat.ne_of_lt (Nat.lt_succ_self _))
 have I2:=Inv.made (C:=C) I
 have r2:Vals (V.ref (s.heap.objs.size+1)::(vs++dvs)) (Value.ref (s.heap.objs.size+1)::(us++ds)):= .cons rfl (r.append hd)
 have hl:(Value.ref (s.heap.objs.size+1)::us++ds).length=ps.length:=by
   have e:=r2.length
   rw[F.len _ _ _ _ hq] at e
   exact e.symm
 refine wpAny_call (G1w (f:=f) I.kIn M.makes M.init (beq_iff_eq.mp M.fn) (codeAny_mono (F.run _ X.stack _ _ ⟨Value.ref (s.heap.objs.size+1)::us,[]⟩ (Value.ref (s.heap.objs.size+1)::(us++ds)) _ _ E (hr.make C us [])
   (I2.env0.make C us []) (hb _ (Value.ref (s.heap.objs.size+1)::us) I2.kIn hl) r2 hq) fun r s' hq'=>?_))
 cases r with
 |error e=>exact hx pins σ _ _ e s' I2 hq'
 | ok fl=>
   cases fl with
   | ret u=>
     obtain⟨v,H',I3,rv,ev,q3⟩:=I2.after hq'
     subst ev
     exact⟨rv,⟨V.ref (s.heap.objs.size+1),H',I3,rfl,q3⟩⟩
   |next=>exact False.elim hq'
   |brk=>exact False.elim hq'
   |cont=>exact False.elim hq'
theorem Y1e(M:Mk X.K C f)(F:FnOk X.prog X.w X.K X.mg X.base CX k f fd ps sp)(hr:Room (k+1) X.A)(hg:Gl X x)(hm:X.mg x=some (.ref C))(hb:Binds X.K fd ps ds)(hd:Vals dvs ds)(hx:G7r CX X E)
   (ha:PA X (e::es) t) (hdb:(x==("__debug__":Str))=false:=by decide) (he:starEach (e::es) X.env=(false,eval e X.env)::starEach es X.env:=by rfl) (hpl:(backTo pos (starEach es X.env)).any (·.1)=false:=by rfl):
   PE X (.Call (.Name x p) (e::es) [] pos) (Z5v C sp dvs E t):=by
 intro pins s σ H Q I h
 refine wpAny_Call_Name_kw (A1e I hg hm ?_ hdb)
 refine PySem.W.callWith_K (h₀:=X.base) I.ok.mod.kin M.kp (thn (ha pos pins s σ H _ I h) fun us s1 ⟨vs,H1,I1,r,q⟩=>⟨I1.kIn,?_⟩) he hpl
 exact U6x M F hr hb hd hx I1 r q
end
section
variable{X:Cx}{CX:CXT}{k:Nat}{f C:Addr}{fd:FuncData}{ps ks:List Str}{sp:Sp}{E:XK}{x m:Str}{p pos apos kpos:Pos}{e o:Expr}{es:List Expr}{kws:List Keyword}{te ta:TE}{t tk:TA}{nm:Option Str}
structure KBinds(K:PySem.W.Frag)(fd:FuncData)(ps ks:List Str)(g:List Value ->List Value ->List Value)(gV:List V ->List V ->List V):Prop where
 to:∀(s:Shared) (us ws:List Value),K.In s.heap ->(g us ws).length=ps.length ->BindsTo s fd ⟨us,ks.zip ws⟩ (ps.zip (g us ws))
 rel:∀{vs:List V} {us:List Value} {zs:List V} {ws:List Value},Vals vs us ->Vals zs ws ->Vals (gV vs zs) (g us ws)
variable{g:List Value ->List Value ->List Value}{gV:List V ->List V ->List V}
end
structure FnScope(N P:List Str)(sc:Scope):Prop where
 kind:sc.kind= .function
 co:sc.isCoroutine=false
 gen:sc.isGenerator=false
 nd:N.Nodup
 pre:N.take P.length=P
 par:∀x∈P,sc.names.lookup x=some .local\/sc.names.lookup x=some .cell
 nofree:∀y∈sc.names,y.2≠ .free
theorem C8r{kindOf:Str ->Option NameKind}{x:Str}:∀{binds:List (Str×Value)} {m:Str ->Option Value},(∀v,(x,v) ∉ binds) ->bindL kindOf binds m x=m x
 | [],_,_=>rfl
 | (n,v)::r,m,h=>by
   unfold bindL
   rw[C8r fun w hw=>h w (List.mem_cons_of_mem _ hw)]
   split
   . have:x≠n:=by rintro rfl;exact h v List.mem_cons_self
     simp[this]
   . rfl
theorem C9k{kindOf:Str ->Option NameKind}{x:Str}:∀{binds:List (Str×Value)} {m:Str ->Option Value},(∀v,(x,v) ∉ binds) ->bindC kindOf binds m x=m x
 | [],_,_=>rfl
 | (n,v)::r,m,h=>by
   unfold bindC
   rw[C9k fun w hw=>h w (List.mem_cons_of_mem _ hw)]
   split
   . rfl
   . have:x≠n:=by rintro rfl;exact h v List.mem_cons_self
     simp[this]
theorem C9m{kindOf:Str ->Option NameKind}{x:Str}{v:Value}:∀{P:List Str} {vs:List Value} {i:Nat} {m:Str ->Option Value},P.Nodup ->P[i]?=some x ->vs[i]?=some v ->kindOf x=some .local ->
   bindL kindOf (P.zip vs) m x=some v
 | [],_,_,_,_,h,_,_=>by simp at h
 |_::_,[],_,_,_,_,h,_=>by simp at h
 | p::P,w::vs,0,m,nd,h1,h2,hk=>by
   simp at h1 h2;subst h1;subst h2
   show bindL kindOf ((p,w)::P.zip vs) m p=_
   unfold bindL
   rw[C8r fun v hv=>(List.nodup_cons.mp nd).1 (List.of_mem_zip hv).1,if_pos hk]
   simp
 | p::P,w::vs,i+1,m,nd,h1,h2,hk=>by
   show bindL kindOf ((p,w)::P.zip vs) m x=_
   unfold bindL
   exact C9m (i:=i) (List.nodup_cons.mp nd).2 (by simpa using h1) (by simpa using h2) hk
theorem C9t{kindOf:Str ->Option NameKind}{x:Str}{v:Value}:∀{P:List Str} {vs:List Value} {i:Nat} {m:Str ->Option Value},P.Nodup ->P[i]?=some x ->vs[i]?=some v ->kindOf x≠some .local ->
   bindC kindOf (P.zip vs) m x=some v
 | [],_,_,_,_,h,_,_=>by simp at h
 |_::_,[],_,_,_,_,h,_=>by simp at h
 | p::P,w::vs,0,m,nd,h1,h2,hk=>by
   simp at h1 h2;subst h1;subst h2
   show bindC kindOf ((p,w)::P.zip vs) m p=_
   unfold bindC
   rw[C9k fun v hv=>(List.nodup_cons.mp nd).1 (List.of_mem_zip hv).1,if_neg hk]
   simp
 | p::P,w::vs,i+1,m,nd,h1,h2,hk=>by
   show bindC kindOf ((p,w)::P.zip vs) m x=_
   unfold bindC
   exact C9t (i:=i) (List.nodup_cons.mp nd).2 (by simpa using h1) (by simpa using h2) hk
noncomputable def A2t (N:List Str) (vs:List V):St:=vs.map some++List.replicate (N.length-vs.length) none
noncomputable def A0b (CX:CXT) (P:Program) (w:World) (K:PySem.W.Frag) (mg:Str ->Option Value) (base:Heap) (N:List Str) (qual:Str) (scope:Scope) (f:Addr) (cd:Value) (A:Around) (outer:List Env) (s:Shared) (H:Hp) (E:XK):Cx where
 prog:=P
 w:=w
 K:=K
 mg:=mg
 base:=base
 A:=A.deeper (envOfC qual scope s.heap.objs.size f cd)
 N:=N
 s₀:=s
 H₀:=H
 env:=envOfC qual scope s.heap.objs.size f cd
 outer:=outer
 stack:=envOfC qual scope s.heap.objs.size f cd::outer
 ex:=[]
 calm:=true
 fn:=fun _=>true
 pn:=[]
 xe:=fun e s'=>wpAny (model P w) (A.deeper (envOfC qual scope s.heap.objs.size f cd)) (leaving (envOfC qual scope s.heap.objs.size f cd) e) (fun _ s''=>CX outer H s E e s'') (fun e' s''=>CX outer H s E e' s'') s'
theorem G1g{sc:Scope}{n:Nat}{x:Str}(h:sc.names.lookup x=some .cell):∃c,(cellsFrom n sc.names []).lookup x=some c:=by
 have q:=PySem.W.cellsFrom_some sc.names n [] (.inl h)
 exact Option.isSome_iff_exists.mp q
theorem C8v{CX:CXT}{P:Program}{w:World}{K:PySem.W.Frag}{mg:Str ->Option Value}{base:Heap}{N ps:List Str}{qual:Str}{scope:Scope}{f:Addr}{cd:Value}{A:Around}{outer:List Env}{s s1:Shared}{H:Hp}{E:XK}{us:List Value}{vs:List V}
   (S:FnScope N ps scope) (hd:A.handled=none) (e0:Env0 P w K mg base A outer s H) (hl:vs.length=ps.length) (r:Vals vs us)
   (x:InCallC s s.heap.objs.size (bindL (envOfC qual scope s.heap.objs.size f cd).kindOf (ps.zip us) fun _=>none) (cellsFrom (s.heap.objs.size+1) scope.names []) (bindC (envOfC qual scope s.heap.objs.size f cd).kindOf (ps.zip us) fun _=>none) s1):
   Inv (A0b CX P w K mg base N qual scope f cd A outer s H E) [] (A2t N vs) H s1:=by
 have hpl:ps.length<=N.length:=by have:=congrArg List.length S.pre;rw[List.length_take] at this;omega
 obtain⟨h1,tk,rfl,hk⟩:=x.done
 have noA:∀b:Addr,b ∉ (A0b CX P w K mg base N qual scope f cd A outer s H E).ex:=fun b z=>absurd (show b∈([]:List Addr) from z) (by simp)
 refine⟨⟨e0.mod,S.kind,rfl,rfl,Nat.le_refl _,fun y z c h1 h2=>?_,fun y hy=>?_,fun y c _ h=>?_,fun _=>hd,Around.frames_deeper e0.frames,.inr ⟨rfl,rfl⟩,fun b z=>absurd z (noA b),e0.bs,e0.bsz,fun b _ _=>noA b,fun b z=>absurd z (noA b),e0.funs,e0.frf⟩,
   rfl,e0.bare,Un.kept hk,⟨_,x.toInCall.ns,fun i y v h1 h2 h3=>?_⟩,fun y c h=>⟨_,x.cell y c h⟩,e0.hok.fresh (Nat.le_refl _),fun y c h=>?_,fun p hp=>absurd (show p∈([]:List (Addr×Obj)) from hp) (by simp),e0.hok.kept hk,?_⟩
 . exact name_of_addr x.apart (PySem.mem_of_lookup h1) (PySem.mem_of_lookup h2)
 . have hy:scope.names.lookup y=some .cell\/scope.names.lookup y=some .free:=hy
   rcases hy with hy|hy
   . exact G1g hy
   . exact absurd rfl (S.nofree _ (PySem.mem_of_lookup hy))
 . exact Nat.le_of_lt (x.above y c (PySem.mem_of_lookup h))
 . have hi:i<vs.length:=by
     unfold A2t at h2
     by_cases hi:i<vs.length
     . exact hi
     . rw[List.getElem?_append_right (by simpa using hi)] at h2
       rw[List.getElem?_replicate] at h2
       split at h2<;>cases h2
   have ha:vs[i]?=some v:=by
     unfold A2t at h2
     rw[List.getElem?_append_left (by simpa using hi),List.getElem?_map] at h2
     cases e:vs[i]? with
     |none=>rw[e] at h2;cases h2
     |some a=>rw[e] at h2;cases h2;rfl
   obtain⟨u,hu,rv⟩:=r.get ha
   have hp:ps[i]?=some y:=by
     rw[<-S.pre,List.getElem?_take_of_lt (by omega)];exact h1
   have ndP:ps.Nodup:=by rw[<-S.pre];exact S.nd.sublist (List.take_sublist _ _)
   refine⟨u,rv,?_⟩
   rcases S.par y (List.mem_of_getElem? hp) with k|k
   . exact .inl ⟨k,C9m ndP hp hu k⟩
   . obtain⟨c,e⟩:=G1g (n:=s.heap.objs.size+1) k
     refine .inr ⟨.inl k,c,e,?_⟩
     have q:=x.cell y c e
     rw[C9t ndP hp hu (by show scope.names.lookup y≠_;rw[k];decide)] at q
     exact q
 . exact e0.hok.fresh (Nat.le_of_lt (x.above y c (PySem.mem_of_lookup h)))
 . unfold A2t
   show _=N.length
   rw[List.length_append,List.length_map,List.length_replicate]
   omega
theorem U4k{CX:CXT}{P:Program}{w:World}{K:PySem.W.Frag}{mg:Str ->Option Value}{base:Heap}{k:Nat}{f:Addr}{name qual:Str}{params:Arguments}{body:List Stmt}{scope:Scope}{dV kV doc pm cdv ct oc:Value}{an od:Option Addr}
   {osl:Array (Option Value)} {N ps:List Str} {sp:Sp} (lk:K.lookup f=some ⟨oc,od,.func (PySem.W.fnOf name qual params body scope dV kV doc pm an cdv ct),osl⟩) (hcd:PySem.W.codeIn K cdv qual=true) (S:FnScope N ps scope)
   (len:∀vs H Q E,sp vs H Q E ->vs.length=ps.length)
   (hbody:∀(A:Around) (outer:List Env) (s:Shared) (H:Hp) (vs:List V) (Q:VK) (E:XK),Room k (A.deeper (envOfC qual scope s.heap.objs.size f cdv)) ->sp vs H Q E ->
     ∃t,PSs (A0b CX P w K mg base N qual scope f cdv A outer s H E) body t/\t {nx:=fun _ H'=>Q .non H',rt:=Q} (A2t N vs) H):
   FnOk P w K mg base CX (k+1) f (PySem.W.fnOf name qual params body scope dV kV doc pm an cdv ct) ps sp:=by
 refine⟨len,fun A outer s H args us vs Q E hr e0 hb r hsp=>?_⟩
 have hl:=len _ _ _ _ hsp
 have KX:K.In s.heap:=e0.mod.kin.keeps fun b o e=>(e0.bs b o e).1
 have lim:s.heap.NoLimit:=e0.mod.nolimit.keeps fun b o e=>(e0.bs b o e).1
 have hkind:∀y∈ps.zip us,scope.names.lookup y.1=some .local\/(scope.names.lookup y.1=some .cell/\((cellsFrom (s.heap.objs.size+1) scope.names []).lookup y.1).isSome=true):=fun⟨n,v⟩ hy=>by
   rcases S.par n (List.of_mem_zip hy).1 with q|q
   . exact .inl q
   . exact .inr ⟨q,PySem.W.cellsFrom_some _ _ _ (.inl q)⟩
 refine codeAny_call_function hr.depth (KX _ _ lk) rfl S.co S.gen rfl (PySem.W.codeRec_of KX hcd) (hb _ _ _ _ ?_)
 refine wpAny_newFunctionEnv_cells S.kind hkind fun env he s1 x=>?_
 subst he
 refine⟨lim.keeps x.toInCall.keep,codeAny_func ?_⟩
 obtain⟨t,ht,hq⟩:=hbody A outer s H vs Q E (hr.deeper _) hsp
 have I:Inv (A0b CX P w K mg base N qual scope f cdv A outer s H E) [] (A2t N vs) H s1:=C8v S hr.hd e0 hl r x
 refine wpAny_mono (ht [] s1 (A2t N vs) H _ I hq) (fun fl s' hs=>?_) fun e s' hs=>hs
 have fin:∀{σ':St} {H':Hp} {v:V} {u:Value},Inv (A0b CX P w K mg base N qual scope f cdv A outer s H E) [] σ' H' s' ->RelV v u ->Q v H' ->CE outer P w H s Q u s':=
   fun{σ' H' v u} J rv q=>⟨v,H',J.os,J.bare,J.base,J.hok,rv,q⟩
 cases fl with
 | ret u=>
   obtain⟨v,σ',H',J,rv,q⟩:=hs
   exact fin J rv q
 | next=>
   obtain⟨σ',H',J,q⟩:=hs
   exact fin (v:=V.non) (u:=Value.none) J rfl q
 | brk=>
   obtain⟨_,_,_,q⟩:=hs
   exact False.elim q
 | cont=>
   obtain⟨_,_,_,q⟩:=hs
   exact False.elim q
section
variable{X:Cx}{x:Str}{p pos:Pos}{e:Expr}{es:List Expr}{t:TA}{id T:String}{r:List V ->Hp ->VK ->Prop}
noncomputable def tCB (r:List V ->Hp ->VK ->Prop) (t:TA):TE:=fun σ H Q=>t σ H fun vs H1=>r vs H1 Q
theorem U9(hc:A8j X (.builtin id) r)(hg:Gl X x)(hm:X.mg x=none)(hv:bootBuiltins x=some (.builtin id))(ha:PA X (e::es) t)(hn:x≠"__name__":=by decide)(hdb:(x==("__debug__":Str))=false:=by decide)
   (he:starEach (e::es) X.env=(false,eval e X.env)::starEach es X.env:=by rfl) (hpl:(backTo pos (starEach es X.env)).any (·.1)=false:=by rfl):PE X (.Call (.Name x p) (e::es) [] pos) (tCB r t):=by
 intro pins s σ H Q I h
 refine wpAny_Call_Name_kw (C1x I hg hm hv ?_ hn hdb)
 exact PyProof.Rows.callWith_builtin1 (thn (ha pos pins s σ H _ I h) fun us s1 ⟨vs,H1,I1,r1,q1⟩=>hc pins s1 σ H1 vs us Q I1 r1 q1) he hpl
theorem J0(hc:A8j X (.type T) r)(hg:Gl X x)(hm:X.mg x=none)(hv:bootBuiltins x=some (.type T))(ha:PA X (e::es) t)(hn:x≠"__name__":=by decide)(hdb:(x==("__debug__":Str))=false:=by decide)
   (he:starEach (e::es) X.env=(false,eval e X.env)::starEach es X.env:=by rfl) (hpl:(backTo pos (starEach es X.env)).any (·.1)=false:=by rfl):PE X (.Call (.Name x p) (e::es) [] pos) (tCB r t):=by
 intro pins s σ H Q I h
 refine wpAny_Call_Name_kw (C1x I hg hm hv ?_ hn hdb)
 exact PyProof.Rows.callWith_type1 (thn (ha pos pins s σ H _ I h) fun us s1 ⟨vs,H1,I1,r1,q1⟩=>hc pins s1 σ H1 vs us Q I1 r1 q1) he hpl
end
end L2
namespace HT
open PySem PyProof.Rows
section
open PySem.SeqAt
open PySem.AutoSeq1 (wpAny_loadPart')
open PySem.MeetsSeq PySem.MeetsSeq2 PySem.MeetsSeq3
end
section
variable{prog:Program}{w:World}{A:Around}{E:Value ->Shared ->Prop}{s:Shared}
noncomputable def sIx (n d:Nat):Option Int ->Nat
 |none=>d
 |some v=>if v<0 then(v+(n:Int)).toNat else min v.toNat n
theorem Z0f(n d:Nat)(hd:d<=n)(o:Option Int):sIx n d o<=n:=by
 cases o with
 |none=>exact hd
 | some v=>
   show(if v<0 then(v+(n:Int)).toNat else min v.toNat n)<=n
   by_cases hv:v<0
   . rw[if_pos hv];omega
   . rw[if_neg hv];exact Nat.min_le_right _ _
theorem J6m(v:Int)(n d:Nat):(if v<0 then max (v+(n:Int)) 0 else min v (n:Int))=((sIx n d (some v):Nat):Int):=by
 show(if v<0 then max (v+(n:Int)) 0 else min v (n:Int))=(((if v<0 then(v+(n:Int)).toNat else min v.toNat n):Nat):Int)
 by_cases hv:v<0
 . simp only[if_pos hv];omega
 . simp only[if_neg hv];omega
theorem G5s(lo hi:Option Int)(n:Nat):Builtin.Slice.sliceAdjust lo hi 1 (n:Int)=(((sIx n 0 lo:Nat):Int),((sIx n n hi:Nat):Int)):=by
 have h1:¬((1:Int)<0):=by omega
 unfold Builtin.Slice.sliceAdjust
 simp only[h1,if_false]
 refine Prod.ext ?_ ?_
 . cases lo with
   |none=>rfl
   |some v=>exact J6m v n 0
 . cases hi with
   |none=>rfl
   |some v=>exact J6m v n n
theorem G5n(i j:Nat):Builtin.Slice.slicePlaces (i:Int) (j:Int) 1=j-i:=by
 unfold Builtin.Slice.slicePlaces
 have h1:(1:Int)>0:=by omega
 simp only[h1,if_true,Int.ediv_one]
 split<;>omega
theorem C1b{v:Value}{o:Option Int}{Q:Option Int ->Shared ->Prop}(p:IsPart v o)(h:Q o s):wpAny (model prog w) A (Builtin.Slice.slicePartIndex v) Q E s:=by
 cases p with
 |none=>exact slicePart_none h
 |int i t=>exact slicePart_int h
theorem B5p{sl:Addr}{vl vu:Value}{lo hi:Option Int}{n:Nat}{Q:Int×Int×Nat ->Shared ->Prop}(hs:s.heap.IsSliceOf sl vl vu .none)(pl:IsPart vl lo)(pu:IsPart vu hi)
   (h:Q (((sIx n 0 lo:Nat):Int),1,sIx n n hi-sIx n 0 lo) s):wpAny (model prog w) A (Builtin.Slice.sliceApplied (.ref sl) (pure (n:Int))) Q E s:=by
 obtain⟨os,hos,hcs,hds⟩:=id hs
 unfold Builtin.Slice.sliceApplied Builtin.Slice.sliceFields
 refine wpAny_bind (wpAny_bind (wpAny_field hos hds (x:=vl) rfl (wpAny_bind (wpAny_field hos hds (x:=vu) rfl (wpAny_bind (wpAny_field hos hds (x:= .none) rfl (wpAny_pure ?_)))))))
 refine wpAny_bind (slicePart_none ?_)
 show wpAny _ _ (if((1:Int)==0)=true then _ else _) _ _ s
 rw[if_neg (by decide)]
 refine wpAny_bind (C1b pl (wpAny_bind (C1b pu (wpAny_bind (wpAny_pure ?_)))))
 show wpAny _ _ (match Builtin.Slice.sliceAdjust lo hi 1 (n:Int) with|(lo,hi)=>pure (lo,(1:Int),Builtin.Slice.slicePlaces lo hi 1)) _ _ s
 rw[G5s lo hi n]
 show wpAny _ _ (pure (((sIx n 0 lo:Nat):Int),(1:Int),Builtin.Slice.slicePlaces ((sIx n 0 lo:Nat):Int) ((sIx n n hi:Nat):Int) 1)) _ _ s
 rw[G5n]
 exact wpAny_pure h
theorem U5k(xs:Array Value)(i k:Nat):((List.range k).filterMap fun(m:Nat)=>xs[((i:Int)+(m:Int)*1).toNat]?).toArray=((xs.toList.drop i).take k).toArray:=by
 have e:(fun(m:Nat)=>xs[((i:Int)+(m:Int)*1).toNat]?)=fun m=>xs[i+m]?:=by
   funext m
   have:((i:Int)+(m:Int)*1).toNat=i+m:=by omega
   rw[this]
 rw[e]
 have:=pick_run xs i k
 rw[List.filterMap_map] at this
 have e2:((fun x=>xs[x]?)∘fun x=>i+x)=fun m=>xs[i+m]?:=rfl
 rw[e2] at this
 rw[this]
theorem getItem_tuple_cut{t sl:Addr}{items:Array Value}{vl vu:Value}{lo hi:Option Int}{Q:Value ->Shared ->Prop}(ht:IsTup s.heap t items)(hs:s.heap.IsSliceOf sl vl vu .none)(pl:IsPart vl lo)(pu:IsPart vu hi)
   (hw:¬(sIx items.size 0 lo=0/\sIx items.size items.size hi=items.size))
   (h:Q (.ref s.heap.objs.size) {s with heap:=s.heap.push {cls:= .type "tuple",data:= .seq ((items.toList.drop (sIx items.size 0 lo)).take (sIx items.size items.size hi-sIx items.size 0 lo)).toArray}})
   (hsz:items.size<=sizeLine):wpAny (model prog w) A (getItem (.ref t) (.ref sl)) Q E s:=by
 have htake:sizeOk (.seq ((items.toList.drop (sIx items.size 0 lo)).take (sIx items.size items.size hi-sIx items.size 0 lo)).toArray):=by
   show((items.toList.drop (sIx items.size 0 lo)).take (sIx items.size items.size hi-sIx items.size 0 lo)).toArray.size<=sizeLine
   rw[List.size_toArray,List.length_take,List.length_drop,Array.length_toList]
   omega
 have hj:sIx items.size items.size hi<=items.size:=Z0f _ _ (Nat.le_refl _) hi
 obtain⟨os,hos,hcs,hds⟩:=id hs
 have hTs:s.TypeIs (.ref sl) "slice":=⟨os,hos,hcs⟩
 unfold getItem
 try with_reducible refine wpAny_holding ?_
 first|refine wpAny_bind (wpAny_pure ?_)|skip
 refine wpAny_bind (wpAny_sequenceKey ht.typeIs (by decide) ?_)
 refine wpAny_bind (wpAny_callSpecial?_slot (name:=Str.ofString "__getitem__") ht.typeIs PyProof.Rows.slot_tuple_getitem
   (wpAny_call_entry PyProof.Rows.slot_tuple_getitem ht.typeIs entry_tuple_getitem ?_ (args_tuple_getitem _ _)))
 show wpAny _ _ (Builtin.Tuple.tupleItemsOf (.ref t)>>=_) _ _ s
 refine wpAny_bind (tupleItemsOf_ ht ?_)
 refine wpAny_bind (wpAny_typeOf hTs ?_)
 rw[if_pos (by decide)]
 refine wpAny_bind (B5p hs pl pu ?_)
 have hno:¬((((sIx items.size 0 lo:Nat):Int)==0&&(1:Int)==1&&(sIx items.size items.size hi-sIx items.size 0 lo)==items.size)=true):=by
   intro q
   rw[Bool.and_eq_true,Bool.and_eq_true] at q
   have q1:((sIx items.size 0 lo:Nat):Int)=0:=eq_of_beq q.1.1
   have q2:sIx items.size items.size hi-sIx items.size 0 lo=items.size:=eq_of_beq q.2
   exact hw ⟨by omega,by omega⟩
 show wpAny _ _ (if(((sIx items.size 0 lo:Nat):Int)==0&&(1:Int)==1&&(sIx items.size items.size hi-sIx items.size 0 lo)==items.size)=true then _ else _) _ _ s
 rw[if_neg hno,U5k]
 first
   |exact wpAny_bind (m:=Builtin.Tuple.tupleExact _) (wpAny_newObj_type (wpAny_pure ⟨_,rfl,wpAny_pure h⟩) htake)
   |exact wpAny_bind (m:=Builtin.Tuple.tupleExact _) (wpAny_newObj_type (wpAny_bind (wpAny_pure (wpAny_pure ⟨_,rfl,wpAny_pure h⟩))) htake)
   |exact wpAny_bind (wpAny_bind (m:=Builtin.Tuple.tupleExact _) (wpAny_newObj_type (wpAny_pure (wpAny_pure ⟨_,rfl,wpAny_pure h⟩)) htake))
   |exact wpAny_bind (wpAny_bind (m:=Builtin.Tuple.tupleExact _) (wpAny_newObj_type (wpAny_pure ⟨_,rfl,wpAny_pure h⟩) htake))
end
end HT
namespace L2
open PySem PySem.Spec PyProof.Rows
noncomputable abbrev TO:=St ->Hp ->(Option Int ->Hp ->Prop) ->Prop
noncomputable def PO (X:Cx) (e:Option Expr) (t:TO):Prop:=
 ∀ (pins:List (Addr×Obj)) (s:Shared) (σ:St) (H:Hp) (Q:Option Int ->Hp ->Prop),Inv X pins σ H s ->t σ H Q ->
   wpAny (model X.prog X.w) X.A (evalPart e X.env) (fun u s'=>∃o H',Inv X pins σ H' s'/\IsPart u o/\Q o H') X.xe s
noncomputable def Y1d:TO:=fun _ H Q=>Q none H
noncomputable def Z5k (t:TE):TO:=fun σ H Q=>t σ H fun x H1=>∃i,x= .int i/\Q (some i) H1
section
variable{X:Cx}{e:Expr}{te:TE}{lo hi:Option Expr}{tl th:TO}{pos p2:Pos}
theorem Y2n:PO X none Y1d:=by
 intro pins s σ H Q I h
 rw[evalPart_none]
 exact wpAny_pure ⟨none,H,I,.none,h⟩
theorem Y2g(h:PE X e te):PO X (some e) (Z5k te):=by
 intro pins s σ H Q I hw
 rw[evalPart_some]
 refine thn (h pins s σ H _ I hw) fun u s1 hh_=>?_
 obtain⟨x,H1,I1,r1,q1⟩:=hh_
 obtain⟨i,rfl,q⟩:=q1
 obtain⟨t,rfl⟩:=r1
 exact⟨some i,H1,I1,.int i t,q⟩
noncomputable def SlR (X:Cx) (r:V ->Option Int ->Option Int ->Hp ->VK ->Prop):Prop:=
 ∀ (pins:List (Addr×Obj)) (s:Shared) (σ:St) (H:Hp) (x:V) (v vl vu:Value) (lo hi:Option Int) (sl:Addr) (Q:VK),Inv X pins σ H s ->RelV x v ->s.heap.IsSliceOf sl vl vu .none ->IsPart vl lo ->IsPart vu hi ->r x lo hi H Q ->
   ∃T id,typeLookup (.type T) "__getitem__"=pure (some (.builtin id))/\s.TypeIs v T/\wpAny (model X.prog X.w) X.A (getItem v (.ref sl)) (EP X pins σ Q) X.xe s
noncomputable def tSl (r:V ->Option Int ->Option Int ->Hp ->VK ->Prop) (te:TE) (tl th:TO):TE:=fun σ H Q=>te σ H fun x H1=>tl σ H1 fun l H2=>th σ H2 fun u H3=>r x l u H3 Q
theorem U4h{r:V ->Option Int ->Option Int ->Hp ->VK ->Prop}(hr:SlR X r)(he:PE X e te)(hl:PO X lo tl)(hu:PO X hi th):PE X (.Subscript e (.Slice lo hi none p2) pos) (tSl r te tl th):=by
 intro pins s σ H Q I h
 refine Subscript_ (thn (he pins s σ H _ I h) fun v s1 hh_=>?_)
 obtain⟨x,H1,I1,r1,q1⟩:=hh_
 refine wpAny_Slice (thn (hl pins s1 σ H1 _ I1 q1) fun vl s2 ⟨l,H2,I2,pl,q2⟩=>thn (hu pins s2 σ H2 _ I2 q2) fun vu s3 hh_=>?_)
 obtain⟨u,H3,I3,pu,q3⟩:=hh_
 rw[evalPart_none]
 refine wpAny_pure ?_
 have I4:Inv X pins σ H3 {s3 with heap:=s3.heap.push {cls:= .type "slice",data:= .fields #[vl,vu,.none]}}:=I3.kept (t':=s3.toks) fun b ob q=>Heap.get?_push_of_some _ q
 obtain⟨T,id,hT,ht,hg⟩:=hr pins {s3 with heap:=s3.heap.push {cls:= .type "slice",data:= .fields #[vl,vu,.none]}} σ H3 x v vl vu l u s3.heap.objs.size Q I4 r1 (Heap.IsSliceOf.new ..) pl pu q3
 show wpAny (model X.prog X.w) X.A (subscriptTail e (.Slice lo hi none p2) v (.ref s3.heap.objs.size)) (EP X pins σ Q) X.xe {s3 with heap:=s3.heap.push {cls:= .type "slice",data:= .fields #[vl,vu,.none]}}
 exact tail_any (ops:=[.ref s3.heap.objs.size,v]) ht hT hg (by with_unfolding_all rfl)
noncomputable def Y3q (xs:List V) (lo hi:Option Int):List V:=(xs.drop (HT.sIx xs.length 0 lo)).take (HT.sIx xs.length xs.length hi-HT.sIx xs.length 0 lo)
theorem G0v(xs:List V)(lo hi:Option Int):(Y3q xs lo hi).length<=xs.length:=by
 unfold Y3q
 rw[List.length_take,List.length_drop]
 omega
noncomputable def Z8t (K:PySem.W.Frag):V ->Option Int ->Option Int ->Hp ->VK ->Prop:=fun x lo hi H Q=>∃a xs,x= .ref a/\SqT K H a xs/\
 ¬(HT.sIx xs.length 0 lo=0/\HT.sIx xs.length xs.length hi=xs.length)/\∀p,H p=none ->Q (.ref p) (upd H p (.tup (Y3q xs lo hi)))
theorem Y9n:SlR X (Z8t X.K):=by
 intro pins s σ H x v vl vu lo hi sl Q I rx hs pl pu h
 obtain⟨a,xs,rfl,hx,hw,q⟩:=h
 cases rx
 obtain⟨its,r,ht,hz⟩:=I.tuple hx
 have hlen:its.toArray.size=xs.length:=by rw[List.size_toArray];exact r.length.symm
 refine⟨"tuple",_,PyProof.Rows.slot_tuple_getitem.lookup,ht.typeIs,?_⟩
 refine HT.getItem_tuple_cut ht hs pl pu (by rw[hlen];exact hw) ?_ (by rw[hlen];exact hz)
 rw[hlen]
 refine⟨.ref s.heap.objs.size,_,I.laid (t':=s.toks) (o:= .tup (Y3q xs lo hi)) (fun b ob q=>Heap.get?_push_of_some _ q) (Nat.le_refl _) ?_,rfl,q _ (I.hok.fresh (Nat.le_refl _))⟩
 exact⟨Nat.le_trans (G0v xs lo hi) hz,_,(r.drop (HT.sIx xs.length 0 lo)).take (HT.sIx xs.length xs.length hi-HT.sIx xs.length 0 lo),IsTup.new _ _⟩
end
noncomputable def ixN (n:Nat) (i:Int):Option Nat:=if 0<=i then(if i<n then some i.toNat else none) else if -(n:Int)<=i then some (i+n).toNat else none
noncomputable def atI {α:Type} (xs:List α) (i:Int):Option α:=(ixN xs.length i).bind fun j=>xs[j]?
theorem Y0u{n:Nat}{i:Int}{j:Nat}(h:ixN n i=some j):seqIndex? i n=some j/\j<n/\ -(n:Int)<=i/\i<n:=by
 unfold ixN at h
 by_cases h0:0<=i
 . rw[if_pos h0] at h
   by_cases h1:i<n
   . rw[if_pos h1] at h
     have e:i.toNat=j:=Option.some.inj h
     exact⟨by rw[seqIndex_of h0 h1,e],by omega,by omega,h1⟩
   . rw[if_neg h1] at h;cases h
 . rw[if_neg h0] at h
   by_cases h1: -(n:Int)<=i
   . rw[if_pos h1] at h
     have e:(i+n).toNat=j:=Option.some.inj h
     exact⟨by rw[seqIndex_neg (by omega) h1,e],by omega,h1,by omega⟩
   . rw[if_neg h1] at h;cases h
theorem D1s{α:Type}{xs:List α}{i:Int}{v:α}(h:atI xs i=some v):∃j,seqIndex? i xs.length=some j/\xs[j]?=some v/\j<xs.length/\ -(xs.length:Int)<=i/\i<xs.length:=by
 unfold atI at h
 cases e:ixN xs.length i with
 |none=>rw[e] at h;cases h
 | some j=>
   rw[e] at h
   obtain⟨h1,h2,h3,h4⟩:=Y0u e
   exact⟨j,h1,h,h2,h3,h4⟩
theorem D7{α:Type}{xs:List α}{j:Nat}{v:α}(h:xs[j]?=some v):atI xs (j:Int)=some v:=by
 have hj:j<xs.length:=(List.getElem?_eq_some_iff.mp h).1
 have e:ixN xs.length (j:Int)=some j:=by
   unfold ixN
   rw[if_pos (by omega),if_pos (by omega)];simp
 unfold atI;rw[e];exact h
noncomputable def Y2h (b:Expr):Prop:=∀o i,subscripted b false o i=operate [o,i] (getItem o i)
noncomputable def IxR (X:Cx) (r:R2):Prop:=
 ∀ (value slice:Expr) (pins:List (Addr×Obj)) (s:Shared) (σ:St) (H:Hp) (x y:V) (v u:Value) (Q:VK),Inv X pins σ H s ->RelV x v ->RelV y u ->r x y H Q ->
   subscripted slice false v u=operate [v,u] (getItem v u) ->wpAny (model X.prog X.w) X.A (subscriptTail value slice v u) (EP X pins σ Q) X.xe s
noncomputable def MtR (X:Cx) (id:String) (r:V ->List V ->Hp ->VK ->Prop):Prop:=
 ∀ (pins:List (Addr×Obj)) (s:Shared) (σ:St) (H:Hp) (x:V) (xs:List V) (v:Value) (us:List Value) (Q:VK),Inv X pins σ H s ->RelV x v ->Vals xs us ->r x xs H Q ->
   wpAny (model X.prog X.w) X.A (call (.builtin id) (v::us)) (EP X pins σ Q) X.xe s
section
variable{X:Cx}{a b:Expr}{ta tb:TE}{pos:Pos}
theorem U5{r:R2}(hr:IxR X r)(ha:PE X a ta)(hb:PE X b tb)(hs:Y2h b):PE X (.Subscript a b pos) (tOp r ta tb):=by
 intro pins s σ H Q I h
 exact Subscript_ (Y8f ha hb I h fun v u s2 x y H2 I2 rx ry q=>hr a b pins s2 σ H2 x y v u Q I2 rx ry q (hs _ _))
noncomputable def Z3n (K:PySem.W.Frag):R2:=fun x y H Q=>∃p xs i v,x= .ref p/\y= .int i/\SqL K H p xs/\atI xs i=some v/\Q v H
noncomputable def Z8m (K:PySem.W.Frag):R2:=fun x y H Q=>∃p xs i v,x= .ref p/\y= .int i/\SqT K H p xs/\atI xs i=some v/\Q v H
noncomputable def Z8w:R2:=fun x y H Q=>∃z i c,x= .str z/\y= .int i/\z.length<=sizeLine/\atI z.cps.toList i=some c/\Q (.str ⟨#[c]⟩) H
theorem A1d:IxR X (Z3n X.K):=by
 intro value slice pins s σ H x y v u Q I rx ry h hs
 obtain⟨p,xs,i,z,rfl,rfl,hq,he,q⟩:=h
 cases rx
 obtain⟨t,rfl⟩:=ry
 obtain⟨its,r,pl,hz⟩:=I.list hq
 obtain⟨j,h1,h2,h3,h4,h5⟩:=D1s he
 obtain⟨w,ew,rw'⟩:=r.get h2
 have hl:=r.length
 have hn:=C0p
 have fin:EP X pins σ Q w s:=⟨z,H,I,rw',q⟩
 by_cases h0:0<=i
 . have hj:i.toNat=j:=by
     rw[seqIndex_of h0 h5] at h1
     exact Option.some.inj h1
   exact item_listR pl.isList h0 (by omega) (by rw[hj];simpa using ew) fin hs
 . have hj:(i+(its.toArray.size:Int)).toNat=j:=by
     rw[seqIndex_neg (by omega) h4] at h1
     rw[List.size_toArray, <-hl]
     exact Option.some.inj h1
   exact subscriptTail_builtinR (x:=w) pl.isList.typeIs slot_list_getitem.lookup
     (wpAny_getItem_list_neg (Q:=fun r s'=>r=w/\EP X pins σ Q r s') pl.isList (by omega) (by rw[List.size_toArray]<;>omega) (by omega) (by rw[hj];simpa using ew) ⟨rfl,fin⟩) hs
theorem V1:IxR X (Z8m X.K):=by
 intro value slice pins s σ H x y v u Q I rx ry h hs
 obtain⟨p,xs,i,z,rfl,rfl,hq,he,q⟩:=h
 cases rx
 obtain⟨t,rfl⟩:=ry
 obtain⟨its,r,pl,hz⟩:=I.tuple hq
 obtain⟨j,h1,h2,h3,h4,h5⟩:=D1s he
 obtain⟨w,ew,rw'⟩:=r.get h2
 have hl:=r.length
 have hn:=C0p
 have fin:EP X pins σ Q w s:=⟨z,H,I,rw',q⟩
 exact subscriptTail_builtinR (x:=w) pl.typeIs slot_tuple_getitem.lookup
   (getItem_tuple (j:=j) (Q:=fun r s'=>r=w/\EP X pins σ Q r s') pl (by omega) (by omega) (by rw[List.size_toArray, <-hl];exact h1) (by simpa using ew) ⟨rfl,fin⟩) hs
theorem U7a:IxR X Z8w:=by
 intro value slice pins s σ H x y v u Q I rx ry h hs
 obtain⟨z,i,c,rfl,rfl,hz,he,q⟩:=h
 obtain⟨t,rfl⟩:=rx
 obtain⟨t',rfl⟩:=ry
 obtain⟨j,h1,h2,h3,h4,h5⟩:=D1s he
 have hl:z.cps.toList.length=z.length:=by simp[Str.length]
 rw[hl] at h1 h4 h5
 have hn:=C0p
 exact tail_any (typeIs_str s z t) slot_str_getitem.lookup (getItem_str (c:=c) (by
   have e1:decide (i< -(2^63:Int))=false:=decide_eq_false (by omega)
   have e2:decide (i>=2^63)=false:=decide_eq_false (by omega)
   rw[e1,e2,Bool.or_false]) (by rw[h1];simpa using h2) ⟨.str ⟨#[c]⟩,H,I.tok _,⟨_,rfl⟩,q⟩) hs
noncomputable def B2c:V ->Bool
 | .non=>true
 | .bl _=>true
 | .int _=>true
 | .str _=>true
 |_=>false
noncomputable def eqV:V ->V ->Bool
 | .non,.non=>true
 | .bl a,.bl b=>a==b
 | .bl a,.int b=>(if a then 1 else 0)==b
 | .int a,.bl b=>a==(if b then 1 else 0)
 | .int a,.int b=>a==b
 | .str a,.str b=>a==b
 |_,_=>false
theorem Y9t{A:Around}{s:Shared}{y x:V}{u v:Value}(ry:RelV y u)(rx:RelV x v)(fy:B2c y=true)(fx:B2c x=true):SeqAt.EqAt A s u v (eqV y x):=by
 cases y with
 | non=>
   cases ry
   cases x with
   |non=>cases rx;exact SeqAt.EqAt.same _
   |bl b=>cases rx;exact SeqAt.EqAt.none_bool b
   |int b=>obtain⟨t,rfl⟩:=rx;exact SeqAt.EqAt.none_int b t
   |str b=>obtain⟨t,rfl⟩:=rx;exact SeqAt.EqAt.none_str b t
   |_=>exact absurd (show false=true from fx) Bool.false_ne_true
 | bl a=>
   cases ry
   cases x with
   |non=>cases rx;exact SeqAt.EqAt.bool_none a
   |bl b=>cases rx;exact SeqAt.EqAt.bool_bool a b
   |int b=>obtain⟨t,rfl⟩:=rx;exact SeqAt.EqAt.bool_int a b t
   |str b=>obtain⟨t,rfl⟩:=rx;exact SeqAt.EqAt.bool_str a b t
   |_=>exact absurd (show false=true from fx) Bool.false_ne_true
 | int a=>
   obtain⟨t',rfl⟩:=ry
   cases x with
   |non=>cases rx;exact SeqAt.EqAt.int_none a t'
   |bl b=>cases rx;exact SeqAt.EqAt.int_bool a t' b
   |int b=>obtain⟨t,rfl⟩:=rx;exact SeqAt.EqAt.int_int a t' b t
   |str b=>obtain⟨t,rfl⟩:=rx;exact SeqAt.EqAt.int_str a t' b t
   |_=>exact absurd (show false=true from fx) Bool.false_ne_true
 | str a=>
   obtain⟨t',rfl⟩:=ry
   cases x with
   |non=>cases rx;exact SeqAt.EqAt.str_none a t'
   |bl b=>cases rx;exact SeqAt.EqAt.str_bool a t' b
   |int b=>obtain⟨t,rfl⟩:=rx;exact SeqAt.EqAt.str_int a t' b t
   |str b=>obtain⟨t,rfl⟩:=rx;exact SeqAt.EqAt.str_str a t' b t
   |_=>exact absurd (show false=true from fx) Bool.false_ne_true
 |_=>exact absurd (show false=true from fy) Bool.false_ne_true
noncomputable def eqU (x:V) (u:Value):Bool:=match u with
 | .none=>eqV .non x
 | .bool b=>eqV (.bl b) x
 | .int i _=>eqV (.int i) x
 | .str z _=>eqV (.str z) x
 |_=>false
theorem U4q{x y:V}{u:Value}(r:RelV y u)(f:B2c y=true):eqU x u=eqV y x:=by
 cases y with
 |non=>cases r;rfl
 |bl b=>cases r;rfl
 |int i=>obtain⟨t,rfl⟩:=r;rfl
 |str z=>obtain⟨t,rfl⟩:=r;rfl
 |_=>exact absurd (show false=true from f) Bool.false_ne_true
theorem B4n{x:V}:∀{xs:List V} {us:List Value},Vals xs us ->xs.all B2c=true ->us.any (eqU x)=xs.any fun y=>eqV y x
 |_,_,.nil,_=>rfl
 | y::xs,u::us,.cons r t,f=>by
   rw[List.all_cons,Bool.and_eq_true] at f
   rw[List.any_cons,List.any_cons,U4q r f.1,B4n t f.2]
theorem A8e{A:Around}{s:Shared}{x:V}{v:Value}(rx:RelV x v)(fx:B2c x=true):∀{xs:List V} {us:List Value},Vals xs us ->xs.all B2c=true ->∀u∈us,SeqAt.EqAt A s u v (eqU x u)
 |_,_,.nil,_=>fun u hu=>by cases hu
 | y::xs,u::us,.cons r t,f=>fun u' hu=>by
   rw[List.all_cons,Bool.and_eq_true] at f
   rcases List.mem_cons.mp hu with rfl|hu
   . rw[U4q r f.1];exact Y9t r rx f.1 fx
   . exact A8e rx fx t f.2 u' hu
noncomputable def inV (x:V) (xs:List V):Bool:=xs.any fun y=>eqV y x
noncomputable def rIn (K:PySem.W.Frag) (neg:Bool):R2:=fun x y H Q=>∃p xs,y= .ref p/\(SqL K H p xs\/SqT K H p xs)/\B2c x=true/\xs.all B2c=true/\Q (.bl (if neg then !inV x xs else inV x xs)) H
theorem A4g:OpR X (compareOp .In) (rIn X.K false):=by
 intro pins s σ H x y v u Q I rx ry h
 obtain⟨p,xs,rfl,hq,fx,fs,q⟩:=h
 cases ry
 rcases hq with hq|hq
 . obtain⟨its,r,pl,hz⟩:=I.list hq
   refine SeqAt.in_listAt (eqU x) pl.isList (fun w hw=>A8e rx fx r fs w (by simpa using hw)) ⟨.bl _,H,I,rfl,?_⟩
   rw[show its.toArray.any (eqU x)=its.any (eqU x) by simp,B4n r fs]
   exact q
 . obtain⟨its,r,pl,hz⟩:=I.tuple hq
   refine SeqAt.in_tupleAt (eqU x) pl (fun w hw=>A8e rx fx r fs w (by simpa using hw)) ⟨.bl _,H,I,rfl,?_⟩
   rw[show its.toArray.any (eqU x)=its.any (eqU x) by simp,B4n r fs]
   exact q
theorem D1a:OpR X (compareOp .NotIn) (rIn X.K true):=by
 intro pins s σ H x y v u Q I rx ry h
 obtain⟨p,xs,rfl,hq,fx,fs,q⟩:=h
 cases ry
 rcases hq with hq|hq
 . obtain⟨its,r,pl,hz⟩:=I.list hq
   refine SeqAt.notIn_listAt (eqU x) pl.isList (fun w hw=>A8e rx fx r fs w (by simpa using hw)) ⟨.bl _,H,I,rfl,?_⟩
   rw[show its.toArray.any (eqU x)=its.any (eqU x) by simp,B4n r fs]
   exact q
 . obtain⟨its,r,pl,hz⟩:=I.tuple hq
   refine SeqAt.notIn_tupleAt (eqU x) pl (fun w hw=>A8e rx fx r fs w (by simpa using hw)) ⟨.bl _,H,I,rfl,?_⟩
   rw[show its.toArray.any (eqU x)=its.any (eqU x) by simp,B4n r fs]
   exact q
theorem D1n:A8j X (.builtin "len") (fun xs H Q=>∃p ys,xs=[.ref p]/\(SqL X.K H p ys\/SqT X.K H p ys)/\Q (.int ys.length) H):=by
 intro pins s σ H xs us Q I r h
 obtain⟨p,ys,rfl,hq,q⟩:=h
 obtain⟨u,rfl,rx⟩:=C1g r
 cases rx
 have hn:=C0p
 rcases hq with hq|hq
 . obtain⟨its,r',pl,hz⟩:=I.list hq
   have hlen:=r'.length
   exact Calls.call_len_list pl.isList (by simp only[List.size_toArray]<;>omega) ⟨.int ys.length,H,I.tok _,⟨s.toks+1,by rw[List.size_toArray,hlen]⟩,q⟩
 . obtain⟨its,r',pl,hz⟩:=I.tuple hq
   have hlen:=r'.length
   exact len_tuple pl (by simp only[List.size_toArray]<;>omega) ⟨.int ys.length,H,I.tok _,⟨s.toks+1,by rw[List.size_toArray,hlen]⟩,q⟩
theorem Y2:A8j X (.builtin "len") (fun xs H Q=>∃z,xs=[.str z]/\z.length<=sizeLine/\Q (.int z.length) H):=by
 intro pins s σ H xs us Q I r h
 obtain⟨z,rfl,hz,q⟩:=h
 obtain⟨u,rfl,t,rfl⟩:=C1g r
 have hn:=C0p
 exact len_str (by omega) ⟨.int z.length,H,I.tok _,⟨_,rfl⟩,q⟩
theorem A4x:A8j X (.type "list") (fun xs H Q=>∃p ys,xs=[.ref p]/\(SqL X.K H p ys\/SqT X.K H p ys)/\∀l,H l=none ->Q (.ref l) (upd H l (.lst ys))):=by
 intro pins s σ H xs us Q I r h
 obtain⟨p,ys,rfl,hq,q⟩:=h
 obtain⟨u,rfl,rx⟩:=C1g r
 cases rx
 have fin:∀(its:List Value),Vals ys its ->ys.length<=sizeLine ->∀(h':Heap) (c':Nat),(∀b o',s.heap.get? b=some o' ->h'.get? b=some o') ->
     h'.get? s.heap.objs.size=some {cls:= .type "list",dict:=none,data:= .seq its.toArray c',slots:= #[]} ->EP X pins σ Q (.ref s.heap.objs.size) {s with heap:=h'}:=fun its r' hz h' c' kp e=>
   ⟨.ref s.heap.objs.size,_,I.laid (t':=s.toks) kp (Nat.le_refl _) (show ObjOk X.prog X.w _ h' _ (.lst ys) from⟨hz,its,c',r',e⟩),rfl,q _ (I.hok.fresh (Nat.le_refl _))⟩
 rcases hq with hq|hq
 . obtain⟨its,r',pl,hz⟩:=I.list hq
   have hlen:=r'.length
   obtain⟨o,ho,hc,n,hd⟩:=pl.isList
   exact call_list_seq p (.inl rfl) ho hc hd (fun h' c' kp e=>fin its r' hz h' c' kp e) (by simp only[List.size_toArray]<;>omega)
 . obtain⟨its,r',pl,hz⟩:=I.tuple hq
   have hlen:=r'.length
   obtain⟨o,ho,hc,n,hd⟩:=pl
   exact call_list_seq p (.inr rfl) ho hc hd (fun h' c' kp e=>fin its r' hz h' c' kp e) (by simp only[List.size_toArray]<;>omega)
noncomputable def tyV (K:PySem.W.Frag) (T:String) (x:V) (H:Hp):Prop:=match x with
 | .str _=>T="str"
 | .int _=>T="int"
 | .ref p=>(T="list"/\∃xs,SqL K H p xs)\/(T="tuple"/\∃o,K.lookup p=some o/\o.cls= .type "tuple"/\o.dict=none)\/
     (T="dict"/\((∃kvs,H p=some (.dK kvs))\/∃kvs,H p=some (.dT kvs)))\/(T="set"/\∃S n,H p=some (.set S n))
 |_=>False
theorem U5v{pins:List (Addr×Obj)}{σ:St}{H:Hp}{s:Shared}{T:String}{x:V}{v:Value}(I:Inv X pins σ H s)(r:RelV x v)(ty:tyV X.K T x H):
   s.TypeIs v T/\∀a,v= .ref a ->∃ob,s.heap.get? a=some ob/\ob.dict=none:=by
 cases x with
 | str z=>
   obtain⟨t,rfl⟩:=r
   cases(show T="str" from ty)
   exact⟨typeIs_str s z t,fun _ e=>nomatch e⟩
 | int i=>
   obtain⟨t,rfl⟩:=r
   cases(show T="int" from ty)
   exact⟨typeIs_int s i t,fun _ e=>nomatch e⟩
 | ref p =>
   cases r
   rcases ty with⟨rfl,xs,hq⟩|⟨rfl,o,hk,hc,hd⟩|⟨rfl,hk⟩|⟨rfl,S,n,hk⟩
   . obtain⟨its,_,pl,_⟩:=I.list hq
     refine⟨pl.isList.typeIs,fun a e=>?_⟩
     cases e
     obtain⟨o,n,e,c,hd,_⟩:=pl
     exact⟨o,e,hd⟩
   . refine⟨⟨o,I.kIn p o hk,hc⟩,fun a e=>?_⟩
     cases e
     exact⟨o,I.kIn _ o hk,hd⟩
   . have z:∃o,s.heap.get? p=some o/\o.ExactDict:=by
       rcases hk with⟨kvs,hk⟩|⟨kvs,hk⟩
       . obtain⟨_,_,_,_,o,_,_,e,ex,_⟩:=I.hok p _ hk
         exact⟨o,e,ex⟩
       . obtain⟨_,_,_,_,o,_,_,e,ex,_⟩:=I.hok p _ hk
         exact⟨o,e,ex⟩
     obtain⟨o,e,ex⟩:=z
     refine⟨⟨o,e,ex.1⟩,fun a e2=>?_⟩
     cases e2
     exact⟨o,e,ex.2.1⟩
   . obtain⟨o,_,_,_,e,ex,_⟩:=I.hok p _ hk
     refine⟨⟨o,e,ex.1⟩,fun a e2=>?_⟩
     cases e2
     exact⟨o,e,ex.2.1⟩
 |_=>exact False.elim ty
noncomputable def Z9a (K:PySem.W.Frag) (T:String) (r:V ->List V ->Hp ->VK ->Prop) (to:TE):TE:=fun σ H Q=>to σ H fun x H1=>tyV K T x H1/\r x [] H1 Q
noncomputable def tBM (K:PySem.W.Frag) (T:String) (r:V ->List V ->Hp ->VK ->Prop) (to:TE) (t:TA):TE:=fun σ H Q=>to σ H fun x H1=>tyV K T x H1/\t σ H1 fun xs H2=>r x xs H2 Q
variable{o e:Expr}{es:List Expr}{to:TE}{t:TA}{name:Str}{apos cpos:Pos}{T id:String}{r:V ->List V ->Hp ->VK ->Prop}
theorem Y9k(pa:PlainAttrs T)(slot:Slot T name id)(hty:typeOf (.builtin id)=pure (.type "method_descriptor"))(hm:MtR X id r)(ho:PE X o to)
   (hbase:attributeBase o name X.env (eval o X.env)=eval o X.env:=by rfl) (hline:(apos.endLine==cpos.line)=true:=by rfl):PE X (.Call (.Attribute o name apos) [] [] cpos) (Z9a X.K T r to):=by
 intro pins s σ H Q I h
 refine wpAny_Call_method0_late hbase hline (thn (ho pins s σ H _ I h) fun v s1 hh_=>?_)
 obtain⟨x,H1,I1,r1,ty,q1⟩:=hh_
 obtain⟨h1,h2⟩:=U5v I1 r1 ty
 exact⟨T,id,pa,slot,hty,h1,h2,Calls.callWith_builtin rfl (PySem.evalArgs_none (hm pins s1 σ H1 x [] v [] Q I1 r1 .nil q1))⟩
theorem Y6u(pa:PlainAttrs T)(slot:Slot T name id)(hty:typeOf (.builtin id)=pure (.type "method_descriptor"))(hm:MtR X id r)(ho:PE X o to)(ha:PA X (e::es) t)
   (hbase:attributeBase o name X.env (eval o X.env)=eval o X.env:=by rfl)
   (hfew:((backTo cpos (starEach (e::es) X.env)).all (fun x=> !x.1)&&(backToKw cpos (keywordEach [] X.env)).all (fun x=>x.1.isSome)
     &&decide ((e::es).length+([]:List Keyword).length+(if([]:List Keyword).isEmpty then 0 else 1)<30))=true:=by rfl)
   (hline:(apos.endLine==cpos.line)=true:=by rfl) (hs:starEach (e::es) X.env=(false,eval e X.env)::starEach es X.env:=by rfl) (hplain:(backTo cpos (starEach es X.env)).any (·.1)=false:=by rfl):
   PE X (.Call (.Attribute o name apos) (e::es) [] cpos) (tBM X.K T r to t):=by
 intro pins s σ H Q I h
 refine wpAny_Call_method_late hbase hfew hline rfl (thn (ho pins s σ H _ I h) fun v s1 hh_=>?_)
 obtain⟨x,H1,I1,r1,ty,q1⟩:=hh_
 obtain⟨h1,h2⟩:=U5v I1 r1 ty
 refine⟨T,id,pa,slot,hty,h1,h2,?_⟩
 have hA:=ha cpos pins s1 σ H1 _ I1 q1
 rw[hs] at hA ⊢
 refine Calls.callWith_builtin (by show(false||(backTo cpos (starEach es X.env)).any (·.1))=false;rw[hplain]<;>rfl) (Calls.evalArgs_plain ?_)
 exact thn hA fun us s2 ⟨vs,H2,I2,r2,q2⟩=>hm pins s2 σ H2 x vs v us Q I2 r1 r2 q2
end
noncomputable def MtM (X:Cx) (id:String) (r:V ->List V ->Hp ->VK ->Prop):Prop:=
 ∀ (pins:List (Addr×Obj)) (s:Shared) (σ:St) (H:Hp) (x:V) (xs:List V) (v:Value) (us:List Value) (Q:VK),Inv X pins σ H s ->RelV x v ->Vals xs us ->r x xs H Q ->
   wpAny (model X.prog X.w) X.A (call (.builtin id) (v::us)) (EP X pins σ Q) X.xe s
theorem Vals.one{x:V}{us:List Value}(h:Vals [x] us):∃u,us=[u]/\RelV x u:=by
 cases h with
 |cons r t=>cases t;exact⟨_,rfl,r⟩
theorem Vals.two{x y:V}{us:List Value}(h:Vals [x,y] us):∃u v,us=[u,v]/\RelV x u/\RelV y v:=by
 cases h with
 | cons r t=>
   cases t with
   |cons q z=>cases z;exact⟨_,_,rfl,r,q⟩
theorem Vals.rep{xs:List V}{us:List Value}(h:Vals xs us):∀k:Nat,Vals (List.replicate k xs).flatten (List.replicate k us).flatten
 |0=> .nil
 | k+1=>by
   rw[List.replicate_succ,List.replicate_succ,List.flatten_cons,List.flatten_cons]
   exact Vals.append h (Vals.rep h k)
theorem C8p(its:List Value):∀(k:Nat) (acc:List Value),
   List.foldl (fun x1 x2=>x1++x2) acc.toArray (List.replicate k its.toArray)=(acc++(List.replicate k its).flatten).toArray
 |0,acc=>by simp
 | k +1,acc=>by
   have e:acc.toArray++its.toArray=(acc++its).toArray:=by simp
   have e2:(acc++its)++(List.replicate k its).flatten=acc++(List.replicate (k+1) its).flatten:=by
     rw[List.replicate_succ,List.flatten_cons,List.append_assoc]
   rw[<-e2, <-C8p its k (acc++its), <-e,List.replicate_succ,List.foldl_cons]
section
variable{X:Cx}{pins:List (Addr×Obj)}{σ:St}{H:Hp}{s:Shared}{l b:Addr}{xs ys zs:List V}
theorem Inv.lset{its its':List Value}{n:Nat}{f:Array Value ->Array Value}{t':Nat}(I:Inv X pins σ H s)(hH:H l=some (.lst xs))
   (e:s.heap.get? l=some {cls:= .type "list",data:= .seq its.toArray n}) (hf:f its.toArray=its'.toArray) (hv:Vals ys its') (hz:ys.length<=sizeLine):
   Inv X pins σ (upd H l (.lst ys)) {s with heap:=s.heap.update l (Obj.mapSeq f),toks:=t'}:=by
 have q:=PySem.IsL.update e f
 rw[hf] at q
 refine I.write (x:=l) (e:=l) (by rw[hH];exact trivial) (.inl rfl) (fun b' u hb hu=>(Heap.get?_update_other s.heap (Obj.mapSeq f) (Ne.symm hb)).trans hu) ⟨_,q⟩ ?_
 exact⟨hz,its',_,hv,q⟩
theorem Inv.lnew{its:List Value}{t':Nat}(I:Inv X pins σ H s)(hv:Vals ys its)(hz:ys.length<=sizeLine):
   Inv X pins σ (upd H s.heap.objs.size (.lst ys)) {s with heap:=s.heap.push {cls:= .type "list",data:= .seq its.toArray},toks:=t'}:=
 I.laid (fun _ _ q=>Heap.get?_push_of_some _ q) (Nat.le_refl _) ⟨hz,its,0,hv,Heap.get?_push_size _ rfl⟩
theorem Inv.fresh(I:Inv X pins σ H s):H s.heap.objs.size=none:=I.hok.fresh (Nat.le_refl _)
theorem Inv.lstM(I:Inv X pins σ H s)(hH:H l=some (.lst xs)):xs.length<=sizeLine/\∃(its:List Value) (n:Nat),Vals xs its/\xs.length=its.length/\s.heap.get? l=some {cls:= .type "list",data:= .seq its.toArray n}:=by
 obtain⟨z,its,n,r,e⟩:=I.hok l _ hH
 exact⟨z,its,n,r,r.length,e⟩
theorem U4d{n:Nat}(h:n<=sizeLine):Builtin.List.listTooLong n=false:=by
 unfold Builtin.List.listTooLong
 exact decide_eq_false (by omega)
end
section
variable{X:Cx}
noncomputable def Y1a:V ->List V ->Hp ->VK ->Prop:=fun x vs H Q=>∃l xs y,x= .ref l/\vs=[y]/\H l=some (.lst xs)/\xs.length<sizeLine/\Q .non (upd H l (.lst (xs++ [y])))
theorem B1p:MtM X "list.append" Y1a:=by
 intro pins s σ H x vs v us Q I rx rv h
 obtain⟨l,xs,y,rfl,rfl,hH,hz,q⟩:=h
 cases rx
 obtain⟨u,rfl,ru⟩:=rv.one
 obtain⟨z,its,n,r,hl,e⟩:=I.lstM hH
 refine call_meets F.slot_list_append ⟨_,e,rfl⟩ F.entry_list_append (F.args_list_append_2 _ _) (PySem.list_append l its.toArray n u (by rw[List.size_toArray];omega)) ⟨e,?_⟩
 refine⟨.non,_,I.lset (its':=its++ [u]) hH e (by simp) (r.append (.cons ru .nil)) ?_,rfl,q⟩
 rw[List.length_append,List.length_singleton]
 omega
noncomputable def Z9g:R2:=fun x y H Q=>∃l b xs zs,x= .ref l/\y= .ref b/\H l=some (.lst xs)/\H b=some (.lst zs)/\xs.length+zs.length<=sizeLine/\∀p,H p=none ->Q (.ref p) (upd H p (.lst (xs++zs)))
theorem C0v:OpR X (binaryOp .Add) Z9g:=by
 intro pins s σ H x y v u Q I rx ry h
 obtain⟨l,b,xs,zs,rfl,rfl,hH,hB,hz,q⟩:=h
 cases rx
 cases ry
 obtain⟨z,its,n,r,hl,e⟩:=I.lstM hH
 obtain⟨z2,its2,n2,r2,hl2,e2⟩:=I.lstM hB
 refine PySem.P.add_list e e2 ?_ (by rw[List.size_toArray,List.size_toArray];omega)
 have ea:its.toArray++its2.toArray=(its++its2).toArray:=by simp
 rw[ea]
 exact⟨.ref _,_,I.lnew (t':=s.toks) (r.append r2) (by rw[List.length_append];omega),rfl,q _ I.fresh⟩
noncomputable def Z9r:R2:=fun x y H Q=>∃l k xs,x= .ref l/\y= .int k/\H l=some (.lst xs)/\ -(2^63)<=k/\k<2^63/\xs.length*k.toNat<=sizeLine/\
 ∀p,H p=none ->Q (.ref p) (upd H p (.lst (List.replicate k.toNat xs).flatten))
theorem J6n{α:Type}(xs:List α)(k:Nat):(List.replicate k xs).flatten.length=k*xs.length:=by
 induction k with
 |zero=>simp
 |succ k ih=>rw[List.replicate_succ,List.flatten_cons,List.length_append,ih,Nat.succ_mul,Nat.add_comm]
theorem G7n:OpR X (binaryOp .Mult) Z9r:=by
 intro pins s σ H x y v u Q I rx ry h
 obtain⟨l,k,xs,rfl,rfl,hH,h1,h2,hz,q⟩:=h
 cases rx
 obtain⟨t,rfl⟩:=ry
 obtain⟨z,its,n,r,hl,e⟩:=I.lstM hH
 have hlen:its.toArray.size*k.toNat<=sizeLine:=by rw[List.size_toArray, <-hl];exact hz
 have hcap:¬its.toArray.size*k.toNat>(2^63-1)/8:=by
   have:(sizeLine:Nat)<=(2^63-1)/8:=by decide
   omega
 have hfit:¬(!Builtin.List.listFitsIndex k)=true:=by
   rw[fitsIndex_both h1 h2]
   exact Bool.false_ne_true
 have hlong:¬Builtin.List.listTooLong (its.toArray.size*k.toNat)=true:=by
   rw[U4d hlen]
   exact Bool.false_ne_true
 have hnew:List.foldl (fun x1 x2=>x1++x2) #[] (List.replicate (if its.toArray.isEmpty=true then 0 else k.toNat) its.toArray)=(List.replicate k.toNat its).flatten.toArray:=by
   have f0:∀m:Nat,List.foldl (fun x1 x2=>x1++x2) #[] (List.replicate m its.toArray)=(List.replicate m its).flatten.toArray:=fun m=>by
     have:=C8p its m []
     rw[List.nil_append] at this
     exact this
   rw[f0]
   cases its with
   |nil=>simp
   |cons a r'=>rw[if_neg (by simp)]
 refine wpAny_binaryOp_repeat_ref (T:="list") (U:="int") (by decide) ⟨_,e,rfl⟩ (fun s'=>typeIs_int s' k t) noFill_list_mul F.fills_int_mul F.slot_int_rmul repeat_list F.slot_int_index.lookup
   (call_meets F.slot_int_rmul (typeIs_int s k t) F.entry_int_rmul (F.args_int_rmul_2 _ _) (int___rmul___int_list k t l its.toArray n)
     ⟨e,rfl,⟨_,e,rfl⟩,call_meets F.slot_list_mul ⟨_,e,rfl⟩ F.entry_list_mul (F.args_list_mul_2 _ _) (AutoListH.list___mul___list_int_3 l its.toArray n k t hfit hcap hlong) ⟨e,?_⟩⟩)
 rw[hnew]
 exact⟨.ref _,_,I.lnew (t':=s.toks) (r.rep k.toNat) (by rw[J6n,Nat.mul_comm];exact hz),rfl,q _ I.fresh⟩
end
section
variable{prog:Program}{w:World}{A:Around}{E:Value ->Shared ->Prop}{s:Shared}
end
section
variable{X:Cx}
end
end L2
namespace Att
open PySem PySem.W PySem.Calls PyProof.Rows
theorem B9r{P:Params}{h:Heap}:∀(ns:List Int) (vs:List Value),WellAll P h vs (ns.map WData.int) ->IntsAre vs ns:=by
 intro ns
 induction ns with
 | nil=>
   intro vs w
   rw[List.map_nil] at w
   cases w
   exact .nil
 | cons n ns ih=>
   intro vs w
   rw[List.map_cons] at w
   cases w with
   | cons a b=>
     cases a
     exact .cons _ _ (ih _ b)
theorem J8h{l:OpenLaw}{n:Nat}(hn:l.most=some n){P:Params}{h:Heap}{args:List WData}{vals:List Value}
   (hpre:l.row.toRowW.claim.pre args=true) (hwl:WellAll P h vals args):
   ∃a vs ns,vals=[Value.ref a]/\args=[WData.list (ns.map WData.int)]/\h.get? a=some {cls:= .type "list",data:= .seq vs.toArray}/\IntsAre vs ns/\ns.length<=n:=by
 have hsh:WShape.hasAll [] args [.list .int]=true:=(pre_splitW hpre).1
 have hc:l.pre.holds [] {args:=args}=true:=(pre_splitW hpre).2
 obtain⟨d,r,rfl,h1,h2⟩:=hasAllW_cons hsh
 obtain rfl:=hasAllW_nil h2
 obtain⟨xs,rfl,h3⟩:=hasW_list h1
 obtain⟨ns,rfl⟩:=items_int h3
 have hlen:ns.length<=n:=by
   unfold OpenLaw.pre at hc
   have h4:(WTm.not (.lt (.lit (.int (n:Int))) (.len (.arg 0)))).holds [] {args:=[.list (ns.map .int)]}=true:=by
     have h4:=(holds_andW hc).1
     rw[hn] at h4
     exact h4
   have h5:=condW_of h4 (w_not (w_lt w_lit (w_len_list (w_arg rfl))))
   rw[List.length_map] at h5
   refine Nat.le_of_not_lt fun q=>?_
   have q':(n:Int)<((ns.length:Nat):Int):=by omega
   first
     |(rw[decide_eq_true q'] at h5;exact absurd h5 (by decide))
     |(simp at h5;omega)
 cases hwl with
 | cons w1 w2=>
   cases w2
   cases w1 with
   |list ho hall=>exact⟨_,_,ns,rfl,rfl,ho,B9r ns _ hall,hlen⟩
theorem J9y(l:OpenLaw)(args:List WData):l.row.toRowW.claim.post args (.bool true) args=true:=
 postW_of (r:=l.row.toRowW) (X:=(true==true))
   (show WShape.has [] (.bool true) .bool=true by first|rfl|decide|simp[WShape.has,WShape.arms,WShape.armsAll])
   (show(WTm.eq .res (.lit (.bool true))).value [] {args:=args,res:=some (.bool true),after:=args}=some (.bool (true==true)) from w_eq_bool (w_res rfl) w_lit) rfl
theorem attach_call{l:OpenLaw}{n:Nat}{q:Program}{loose:List Str}{XP:(Str ->Option Value) ->Heap ->Prop}{YP:World ->Heap ->Prop}{d:DefRec}
   (hn:l.most=some n) (hdf:d.params.defaults=[])
   (call:∀(w:World) (s₀ s₁:Shared) (mg mb:Str ->Option Value) (fa:Addr) (o:Obj) (pm cd doc:Value) (a:Addr) (vs:List Value) (ns:List Int),
     Ground q loose [] XP w s₀ mg mb s₁.heap ->YP w s₁.heap ->
     s₁.heap.get? fa=some o ->o.data= .func (docDef d.name d.params d.body d.scope pm cd doc) ->s₁.heap.CodeRec cd d.name ->mg d.name=some (.ref fa) ->
     s₁.heap.get? a=some {cls:= .type "list",data:= .seq vs.toArray} ->IntsAre vs ns ->ns.length<=n ->s₁.gens= #[] ->
     codeAny (model l.prog w) callerA (.call (.ref fa) ⟨[.ref a],[]⟩) (fun r s'=>r= .ok (.ret (.bool true))/\OldK s₁.heap s'.heap/\s'.os=s₁.os/\AllBare s'.gens) s₁):
   WalkO q loose XP YP l.row.toRowW d [] (fun f vs=>PySem.call f vs):=by
 intro w s₀ s₁ mg mb G Y fa o pm cd doc dV kV ho hd hcd hD hmg hg args vals as hpre hlay hrd hwl hlo
 obtain rfl:dV= .none:=Dflts.none hD hdf
 obtain rfl:kV= .none:=Dflts.noKw hD
 obtain⟨a,vs,ns,rfl,rfl,hobj,hints,hlen⟩:=J8h hn hpre hwl
 refine enter_call (codeAny_mono (call w s₀ s₁ mg mb fa o pm cd doc a vs ns G Y ho (fd_plain hd) hcd hmg hobj hints hlen hg) fun r s' hq=>?_)
 obtain⟨rfl,h2,h3,h4⟩:=hq
 exact⟨.inl ⟨.bool true,.bool true,[],rfl,fun _=>rfl,.bool true,J9y l _,fun _=>⟨List.Pairwise.nil,fun _ hm=>(nomatch hm)⟩⟩,h2,h3,h4⟩
section
variable{prog:Program}{w:World}{A:Around}{E:Value ->Shared ->Prop}{s:Shared}{K:Frag}
end
end Att
namespace L2
open PySem PySem.Spec PyProof.Rows
theorem C8t:∀{vs:List Value} {ns:List Int},IntsAre vs ns ->Vals (ns.map V.int) vs
 |_,_,.nil=> .nil
 |_,_,.cons n t h=> .cons ⟨t,rfl⟩ (C8t h)
noncomputable def D8 (s:Stmt) (j:Nat):Stmt:=match s with
 | .ClassDef _ _ _ body _ _ _ _ _ _ _=>body.getD j (.Pass ⟨0,0,0,0⟩)
 |_=> .Pass ⟨0,0,0,0⟩
noncomputable def B9 (s:Stmt):Arguments:=match s with
 | .FunctionDef _ a _ _ _ _ _ _ _ _=>a
 |_=>{posonlyargs:=[],args:=[],vararg:=none,kwonlyargs:=[],kw_defaults:=[],kwarg:=none,defaults:=[]}
noncomputable def B8 (s:Stmt):List Stmt:=match s with
 | .FunctionDef _ _ b _ _ _ _ _ _ _=>b
 |_=>[]
noncomputable def A1 (s:Stmt):Scope:=match s with
 | .FunctionDef _ _ _ _ _ _ sc _ _ _=>sc
 |_=>{kind:= .function,names:=[],isGenerator:=false,isCoroutine:=false}
noncomputable abbrev CX0:CXT:=fun _ _ _ _ _ _=>False
noncomputable abbrev E0:XK:=fun _ _ _=>False
theorem Z6c{X:Cx}:G7r CX0 X E0:=fun _ _ _ _ _ _ _ h=>h.elim
structure Fun(K:PySem.W.Frag)(x qual:Str)(st:Stmt)(f:Addr)(fd:FuncData):Prop where
 ex:∃(oc:Value) (od:Option Addr) (kV doc pm:Value) (an:Option Addr) (cdv ct:Value) (osl:Array (Option Value)),
   fd=PySem.W.fnOf x qual (B9 st) (B8 st) (A1 st) .none kV doc pm an cdv ct/\K.lookup f=some ⟨oc,od,.func fd,osl⟩/\PySem.W.codeIn K cdv qual=true
 kp:PySem.W.keepIn K (.ref f)=true
section
variable{P:Program}{w:World}{K:PySem.W.Frag}{mg:Str ->Option Value}{base:Heap}
theorem Fun.ok{x qual:Str}{st:Stmt}{f:Addr}{fd:FuncData}{N ps:List Str}{k:Nat}{sp:Sp}(F:Fun K x qual st f fd)(S:FnScope N ps (A1 st))(len:∀vs H Q E,sp vs H Q E ->vs.length=ps.length)
   (hbody:∀(cdv:Value) (A:Around) (outer:List Env) (s:Shared) (H:Hp) (vs:List V) (Q:VK) (E:XK),Room k (A.deeper (envOfC qual (A1 st) s.heap.objs.size f cdv)) ->sp vs H Q E ->
     ∃t,PSs (A0b CX0 P w K mg base N qual (A1 st) f cdv A outer s H E).nox (B8 st) t/\t {nx:=fun _ H'=>Q .non H',rt:=Q} (A2t N vs) H):FnOk P w K mg base CX0 (k+1) f fd ps sp:=by
 obtain⟨oc,od,kV,doc,pm,an,cdv,ct,osl,rfl,lk,hcd⟩:=F.ex
 refine U4k lk hcd S len fun A outer s H vs Q E hr hsp=>?_
 obtain⟨t,h,q⟩:=hbody cdv A outer s H vs Q E hr hsp
 exact⟨t,h.nox,q⟩
theorem Fun.binds{x qual:Str}{st:Stmt}{f:Addr}{fd:FuncData}{ps:List Str}(F:Fun K x qual st f fd)
   (h:∀(kV doc pm:Value) (an:Option Addr) (cdv ct:Value) (us:List Value),us.length=ps.length ->bindArgs (PySem.W.fnOf x qual (B9 st) (B8 st) (A1 st) .none kV doc pm an cdv ct) ⟨us,[]⟩=pure (ps.zip us)):Binds K fd ps []:=by
 obtain⟨oc,od,kV,doc,pm,an,cdv,ct,osl,rfl,lk,hcd⟩:=F.ex
 exact .all (h kV doc pm an cdv ct)
theorem G6{x qual:Str}{st:Stmt}{f:Addr}{oc:Value}{od an:Option Addr}{osl:Array (Option Value)}{kV doc pm cdv ct:Value}(l:K.lookup f=some ⟨oc,od,.func (PySem.W.fnOf x qual (B9 st) (B8 st) (A1 st) .none kV doc pm an cdv ct),osl⟩)
   (c:PySem.W.codeIn K cdv qual=true) (k:PySem.W.keepIn K (.ref f)=true):Fun K x qual st f (PySem.W.fnOf x qual (B9 st) (B8 st) (A1 st) .none kV doc pm an cdv ct):=⟨⟨oc,od,kV,doc,pm,an,cdv,ct,osl,rfl,l,c⟩,k⟩
end
theorem Y5{n:Nat}(h:n<=1000):n<sizeLine:=Nat.lt_of_le_of_lt h (by decide)
section
variable{X:Cx}
theorem pv(i:Nat){x:Str}{pos:Pos}(hN:X.N[i]?=some x:=by rfl)(hv:Vis X.env.scope x:=by first|exact Or.inl rfl|exact Or.inr (Or.inl rfl)|exact Or.inr (Or.inr rfl))(hd:(x==("__debug__":Str))=false:=by decide)
   (hcd:(x==("__classdict__":Str))=false:=by decide):PE X (.Name x pos) (Z6f i):=G5k hN hv hd hcd
end
theorem U1{A B:Prop}(h:B):if false=true then A else B:=by
 rw[if_neg Bool.false_ne_true]
 exact h
theorem Y6{A B:Prop}(h:A):if true=true then A else B:=by
 rw[if_pos rfl]
 exact h
theorem Y6x{c A B:Prop} [Decidable c] (hc:c) (h:B):if(!decide c)=true then A else B:=by
 rw[decide_eq_true hc]
 exact U1 h
noncomputable def Same (H H':Hp):Prop:=∀b o,H b=some o ->H' b=some o
theorem Same.refl(H:Hp):Same H H:=fun _ _ h=>h
theorem Same.trans{H H1 H2:Hp}(a:Same H H1)(b:Same H1 H2):Same H H2:=fun c o h=>b c o (a c o h)
theorem Same.free{H H':Hp}(e:Same H H'){l:Addr}(h:H' l=Option.none):H l=Option.none:=by
 cases q:H l with
 |none=>rfl
 | some o=>
   rw[e l o q] at h
   cases h
theorem Same.seq{K:PySem.W.Frag}{H H':Hp}{a:Addr}{xs:List V}(e:Same H H')(h:SqL K H a xs):SqL K H' a xs:=by
 rcases h with(h|⟨o,h⟩)|h
 . exact .inl (.inl (e _ _ h))
 . exact .inl (.inr ⟨o,e _ _ h⟩)
 . exact .inr h
end L2
set_option maxHeartbeats 4000000
namespace L2
open PySem PySem.Spec PyProof.Rows
noncomputable abbrev Z6 (C:Value) (t:Addr) (dd:Option Addr) (tb:Value):Obj:=
 {cls:=C,dict:=dd,data:= .fields #[.ref t,tb,.none,.none,.bool false,.none]}
structure Noted(fs:List Addr)(h h':Heap)(a:Addr)(C:Value)(t:Addr)(dd:Option Addr)(T:Addr)(fl:Value):Prop where
 keep:∀b o,b ∉ fs ->b≠a ->h.get? b=some o ->h'.get? b=some o
 slot:∀b o,b≠a ->h.get? b=some o ->∃sl,h'.get? b=some {o with slots:=sl}
 new:h.get? T=none
 ne:T≠a
 exc:h'.get? a=some (Z6 C t dd (.ref T))
 tbk:∃oT ts,h'.get? T=some oT/\oT.data= .fields ts/\ts[3]?=some fl
section
variable{M:Model}{A:Around}{E:Value ->Shared ->Prop}{s:Shared}{base:Heap}{env:Env}{outer:List Env}{L a t:Addr}{C:Value}{dd:Option Addr}{tb:Value}{Q:Unit ->Shared ->Prop}
theorem Y1n{oa:Obj}{vs:Array Value}{l:List Env}(hl:s.heap.FunFrames base l)(ha:s.heap.get? a=some oa)(hd:oa.data= .fields vs):a ∉ l.filterMap (·.frame):=by
 intro hm
 obtain⟨_,o,ho,hn⟩:=hl.mem hm
 rw[ha] at ho
 cases ho
 exact hn vs hd
theorem J6w{head:Value}{hn:Bool}(hfr:A.frames=some (env::outer))(hl:s.heap.FunFrames base (env::outer))(hf:env.frame=some L)
   (ha:s.heap.get? a=some (Z6 C t dd tb))
   (h:∀h' T,Noted ((env::outer).filterMap (·.frame)) s.heap h' a C t dd T (rawInt L) ->Q () {s with heap:=h'}):
   wpAny M A (do
     let x<-frameOf env
     let pl<-entryPlaceOf L hn
     let b<-EntryCells.newEntry head x .none (rawInt L) .none pl
     setField (.ref a) 1 b) Q E s:=by
 have na:=Y1n hl ha rfl
 refine wpAny_bind (wpAny_frameOf_fun hfr hl hf fun g hg=>?_)
 refine wpAny_bind (wpAny_entryPlaceOf fun pl hpl=>?_)
 unfold EntryCells.newEntry newFields
 refine wpAny_bind (wpAny_newObj_type ?_ (hpl.sizeOk5 _ _ _ _ _))
 have a1:g.get? a=some (Z6 C t dd tb):=(hg.2.1 a na).trans ha
 have a2:=fun(z:Obj)=>Heap.get?_push_of_some (h:=g) z a1
 have nT:g.objs.size≠a:=Nat.ne_of_gt (Heap.lt_size a1)
 refine wpAny_setField (a2 _) rfl (by show 1<6;decide) (h _ g.objs.size ?_)
 have up:∀(z:Obj) (f:Obj ->Obj) b o,b≠a ->g.get? b=some o ->((g.push z).update a f).get? b=some o:=by
   intro z f b o hb e
   rw[Heap.get?_update_other _ _ (Ne.symm hb)]
   exact Heap.get?_push_of_some _ e
 refine⟨fun b o hb hba e=>up _ _ b o hba ((hg.2.1 b hb).trans e),fun b o hba e=>?_,?_,nT,?_,?_⟩
 . obtain⟨sl,e1⟩:=hg.2.2 b o e
   exact⟨sl,up _ _ b _ hba e1⟩
 . refine Heap.get?_none_of_le ?_
   rw[hg.1]
   exact Nat.le_refl _
 . exact Heap.get?_update_self _ (a2 _) rfl
 . refine⟨_,_,(Heap.get?_update_other _ _ (Ne.symm nT)).trans (Heap.get?_push_size _ rfl),rfl,?_⟩
   first
     |(simp;done)
     |(rcases hpl with rfl|⟨_,_,_,_,_,_,_,rfl⟩<;>simp)
noncomputable def Y8d (h:Heap) (a:Addr) (tb:Value):Prop:=tb= .none\/∃T oT ts,tb= .ref T/\T≠a/\h.get? T=some oT/\oT.data= .fields ts/\ts[3]?=some .none
theorem Y9m(hfr:A.frames=some (env::outer))(hl:s.heap.FunFrames base (env::outer))(hf:env.frame=some L)
   (ha:s.heap.get? a=some (Z6 C t dd tb)) (ht:Y8d s.heap a tb)
   (h:∀h' T,(∀b o,b ∉ (env::outer).filterMap (·.frame) ->b≠a ->tb≠ .ref b ->s.heap.get? b=some o ->h'.get? b=some o) ->
     (∀b o,b≠a ->tb≠ .ref b ->s.heap.get? b=some o ->∃sl,h'.get? b=some {o with slots:=sl}) ->s.heap.get? T=none ->T≠a ->
     h'.get? a=some (Z6 C t dd (.ref T)) ->(∃oT ts,h'.get? T=some oT/\oT.data= .fields ts/\ts[3]?=some (rawInt L)) ->Q () {s with heap:=h'}):
   wpAny M A (noteFrame (.ref a) env) Q E s:=by
 unfold noteFrame
 simp only[hf]
 refine wpAny_bind (wpAny_field ha rfl (x:=tb) rfl ?_)
 rcases ht with rfl|⟨T,oT,ts,rfl,nT,hT,dT,h3⟩
 . rw[if_neg (by decide)]
   refine J6w hfr hl hf ha fun h' T N=>?_
   exact h h' T (fun b o hb hba _ e=>N.keep b o hb hba e) (fun b o hba _ e=>N.slot b o hba e) N.new N.ne N.exc N.tbk
 . rw[if_pos (show(Value.ref T !=Value.none)=true by simp)]
   refine wpAny_bind (wpAny_field hT dT h3 ?_)
   rw[if_neg (show¬((Value.none==rawInt L)=true) by simp[rawInt])]
   refine wpAny_bind (wpAny_setField hT dT (Array.getElem?_eq_some_iff.mp h3).1 ?_)
   have oth:∀(f:Obj ->Obj) b,b≠T ->(s.heap.update T f).get? b=s.heap.get? b:=fun f b hb=>Heap.get?_update_other _ _ (Ne.symm hb)
   have nrec:∀b o,s.heap.get? b=some o ->(∀vs,o.data≠ .fields vs) ->b≠T:=by
     intro b o e hn q
     rw[q,hT] at e
     cases e
     exact hn ts dT
   refine J6w (s:={s with heap:=_}) hfr (hl.of_keeps fun b o e hn=>⟨o,(oth _ b (nrec b o e hn)).trans e,rfl⟩) hf ((oth _ a (Ne.symm nT)).trans ha) fun h' T' N=>?_
   have neb:∀b,Value.ref T≠Value.ref b ->b≠T:=fun b q z=>q (by rw[z])
   refine h h' T' (fun b o hb hba hbT e=>N.keep b o hb hba ((oth _ b (neb b hbT)).trans e)) (fun b o hba hbT e=>N.slot b o hba ((oth _ b (neb b hbT)).trans e)) ?_ N.ne N.exc N.tbk
   have nw:=N.new
   by_cases q:T'=T
   . subst q
     have:=Heap.get?_update_self (Obj.mapFields (·.setIfInBounds 3 Value.none)) hT (Obj.isFreed_of_fields (Obj.data_mapFields dT _))
     rw[nw] at this
     cases this
   . rw[oth _ T' q] at nw
     exact nw
theorem Y7r{T:Addr}{oT:Obj}{ts:Array Value}{fl:Value}(ha:s.heap.get? a=some (Z6 C t dd (.ref T)))(nT:T≠a)(hT:s.heap.get? T=some oT)(dT:oT.data= .fields ts)(h3:ts[3]?=some fl)
   (h:∀h',(∀b o,b≠T ->s.heap.get? b=some o ->h'.get? b=some o) ->Y8d h' a (.ref T) ->Q () {s with heap:=h'}):wpAny M A (setFlight (.ref a) none) Q E s:=by
 have sz:3<ts.size:=(Array.getElem?_eq_some_iff.mp h3).1
 unfold setFlight
 refine wpAny_bind (wpAny_field ha rfl (x:= .ref T) rfl ?_)
 rw[if_pos (show(Value.ref T !=Value.none)=true by simp)]
 refine wpAny_setField hT dT sz (h _ (fun b o hb e=>(Heap.get?_update_other _ _ (Ne.symm hb)).trans e) ?_)
 have d2:=Obj.data_mapFields dT (·.setIfInBounds 3 ((none:Option Addr).elim Value.none fun f=>rawInt f))
 exact .inr ⟨T,_,_,rfl,nT,Heap.get?_update_self _ hT (Obj.isFreed_of_fields d2),d2,by simp[sz]⟩
end
noncomputable def Hd (A:Around) (h:Heap):Prop:=A.handled=none\/∃x ox vs,A.handled=some (.ref x)/\h.get? x=some ox/\ox.data= .fields vs/\vs[2]?=some .none
theorem C5g : entryFor table "proto.unchain" = some Builtin.«proto.unchain» := entryFor_of_tree (by kernel_rfl)
section
variable{prog:Program}{w:World}{A:Around}{E:Value ->Shared ->Prop}{s:Shared}
theorem Hd.keeps{h h':Heap}(x:Hd A h)(k:∀b o,h.get? b=some o ->h'.get? b=some o):Hd A h':=by
 rcases x with z|⟨x,ox,vs,z,e,d,n⟩
 . exact .inl z
 . exact .inr ⟨x,ox,vs,z,k x ox e,d,n⟩
theorem G0w{α:Type}{a:Addr}{oa:Obj}{ws:Array Value}{h₀:Heap}{Q:α ->Shared ->Prop}(hd:Hd A h₀)(k:∀b o,h₀.get? b=some o ->s.heap.get? b=some o)(na:h₀.get? a=none)
   (ha:s.heap.get? a=some oa) (da:oa.data= .fields ws) (h2:2<ws.size)
   (h:∀h',(∀b o,b≠a ->s.heap.get? b=some o ->h'.get? b=some o) ->(∃o',h'.get? a=some o'/\o'.cls=oa.cls) ->E (.ref a) {s with heap:=h'}):
   wpAny (model prog w) A (raiseNew (.ref a):Sem α) Q E s:=by
 unfold raiseNew
 refine wpAny_bind (wpAny_handled ?_)
 rcases hd with z|⟨x,ox,vs,z,e,d,n⟩
 . rw[z]
   exact wpAny_bind (wpAny_pure (wpAny_throw (h _ (fun b o _ e=>e) ⟨_,ha,rfl⟩)))
 . rw[z]
   have nx:x≠a:=by
     intro q
     rw[q,na] at e
     cases e
   dsimp only
   rw[if_pos (show(Value.ref x !=Value.ref a)=true by simpa using nx)]
   refine wpAny_bind (wpAny_holding (wpAny_runValue (codeAny_builtin C5g ?_)))
   unfold Builtin.«proto.unchain»
   dsimp only
   refine wpAny_bind (wpAny_field (k x ox e) d n ?_)
   rw[if_pos (by decide)]
   refine wpAny_pure ?_
   dsimp only
   unfold updateField
   refine wpAny_bind (wpAny_bind (wpAny_load ha ?_))
   rw[da]
   dsimp only
   rw[if_pos h2]
   refine wpAny_update ha (wpAny_throw (h _ (fun b o hb e=>(Heap.get?_update_other _ _ (Ne.symm hb)).trans e) ⟨_,Heap.get?_update_self _ ha (Obj.isFreed_of_fields (Obj.data_mapFields da _)),Obj.cls_mapFields _ _⟩))
theorem Y2x{α:Type}{Q:α ->Shared ->Prop}(hd:Hd A s.heap)
   (h:∀h' e,(∀b o,s.heap.get? b=some o ->h'.get? b=some o) ->({s with heap:=h'}:Shared).TypeIs (.ref e) "StopIteration" ->E (.ref e) {s with heap:=h'}):
   wpAny (model prog w) A (newExc (.type "StopIteration") []>>=fun e=>(raiseNew e:Sem α)) Q E s:=by
 refine wpAny_bind ?_
 simp only[newExc,newTuple]
 refine wpAny_bind (wpAny_newObj_type ?_ (by size_fits));refine wpAny_bind (m:=firstArgMember _ _) (wpAny_of_eq (a:=Value.none) (by first|rfl|(simp only[firstArgMember];rfl)) ?_)
 refine wpAny_newObj_type ?_ (by size_fits);dsimp only
 have k1:∀(z:Obj) b o,s.heap.get? b=some o ->(s.heap.push z).get? b=some o:=fun z b o e=>Heap.get?_push_of_some _ e
 have k2:∀(z y:Obj) b o,s.heap.get? b=some o ->((s.heap.push z).push y).get? b=some o:=fun z y b o e=>Heap.get?_push_of_some _ (Heap.get?_push_of_some _ e)
 have nw:∀(z:Obj),s.heap.get? (s.heap.push z).objs.size=none:=fun z=>Heap.get?_none_of_le (by rw[Heap.size_push];exact Nat.le_succ _)
 refine G0w (s:={s with heap:=_}) (h₀:=s.heap) hd (k2 _ _) (nw _) (Heap.get?_push_size _ rfl) rfl (by show 2<6;decide) fun h' k ⟨o',e',c'⟩=>h h' _ (fun b o e=>?_) ⟨o',e',c'⟩
 refine k b o ?_ (k2 _ _ b o e)
 intro q;rw[q,nw] at e;cases e
theorem B9s{it t:Addr}{i:Nat}{items:Array Value}{Q:Option Value ->Shared ->Prop}(hd:∀h':Heap,Heap.ExtBut it s.heap h' ->Hd A h')
   (hit:IsTupIter s.heap it t i) (hl:IsTup s.heap t items) (hx:items[i]?=none)
   (hQ:∀h',Heap.ExtBut it s.heap h' ->Q none {s with heap:=h'}):wpAny (model prog w) A (pyNext (.ref it)) Q E s:=by
 obtain⟨o,ho,hc,dt⟩:=id hit
 obtain⟨ol,hol,_,nl,dl⟩:=hl
 unfold pyNext
 refine wpAny_bind (wpAny_attempt (wpAny_callSpecial?_slot (name:=Str.ofString "__next__") hit.typeIs slot_tupleiter_next (wpAny_call_entry slot_tupleiter_next hit.typeIs entry_tupleiter_next ?_ (args_tupleiter_next _))))
 show wpAny _ _ (field (.ref it) 0>>=_) _ _ _;refine wpAny_bind (wpAny_field ho dt (x:= .ref t) rfl ?_)
 show wpAny _ _ (if(Value.ref t==Value.none)=true then _ else _) _ _ _;rw[if_neg (show¬((Value.ref t==Value.none)=true) by simp)]
 show wpAny _ _ (field (.ref it) 1>>=_) _ _ _;refine wpAny_bind (wpAny_field ho dt (x:= .int i 0) rfl ?_)
 show wpAny _ _ (seqItems? (.ref t)>>=_) _ _ _;refine wpAny_bind (wpAny_seqItems hol dl ?_)
 simp only[Int.toNat_natCast,hx]
 refine wpAny_bind (wpAny_rule (wpAny_bind (wpAny_setField ho dt (by simp) ?_)))
 have up:=fun f=>(Heap.SameBut.update (a:=it) (h:=s.heap) (f:=f)).extBut
 refine Y2x (s:={s with heap:=_}) (A:=A.in1) (hd _ (up _)) fun h' e k ty=>?_
 refine wpAny_bind (wpAny_isInstance (T:="StopIteration") (b:=true) ty isSubtype_stop ?_)
 exact wpAny_pure (hQ h' fun b o hb z=>k b o (up _ b o hb z))
theorem U0b{t:Addr}{items:Array Value}{targets:List (Bool×(Value ->Sem Unit))}{Q:Unit ->Shared ->Prop}(hd:Hd A s.heap)(ht:IsTup s.heap t items)
   (hn:targets.length=items.size) (hst:targets.findIdx? (·.1)=none)
   (h:∀h',Heap.ExtBut s.heap.objs.size s.heap h' ->wpAny (model prog w) A (assignInOrder (targets.map (·.2)) items.toList) Q E {s with heap:=h'}):
   wpAny (model prog w) A (unpack (.ref t) targets) Q E s:=by
 have ne:t≠s.heap.objs.size:=by obtain⟨o,ho,_⟩:=ht;exact Nat.ne_of_lt (Heap.lt_size ho)
 unfold unpack
 rw[hn,hst]
 refine wpAny_bind (wpAny_holding ?_)
 unfold unpackItems
 refine wpAny_bind ?_
 unfold notIterableAtAll
 refine wpAny_bind (wpAny_specialOf ht.typeIs slot_tuple_iter.lookup (wpAny_pure ?_))
 simp only[Bool.false_eq_true,if_false]
 refine wpAny_bind (wpAny_holding (iter_tuple ht (wpAny_bind (wpAny_holding (draw_tuple ne items.size 0 _ _ ⟨_,Heap.get?_push_size _ rfl,rfl,rfl⟩ (ht.push _) (by omega) fun g hit sb=>?_)))))
 have all:List.take items.size (List.drop 0 items.toList)=items.toList:=List.take_of_length_le (by simp)
 rw[all,if_neg (by simp)]
 have old:∀b o,b≠s.heap.objs.size ->s.heap.get? b=some o ->g.get? b=some o:=fun b o hb e=>sb.extBut b o hb (Heap.get?_push_of_some _ e)
 refine wpAny_bind (wpAny_holding (B9s (fun h' k=>hd.keeps fun b o e=>?_) hit ((ht.push _).extBut sb.extBut ne) (by simp) fun h₂ he₂=>?_))
 . have nb:b≠s.heap.objs.size:=Nat.ne_of_lt (Heap.lt_size e)
   exact k b o nb (old b o nb e)
 . simp only[Option.isSome_none,Bool.false_eq_true,if_false]
   exact wpAny_pure (h h₂ fun b o hb e=>he₂ b o hb (old b o hb e))
end
theorem ObjOk.there{P:Program}{w:World}{H:Hp}{h:Heap}{a:Addr}{o:HO}(x:ObjOk P w H h a o):∃u,h.get? a=some u:=by
 cases o with
 |lst xs=>obtain⟨_,_,_,_,e⟩:=x;exact⟨_,e⟩
 |tup xs=>obtain⟨_,_,_,_,e,_⟩:=x;exact⟨_,e⟩
 |dK kvs=>obtain⟨_,_,_,_,o,_,_,e,_⟩:=x;exact⟨_,e⟩
 |dT kvs=>obtain⟨_,_,_,_,o,_,_,e,_⟩:=x;exact⟨_,e⟩
 |set S n=>obtain⟨o,_,_,_,e,_⟩:=x;exact⟨_,e⟩
 |ins C dx fs=>obtain⟨_,_,_,e,_⟩:=x;exact⟨_,e⟩
 |own y=>obtain⟨_,e⟩:=x;exact⟨_,e⟩
 |xd fs=>obtain⟨_,⟨_,_,_,e,_⟩,_⟩:=x;exact⟨_,e⟩
 |rng lo hi=>obtain⟨_,_,_,e⟩:=x;exact⟨_,e⟩
 |frz ob u=>obtain⟨e,_⟩:=x;exact⟨_,e⟩
 |tbl ps=>exact⟨_,show h.get? a=some _ from x⟩
 |met f y=>exact⟨_,show h.get? a=some _ from x⟩
 |ext φ=>obtain⟨_,e,_⟩:=x;exact e
theorem HOk.new{P:Program}{w:World}{H:Hp}{h:Heap}{a:Addr}(x:HOk P w H h)(e:h.get? a=none):H a=none:=by
 cases q:H a with
 |none=>rfl
 | some u=>
   obtain⟨o,z⟩:=(x a u q).there
   rw[e] at z
   cases z
structure Nw(X:Cx)(pins:List (Addr×Obj))(H:Hp)(b:Addr):Prop where
 un:H b=none
 loc:b≠X.env.locals
 fs:b ∉ X.fs
 old:X.s₀.heap.get? b=none
 cell:∀x c,X.env.cells.lookup x=some c ->c≠b
 pin:∀p∈X.pn++pins,p.1≠b
section
variable{X:Cx}{pins:List (Addr×Obj)}{σ:St}{H H':Hp}{s s':Shared}{a b t:Addr}{C:Value}{dd:Option Addr}
theorem Inv.fsFree(I:Inv X pins σ H s):∀b∈X.fs,H b=none:=fun b hb=>I.stkFree b (by
 rcases I.ok.stk with z|⟨z,zf⟩
 . rw[z];exact hb
 . rw[z]
   unfold frs
   rw[List.filterMap_cons,zf]
   exact List.mem_cons_of_mem _ hb)
theorem Inv.nw(I:Inv X pins σ H s)(hex:X.ex=[])(e:s.heap.get? b=none)(hu:H' b=none):Nw X pins H' b:=by
 refine⟨hu,?_,?_,?_,?_,?_⟩
 . rintro rfl
   obtain⟨m,⟨o,_,_,ho,_⟩,_⟩:=I.loc
   rw[e] at ho
   cases ho
 . intro hb
   obtain⟨_,o,ho,_⟩:=I.funs.mem hb
   rw[e] at ho
   cases ho
 . cases q:X.s₀.heap.get? b with
   |none=>rfl
   | some o=>
     obtain⟨o',z⟩:=I.base.there b o q (by rw[hex];simp)
     rw[e] at z
     cases z
 . rintro x c h rfl
   obtain⟨v,o,ho,_⟩:=I.cell x c h
   rw[e] at ho
   cases ho
 . rintro p hp rfl
   obtain⟨z,_⟩:=I.pin p hp
   rw[e] at z
   cases z
theorem Inv.stepN{h':Heap}{ch:List Addr}(I:Inv X pins σ H s)(hch:∀b∈ch,Nw X pins H b)
   (keep:∀b o,b≠X.env.locals ->b ∉ X.fs ->b ∉ ch ->s.heap.get? b=some o ->h'.get? b=some o)
   (slot:∀b o,b ∉ ch ->s.heap.get? b=some o ->∃sl,h'.get? b=some {o with slots:=sl}):Inv X pins σ H {s with heap:=h'}:=by
 have neL:∀b o,X.s₀.heap.get? b=some o ->b≠X.env.locals:=fun b o e=>Nat.ne_of_lt (Nat.lt_of_lt_of_le (Heap.lt_size e) I.ok.above)
 have neC:∀b o,X.s₀.heap.get? b=some o ->b ∉ ch:=fun b o e hb=>by
   have z:=(hch b hb).old
   rw[e] at z
   cases z
 have cellK:∀x c,X.env.cells.lookup x=some c ->∀v,s.heap.IsCell c v ->h'.IsCell c v:=fun x c e v ⟨o,ho,hd⟩=>by
   have nch:c ∉ ch:=fun z=>(hch c z).cell x c e rfl
   obtain⟨sl,q⟩:=slot c o nch ho
   exact⟨_,q,hd⟩
 refine⟨I.ok,I.os,I.bare,⟨fun b o e n hb hx=>?_,fun b o e n hb hx=>?_,I.base.free,fun b o e hx=>?_,I.base.tups,I.base.frzs,I.base.tbls⟩,?_,fun x c e=>?_,I.free,I.freeC,fun p hp=>?_,?_,I.len⟩
 . exact keep b o (neL b o e) hb (neC b o e) (I.base.keep b o e n hb hx)
 . obtain⟨sl,e1⟩:=I.base.slot b o e n hb hx
   obtain⟨sl',e2⟩:=slot b _ (neC b o e) e1
   exact⟨sl',e2⟩
 . obtain⟨o',e1⟩:=I.base.there b o e hx
   obtain⟨sl',e2⟩:=slot b _ (neC b o e) e1
   exact⟨_,e2⟩
 . obtain⟨m,hn,hl⟩:=I.loc
   refine⟨m,?_,fun i x v e1 e2 e3=>?_⟩
   . obtain⟨o,es,ep,ho,r⟩:=hn
     obtain⟨sl,q⟩:=slot _ o (fun z=>(hch _ z).loc rfl) ho
     exact⟨_,es,ep,q,r⟩
   . obtain⟨u,r,l⟩:=hl i x v e1 e2 e3
     refine⟨u,r,?_⟩
     rcases l with l|⟨k,c,e,z⟩
     . exact .inl l
     . exact .inr ⟨k,c,e,cellK x c e _ z⟩
 . obtain⟨v,z⟩:=I.cell x c e
   exact⟨v,cellK x c e v z⟩
 . obtain⟨e,n,ne,nf,d⟩:=I.pin p hp
   exact⟨keep p.1 p.2 ne nf (fun z=>(hch p.1 z).pin p hp rfl) e,n,ne,nf,d⟩
 . intro c o e
   have tr:∀b,H b≠none ->∀u,s.heap.get? b=some u ->h'.get? b=some u:=fun b hb u q=>
     keep b u (fun z=>hb (by rw[z];exact I.free)) (fun z=>hb (I.fsFree b z)) (fun z=>hb (hch b z).un) q
   refine(I.hok c o e).stay (fun b u hb q=>tr b ?_ u q) (fun _ q=>q) fun _ _ q=>q
   rcases hb with rfl|hb
   . rw[e];simp
   . rw[hb];simp
noncomputable def Flt (X:Cx) (pins:List (Addr×Obj)) (H:Hp) (s:Shared) (a:Addr) (C:Value) (t:Addr) (dd:Option Addr):Prop:=
 Nw X pins H a/\∃tb,s.heap.get? a=some (Z6 C t dd tb)/\Y8d s.heap a tb/\∀T,tb= .ref T ->Nw X pins H T
noncomputable def FltAt (X:Cx) (pins:List (Addr×Obj)) (H:Hp) (s:Shared) (a:Addr) (C:Value) (t:Addr) (dd:Option Addr) (fl:Value):Prop:=
 Nw X pins H a/\∃T oT ts,s.heap.get? a=some (Z6 C t dd (.ref T))/\T≠a/\Nw X pins H T/\s.heap.get? T=some oT/\oT.data= .fields ts/\ts[3]?=some fl
structure Body(X:Cx):Prop where
 ex:X.ex=[]
 st:X.stack=X.env::X.outer
 fr:X.env.frame=some X.env.locals
theorem FltAt.flt(F:FltAt X pins H s a C t dd .none):Flt X pins H s a C t dd:=by
 obtain⟨n,T,oT,ts,e,ne,nT,eT,dT,h3⟩:=F
 exact⟨n,_,e,.inr ⟨T,oT,ts,rfl,ne,eT,dT,h3⟩,fun T' z=>by cases z;exact nT⟩
noncomputable def G7k:Value ->List Addr
 | .ref z=>[z]
 |_=>[]
theorem G0y{M:Model}{E:Value ->Shared ->Prop}{Q:Unit ->Shared ->Prop}(B:Body X)(I:Inv X pins σ H s)(F:Flt X pins H s a C t dd)
   (k:∀s',Inv X pins σ H s' ->FltAt X pins H s' a C t dd (rawInt X.env.locals) ->Q () s'):wpAny M X.A (noteFrame (.ref a) X.env) Q E s:=by
 obtain⟨na,tb,e,ht,nT⟩:=F
 have hfr:=I.ok.frames
 rw[B.st] at hfr
 have hl:=I.stack
 rw[B.st] at hl
 refine Y9m hfr hl B.fr e ht fun h' T k1 k2 k3 k4 k5 k6=>?_
 have ch:∀b,b ∉ a::G7k tb ->b≠a/\tb≠ .ref b:=by
   intro b hb
   refine⟨fun z=>hb (by rw[z];exact List.mem_cons_self),fun z=>hb ?_⟩
   rw[z]
   exact List.mem_cons_of_mem _ (List.mem_singleton.mpr rfl)
 have I':Inv X pins σ H {s with heap:=h'}:=by
   refine I.stepN (ch:=a::G7k tb) (fun b hb=>?_) (fun b o h1 h2 h3 q=>k1 b o ?_ (ch b h3).1 (ch b h3).2 q) (fun b o h3 q=>k2 b o (ch b h3).1 (ch b h3).2 q)
   . rcases List.mem_cons.mp hb with rfl|hb
     . exact na
     . cases tb<;>simp[G7k] at hb
       subst hb
       exact nT _ rfl
   . intro z
     rw[List.filterMap_cons,B.fr] at z
     rcases List.mem_cons.mp z with z|z
     . exact h1 z
     . exact h2 z
 obtain⟨oT,ts,q1,q2,q3⟩:=k6
 exact k _ I' ⟨na,T,oT,ts,k5,k4,I.nw B.ex k3 (I.hok.new k3),q1,q2,q3⟩
theorem C1k{M:Model}{A:Around}{E:Value ->Shared ->Prop}{Q:Unit ->Shared ->Prop}{fl:Value}(I:Inv X pins σ H s)(F:FltAt X pins H s a C t dd fl)
   (k:∀s',Inv X pins σ H s' ->FltAt X pins H s' a C t dd .none ->Q () s'):wpAny M A (setFlight (.ref a) none) Q E s:=by
 obtain⟨na,T,oT,ts,e,ne,nT,eT,dT,h3⟩:=F
 refine Y7r e ne eT dT h3 fun h' k1 k2=>?_
 have I':Inv X pins σ H {s with heap:=h'}:=I.stepN (ch:=[T]) (fun b hb=>by
   have:b=T:=by simpa using hb
   subst this
   exact nT) (fun b o _ _ hb q=>k1 b o (fun z=>hb (by simp[z])) q) (fun b o hb q=>⟨_,k1 b o (fun z=>hb (by simp[z])) q⟩)
 rcases k2 with z|⟨T',oT',ts',z,_,q1,q2,q3⟩
 . cases z
 . cases z
   exact k _ I' ⟨na,T,oT',ts',k1 a _ (Ne.symm ne) e,ne,nT,q1,q2,q3⟩
theorem C9p{M:Model}{E:Value ->Shared ->Prop}{Q:Unit ->Shared ->Prop}(B:Body X)(I:Inv X pins σ H s)(F:Flt X pins H s a C t dd)
   (k:∀s',Inv X pins σ H s' ->FltAt X pins H s' a C t dd .none ->Q () s'):wpAny M X.A (leaving X.env (.ref a)) Q E s:=by
 unfold leaving
 exact wpAny_bind (G0y B I F fun s1 I1 F1=>C1k I1 F1 k)
end
noncomputable abbrev EK:=Value ->Option Addr ->St ->Hp ->Prop
noncomputable def G2 (X:Cx) (EH:EK):Prop:=∀(pins:List (Addr×Obj)) (σ:St) (H:Hp) (s:Shared) (a t:Addr) (C:Value) (dd:Option Addr),Inv X pins σ H s ->Flt X pins H s a C t dd ->EH C dd σ H ->X.xe (.ref a) s
noncomputable def CX1 (P:Program) (w:World):CXT:=fun outer H s E e s'=>∃(a t:Addr) (C:Value) (dd:Option Addr) (H':Hp),e= .ref a/\s'.os=s.os/\AllBare s'.gens/\Un (frs outer) [] H H' s.heap s'.heap/\HOk P w H' s'.heap/\E C dd H'/\
 (s.heap.get? a=none/\H' a=none)/\∃T oT ts,s'.heap.get? a=some (Z6 C t dd (.ref T))/\T≠a/\(s.heap.get? T=none/\H' T=none)/\s'.heap.get? T=some oT/\oT.data= .fields ts/\ts[3]?=some .none
theorem A5b{P:Program}{w:World}{K:PySem.W.Frag}{mg:Str ->Option Value}{base:Heap}{N:List Str}{qual:Str}{scope:Scope}{f:Addr}{cd:Value}{A:Around}{outer:List Env}{s:Shared}{H:Hp}{E:XK}:
   G2 (A0b (CX1 P w) P w K mg base N qual scope f cd A outer s H E) (fun C dd _ H'=>E C dd H'):=by
 intro pins σ H' s' a t C dd I F h
 refine C9p (X:=A0b (CX1 P w) P w K mg base N qual scope f cd A outer s H E) ⟨rfl,rfl,rfl⟩ I F fun s2 I2 F2=>?_
 obtain⟨na,T,oT,ts,e,ne,nT,eT,dT,h3⟩:=F2
 exact⟨a,t,C,dd,H',rfl,I2.os,I2.bare,I2.base,I2.hok,h,⟨na.old,na.un⟩,T,oT,ts,e,ne,⟨nT.old,nT.un⟩,eT,dT,h3⟩
section
variable{X:Cx}{k:Nat}{f C:Addr}{fd:FuncData}{ps:List Str}{sp:Sp}{dvs:List V}{ds:List Value}{EH:EK}{x m:Str}{p pos apos:Pos}{e o:Expr}{es:List Expr}{ta:TE}{t:TA}
theorem Y2m{pins:List (Addr×Obj)}{σ:St}{H:Hp}{s:Shared}{e:Value}{s':Shared}(hx:G2 X EH)(hex:X.ex=[])(I:Inv X pins σ H s)
   (h:CX1 X.prog X.w X.stack H s (fun C d H'=>EH C d σ H') e s'):X.xe e s':=by
 obtain⟨a,t,C,dd,H',rfl,os,bare,un,hok,hE,⟨a1,a2⟩,T,oT,ts,z,ne,⟨t1,t2⟩,eT,dT,h3⟩:=h
 have I':Inv X pins σ H' s':=I.call' (ch:=[]) os un hok bare (fun b q=>absurd q (by simp))
 exact hx pins σ H' s' a t C dd I' (FltAt.flt ⟨I.nw hex a1 a2,T,oT,ts,z,ne,I.nw hex t1 t2,eT,dT,h3⟩) hE
theorem B9u{pins:List (Addr×Obj)}{σ:St}{H:Hp}{s:Shared}{Q:VK}{us:List Value}{vs:List V}(F:FnOk X.prog X.w X.K X.mg X.base (CX1 X.prog X.w) k f fd ps sp)(hr:Room k X.A)(hb:Binds X.K fd ps ds)(hd:Vals dvs ds)
   (hx:G2 X EH) (hex:X.ex=[]) (I:Inv X pins σ H s) (r:Vals vs us) (h:sp (vs++dvs) H Q (fun C d H'=>EH C d σ H')):wpAny (model X.prog X.w) X.A (call (.ref f) us) (EP X pins σ Q) X.xe s:=by
 have r2:Vals (vs++dvs) (us++ds):=r.append hd
 have hl:(us++ds).length=ps.length:=by rw[<-r2.length];exact F.len _ _ _ _ h
 refine wpAny_call (codeAny_mono (F.run X.A X.stack s H ⟨us,[]⟩ (us++ds) (vs++dvs) Q _ hr I.env0 (hb s us I.kIn hl) r2 h) fun r s' hq=>?_)
 cases r with
 |error e=>exact Y2m hx hex I hq
 | ok fl=>
   cases fl with
   |ret u=>exact I.after hq
   |next=>exact False.elim hq
   |brk=>exact False.elim hq
   |cont=>exact False.elim hq
noncomputable def D0y (sp:Sp) (dvs:List V) (EH:EK) (t:TA):TE:=fun σ H Q=>t σ H fun vs H1=>sp (vs++dvs) H1 Q (fun C d H'=>EH C d σ H')
theorem U7f(F:FnOk X.prog X.w X.K X.mg X.base (CX1 X.prog X.w) k f fd ps sp)(hr:Room k X.A)(hg:Gl X x)(hm:X.mg x=some (.ref f))(hk:PySem.W.keepIn X.K (.ref f)=true)(hb:Binds X.K fd ps ds)(hd:Vals dvs ds)
   (hx:G2 X EH) (ha:PA X (e::es) t) (hex:X.ex=[]:=by rfl) (hdb:(x==("__debug__":Str))=false:=by decide) (he:starEach (e::es) X.env=(false,eval e X.env)::starEach es X.env:=by rfl)
   (hpl:(backTo pos (starEach es X.env)).any (·.1)=false:=by rfl):PE X (.Call (.Name x p) (e::es) [] pos) (D0y sp dvs EH t):=by
 intro pins s σ H Q I h
 refine wpAny_Call_Name_kw (A1e I hg hm ?_ hdb)
 refine PySem.W.callWith_K (h₀:=X.base) I.ok.mod.kin hk (thn (ha pos pins s σ H _ I h) fun us s1 ⟨vs,H1,I1,r,q⟩=>⟨I1.kIn,?_⟩) he hpl
 exact B9u F hr hb hd hx hex I1 r q
theorem J8x(F:FnOk X.prog X.w X.K X.mg X.base (CX1 X.prog X.w) k f fd ps sp)(hr:Room k X.A)(hg:Gl X x)(hm:X.mg x=some (.ref f))(hk:PySem.W.keepIn X.K (.ref f)=true)(hb:Binds X.K fd ps ds)(hd:Vals dvs ds)
   (hx:G2 X EH) (hex:X.ex=[]:=by rfl) (hdb:(x==("__debug__":Str))=false:=by decide):PE X (.Call (.Name x p) [] [] pos) (D0y sp dvs EH J9z):=by
 intro pins s σ H Q I h
 refine wpAny_Call_Name_kw (A1e I hg hm ?_ hdb)
 exact PySem.W.callWith_K0 I.kIn hk (B9u (us:=[]) F hr hb hd hx hex I .nil h)
end
section
variable{P:Program}{w:World}{K:PySem.W.Frag}{mg:Str ->Option Value}{base:Heap}
theorem Fun.okE{x qual:Str}{st:Stmt}{f:Addr}{fd:FuncData}{N ps:List Str}{k:Nat}{sp:Sp}(F:Fun K x qual st f fd)(S:FnScope N ps (A1 st))(len:∀vs H Q E,sp vs H Q E ->vs.length=ps.length)
   (hbody:∀(X:Cx) (cdv:Value) (A:Around) (outer:List Env) (s:Shared) (H:Hp) (vs:List V) (Q:VK) (E:XK),X=A0b (CX1 P w) P w K mg base N qual (A1 st) f cdv A outer s H E ->Room k X.A ->G2 X (fun C dd _ H'=>E C dd H') ->sp vs H Q E ->
     ∃t,PSs (A0b (CX1 P w) P w K mg base N qual (A1 st) f cdv A outer s H E) (B8 st) t/\t {nx:=fun _ H'=>Q .non H',rt:=Q} (A2t N vs) H):FnOk P w K mg base (CX1 P w) (k+1) f fd ps sp:=by
 obtain⟨oc,od,kV,doc,pm,an,cdv,ct,osl,rfl,lk,hc⟩:=F.ex
 exact U4k lk hc S len fun A outer s H vs Q E hr h=>hbody _ cdv A outer s H vs Q E rfl hr A5b h
theorem FnOk.up{k:Nat}{f:Addr}{fd:FuncData}{ps:List Str}{sp:Sp}(F:FnOk P w K mg base CX0 k f fd ps sp):FnOk P w K mg base (CX1 P w) k f fd ps sp:=by
 refine⟨F.len,fun A outer s H args us vs Q E hr e0 hb r h=>codeAny_mono (F.run A outer s H args us vs Q E hr e0 hb r h) fun r s' q=>?_⟩
 cases r with
 |error e=>exact False.elim q
 |ok fl=>cases fl<;>exact q
end
end L2
namespace L2
open PySem PySem.Spec PyProof.Rows PySem.W
theorem Y2j{K:Frag}{h:Heap}{C:Addr}{bmB:List Value}{newId:String}(X:K.In h)(q:excIn K C bmB newId=true):
   ∃ (bm:List Value) (N:Addr) (nm qn:Str) (bs:List Value) (hd:Bool) (sn:List Str) (sub:List Value) (ab:Bool) (col:Option Bool) (dd:Option Addr) (k0 k1 k2 k3 k5:Option Value) (mN:Str ->Option Value),
     h.get? C=some (excClassObj nm qn C N bs bm hd sn sub ab col dd k0 k1 k2 k3 k5 newId)/\h.Ns N mN/\mN "__init__"=none/\OwnTail h bmB bm:=by
 unfold excIn at q
 split at q
 . rename_i dd cd sl ho
   split at q
   . rename_i C' bm k0 k1 k2 k3 n k5 hm hs
     simp only[Bool.and_eq_true,beq_iff_eq,Bool.not_eq_true'] at q
     obtain⟨⟨⟨⟨⟨r1,r2⟩,r3⟩,r4⟩,r5⟩,r6⟩:=q
     subst r1 r2
     obtain⟨a1,a2,a3,a4,a5,a6,a7,a8,a9,a10,a11⟩:=cd
     dsimp only at hm r3 r5 r6
     subst hm r3
     have hsl:sl= #[k0,k1,k2,k3,some (.builtin n),k5]:=by
       obtain⟨l⟩:=sl
       simp only at hs
       rw[hs]
     subst hsl
     exact⟨bm,a4,a1,a5,a2,a6,a7,a8,a9,a10,dd,k0,k1,k2,k3,k5,_,X _ _ ho,.of_isNs (isNs_of_in X r5),nsMap_none_of_in X r5 r6,tail_of_in X r4⟩
   . cases q
 . cases q
section
variable{X:Cx}{x:Str}{p cpos pos:Pos}{e:Expr}{es:List Expr}{t:TA}{C:Addr}{bmB:List Value}{B newId initId:String}{EH:EK}
noncomputable def Y9r (C:Addr) (EH:EK) (t:TA):TS:=fun _ σ H=>t σ H fun vs H1=>vs.length<=sizeLine/\EH (.ref C) none σ H1
theorem A2q(hg:Gl X x)(hm:X.mg x=some (.ref C))(q:excIn X.K C bmB newId=true)(FB:ExcBaseFacts B newId initId bmB)(hh:X.A.handled=none)(hx:G2 X EH)(ha:PA X (e::es) t)(hex:X.ex=[]:=by rfl)
   (hdb:(x==("__debug__":Str))=false:=by decide) (he:starEach (e::es) X.env=(false,eval e X.env)::starEach es X.env:=by rfl) (hpl:(backTo cpos (starEach es X.env)).any (·.1)=false:=by rfl):
   PS X (.Raise (some (.Call (.Name x p) (e::es) [] cpos)) none pos) (Y9r C EH t):=by
 intro pins s σ H D I h
 obtain⟨bm,N,nm,qn,bs,hd,sn,sub,ab,col,dd,k0,k1,k2,k3,k5,mN,hC,hN,hni,T⟩:=Y2j I.ok.mod.kin q
 refine wpAny_Raise_call_subT (C:=C) (nm:=nm) (q:=qn) (N:=N) (bs:=bs) (bm:=bm) (hdct:=hd) (sn:=sn) (sub:=sub) (ab:=ab) (col:=col) (dd:=dd) (k0:=k0) (k1:=k1) (k2:=k2) (k3:=k3) (k5:=k5) FB (mN:=mN) (T.hasType FB.hasBase) hh
   (by rw[he];show(false||(backTo cpos (starEach es X.env)).any (·.1))=false;rw[hpl];rfl) hni (A1e I hg hm ⟨rfl,?_⟩ hdb)
 have ha':=ha cpos pins s σ H _ I h
 rw[he] at ha' ⊢
 refine Calls.evalArgs_plain (wpAny_mono ha' (fun us s2 ⟨vs,H1,I1,r,z,q⟩=>⟨rfl,by rw[<-r.length];exact z,I1.bk _ _ hC,hN.keeps I1.bk,T.keeps I1.bk,fun h' a m=>?_⟩) fun _ _ y=>y)
 have I2:Inv X pins σ H1 {s2 with heap:=h'}:=I1.kept (t':=s2.toks) m.keeps
 obtain⟨t',e1,tn,e2⟩:=m.there
 exact hx pins σ H1 _ a t' (.ref C) none I2 ⟨I1.nw hex m.new (I1.hok.new m.new),.none,e1,.inl rfl,fun T z=>nomatch z⟩ q
end
section
variable{X:Cx}{pins:List (Addr×Obj)}{σ:St}{H:Hp}{s:Shared}
theorem Inv.track{a:Addr}{o:Obj}(I:Inv X pins σ H s)(n:Nw X pins H a)(e:s.heap.get? a=some o):Inv X pins σ (upd H a (.frz o (.own a))) s:=by
 have ne:∀b u,H b=some u ->b≠a:=fun b u z q=>by rw[q,n.un] at z;cases z
 have up:∀b,b≠a ->upd H a (.frz o (.own a)) b=H b:=fun b hb=>C6 hb
 refine⟨I.ok,I.os,I.bare,⟨I.base.keep,I.base.slot,fun b u z m hx=>?_,I.base.there,fun b xs z=>?_,fun b u v z=>?_,fun b ps z=>?_⟩,I.loc,I.cell,?_,fun x c z=>?_,fun p hp=>?_,fun b u z=>?_,I.len⟩
 . rw[up b fun q=>by rw[q,n.old] at z;cases z]
   exact I.base.free b u z m hx
 . have:=I.base.tups b xs z
   rw[up b (ne b _ this)];exact this
 . have:=I.base.frzs b u v z
   rw[up b (ne b _ this)];exact this
 . obtain⟨more,this⟩:=I.base.tbls b ps z
   exact⟨more,by rw[up b (ne b _ this)];exact this⟩
 . rw[up _ (Ne.symm n.loc)];exact I.free
 . rw[up _ (n.cell x c z)];exact I.freeC x c z
 . obtain⟨q1,q2,q3⟩:=I.pin p hp
   exact⟨q1,by rw[up _ (n.pin p hp)];exact q2,q3⟩
 . by_cases hb:b=a
   . subst hb
     rw[A6] at z
     cases z
     exact⟨e,_,e⟩
   . rw[up b hb] at z
     exact(I.hok b u z).stay (fun _ _ _ q=>q) (fun c q=>by rw[up c (ne c _ q)];exact q) (fun c xs q=>by rw[up c (ne c _ q)];exact q)
theorem J7z{M:Model}{A:Around}{E:Value ->Shared ->Prop}{i:Nat}{x:Str}{v:V}{Q:Unit ->Shared ->Prop}(I:Inv X pins σ H s)(hN:X.N.Nodup)(hi:X.N[i]?=some x)(hk:X.env.scope.names.lookup x=some .local)(hv:σ[i]?=some (some v))
   (k:∀s',Inv X pins (σ.set i none) H s' ->Q () s'):wpAny M A (unbindName X.env x) Q E s:=by
 obtain⟨m,hn,hl⟩:=id I.loc
 have hcls:(X.env.scope.kind== .class||(X.env.scope.kind== .module&&X.env.locals !=X.env.globals))=false:=by rw[I.ok.kind];rfl
 obtain⟨u,_,lk⟩:=hl i x v hi hv (.inl hk)
 have hm:m x=some u:=by
   rcases lk with⟨_,z⟩|⟨z,_⟩
   . exact z
   . have z:X.env.scope.names.lookup x=some .cell\/X.env.scope.names.lookup x=some .free:=z
     rw[hk] at z
     rcases z with z|z<;>cases z
 refine wpAny_unbindName_local hk hn hm hcls fun h' w' hn' hs=>k _ ?_
 obtain⟨oL,_,_,hoL,_⟩:=id hn
 have nl:∀b o,X.s₀.heap.get? b=some o ->b≠X.env.locals:=fun b o e=>Nat.ne_of_lt (Nat.lt_of_lt_of_le (Heap.lt_size e) I.ok.above)
 refine⟨I.ok,I.os,I.bare,⟨fun b o e n hb hx=>?_,fun b o e n hb hx=>?_,I.base.free,fun b o e hx=>?_,I.base.tups,I.base.frzs,I.base.tbls⟩,⟨_,hn',fun j y v' e1 e2 e3=>?_⟩,fun y c e=>?_,I.free,I.freeC,fun p hp=>?_,fun b u z=>?_,by simpa using I.len⟩
 . exact(hs.2 b (nl b o e)).trans (I.base.keep b o e n hb hx)
 . obtain⟨sl,e1⟩:=I.base.slot b o e n hb hx
   exact⟨sl,(hs.2 b (nl b o e)).trans e1⟩
 . obtain⟨o',e1⟩:=I.base.there b o e hx
   exact⟨o',(hs.2 b (nl b o e)).trans e1⟩
 . by_cases hj:j=i
   . subst hj
     have hlen:j<σ.length:=(List.getElem?_eq_some_iff.mp hv).1
     rw[List.getElem?_set_self hlen] at e2
     cases e2
   . rw[List.getElem?_set_ne (Ne.symm hj)] at e2
     obtain⟨u',r',q⟩:=hl j y v' e1 e2 e3
     refine⟨u',r',?_⟩
     rcases q with⟨k1,e⟩|⟨k1,c,e,z⟩
     . have:y≠x:=fun e=>hj (C0j hN e1 (e▸hi))
       exact .inl ⟨k1,by simp[this,e]⟩
     . exact .inr ⟨k1,c,e,z.sameBut hs (I.cne y c e)⟩
 . obtain⟨w2,z⟩:=I.cell y c e
   exact⟨w2,z.sameBut hs (I.cne y c e)⟩
 . obtain⟨e,n,ne,nf,d⟩:=I.pin p hp
   exact⟨(hs.2 p.1 ne).trans e,n,ne,nf,d⟩
 . refine(I.hok b u z).stay (fun c w2 hc q=>(hs.2 c ?_).trans q) (fun _ q=>q) fun _ _ q=>q
   rintro rfl
   rcases hc with rfl|hc
   . rw[I.free] at z;cases z
   . rw[I.free] at hc;cases hc
end
noncomputable abbrev Cx.hold (X:Cx) (pins:List (Addr×Obj)) (E:Value ->Shared ->Prop):Cx:={X with pn:=X.pn++pins,xe:=E}
noncomputable abbrev Cx.hnd (X:Cx) (pins:List (Addr×Obj)) (a:Addr):Cx:={X with A:=X.A.mark (some (.ref a)),calm:=false,pn:=X.pn++pins,xe:=fun _ _=>False}
section
variable{X:Cx}{pins pins':List (Addr×Obj)}{σ:St}{H:Hp}{s:Shared}{a:Addr}{E:Value ->Shared ->Prop}
theorem Inv.hold(I:Inv X pins σ H s):Inv (X.hold pins E) [] σ H s:=
 ⟨⟨I.ok.mod,I.ok.kind,I.ok.glob,I.ok.blt,I.ok.above,I.ok.inj,I.ok.has,I.ok.cab,I.ok.hd,I.ok.frames,I.ok.stk,I.ok.exf,I.ok.bs,I.ok.bsz,I.ok.noex,I.ok.exfs,I.ok.funs,I.ok.frf⟩,
   I.os,I.bare,I.base,I.loc,I.cell,I.free,I.freeC,fun p hp=>I.pin p (by simpa using hp),I.hok,I.len⟩
theorem Inv.unhold(I:Inv (X.hold pins E) pins' σ H s):Inv X pins σ H s:=
 ⟨⟨I.ok.mod,I.ok.kind,I.ok.glob,I.ok.blt,I.ok.above,I.ok.inj,I.ok.has,I.ok.cab,I.ok.hd,I.ok.frames,I.ok.stk,I.ok.exf,I.ok.bs,I.ok.bsz,I.ok.noex,I.ok.exfs,I.ok.funs,I.ok.frf⟩,
   I.os,I.bare,I.base,I.loc,I.cell,I.free,I.freeC,fun p hp=>I.pin p (List.mem_append_left _ hp),I.hok,I.len⟩
theorem Inv.hnd(I:Inv X pins σ H s):Inv (X.hnd pins a) [] σ H s:=
 ⟨⟨I.ok.mod,I.ok.kind,I.ok.glob,I.ok.blt,I.ok.above,I.ok.inj,I.ok.has,I.ok.cab,(fun z=>nomatch z),I.ok.frames,I.ok.stk,I.ok.exf,I.ok.bs,I.ok.bsz,I.ok.noex,I.ok.exfs,I.ok.funs,I.ok.frf⟩,
   I.os,I.bare,I.base,I.loc,I.cell,I.free,I.freeC,fun p hp=>I.pin p (by simpa using hp),I.hok,I.len⟩
theorem Inv.unhnd(ok:X.Ok)(I:Inv (X.hnd pins a) pins' σ H s):Inv X pins σ H s:=
 ⟨ok,I.os,I.bare,I.base,I.loc,I.cell,I.free,I.freeC,fun p hp=>I.pin p (List.mem_append_left _ hp),I.hok,I.len⟩
theorem Nw.unhold{b:Addr}(n:Nw (X.hold pins E) pins' H b):Nw X pins H b:=⟨n.un,n.loc,n.fs,n.old,n.cell,fun p hp=>n.pin p (List.mem_append_left _ hp)⟩
theorem Flt.unhold{t:Addr}{C:Value}{dd:Option Addr}(F:Flt (X.hold pins E) pins' H s a C t dd):Flt X pins H s a C t dd:=by
 obtain⟨n,tb,e,ok,m⟩:=F
 exact⟨n.unhold,tb,e,ok,fun T z=>(m T z).unhold⟩
theorem SP.unhold{D:Ends}{f:Flow}{s':Shared}(h:SP (X.hold pins E) pins' D f s'):SP X pins D f s':=by
 cases f with
 |next=>obtain⟨σ',H',I,q⟩:=h;exact⟨σ',H',I.unhold,q⟩
 |brk=>obtain⟨σ',H',I,q⟩:=h;exact⟨σ',H',I.unhold,q⟩
 |cont=>obtain⟨σ',H',I,q⟩:=h;exact⟨σ',H',I.unhold,q⟩
 |ret u=>obtain⟨v,σ',H',I,r,q⟩:=h;exact⟨v,σ',H',I.unhold,r,q⟩
end
structure Clause(K:Frag)(R:Addr):Prop where
 ty:typeIn K (.ref R)=some (.type "type")
 cl:(clsIn K R).isSome=true
 ex:subIn K (.ref R) (.type "BaseException")=some true
theorem A4y{K:Frag}{M:Model}{h:Heap}{R:Addr}(X:K.In h)(c:(clsIn K R).isSome=true):Looks M h (isType (.ref R)) true:=by
 unfold clsIn at c
 split at c
 . rename_i ho
   intro A' Q' E' s' k q
   unfold isType loadHead
   exact wpAny_bind (wpAny_loadPart (k _ _ (X _ _ ho)) (wpAny_pure q))
 . cases c
theorem J9v{K:Frag}{M:Model}{A:Around}{E:Value ->Shared ->Prop}{s:Shared}{a R:Addr}{C:Value}{oa:Obj}{b:Bool}{Q:Bool ->Shared ->Prop}(X:K.In s.heap)(ha:s.heap.get? a=some oa)(hc:oa.cls=C)(c:Clause K R)
   (m:subIn K C (.ref R)=some b) (h:Q b s):wpAny M A (excMatches (.ref a) (.ref R)) Q E s:=by
 obtain⟨hp,g,d,tk,os⟩:=s
 have L1:Looks M hp (typeOf (.ref R)) (.type "type"):=looks_typeIn X c.ty
 have L2:Looks M hp (isSubtype (.ref R) (.type "BaseException")) true:=looks_subIn X c.ex
 have L3:Looks M hp (isSubtype C (.ref R)) b:=looks_subIn X m
 have L4:Looks M hp (typeOf (.ref a)) C:=hc▸(Looks.ld ha).andThen .now
 have L5:Looks M hp (isType (.ref R)) true:=A4y X c.cl
 unfold excMatches
 unfold isInstance
 refine wpAny_bind (wpAny_bind (L1.at ?_))
 rw[tc_notTuple]
 refine wpAny_pure ?_
 simp only[Bool.false_eq_true,if_false]
 refine wpAny_bind (wpAny_pure ?_)
 simp only[List.forIn_cons,List.forIn_nil]
 unfold isExcClass
 refine wpAny_bind (wpAny_bind (wpAny_bind (wpAny_bind (L5.at ?_))))
 simp only[if_true]
 refine L2.at ?_
 simp only[Bool.not_true,Bool.false_eq_true,if_false]
 refine wpAny_pure (wpAny_pure ?_)
 refine wpAny_bind (L4.at ?_)
 refine wpAny_bind (wpAny_bind (wpAny_bind (L3.at ?_)))
 cases b with
 |true=>simp only[if_true];exact wpAny_pure (wpAny_pure (wpAny_pure h))
 |false=>simp only[Bool.false_eq_true,if_false];exact wpAny_pure (wpAny_pure (wpAny_pure h))
noncomputable def Z8h (K:Frag) (R:Addr) (i:Nat) (tb:EK ->TS) (ts:Addr ->TS):TS:=fun D σ H=>
 tb (fun C dd σ' H'=>subIn K C (.ref R)=some true/\∀(a t T:Addr),H' a=none ->
   ts a {nx:=fun σ2 H2=>D.nx (σ2.set i none) H2,rt:=D.rt,bk:=fun σ2 H2=>D.bk (σ2.set i none) H2,ct:=fun σ2 H2=>D.ct (σ2.set i none) H2}
     (σ'.set i (some (.ref a))) (upd H' a (.frz (Z6 C t dd (.ref T)) (.own a)))) D σ H
section
variable{X:Cx}{x n:Str}{np hpos pos:Pos}{R:Addr}{i:Nat}{body suite:List Stmt}{b₀:Stmt}{tb:EK ->TS}{ts:Addr ->TS}
theorem Y8x(B:Body X)(hg:Gl X x)(hm:X.mg x=some (.ref R))(c:Clause X.K R)(hN:X.N.Nodup)(hi:X.N[i]?=some n)(hk:X.env.scope.names.lookup n=some .local)
   (hb:∀pins Ew EHb,G2 (X.hold pins Ew) EHb ->PSs (X.hold pins Ew) body (tb EHb)) (hs:∀pins a,PSs (X.hnd pins a) (b₀::suite) (ts a))
   (hdb:(x==("__debug__":Str))=false:=by decide) (hf:X.fn n=true\/X.env.scope.names.lookup n=some .local:=by first|exact .inl rfl|exact .inr rfl|assumption):
   PS X (.Try body [.ExceptHandler (some (.Name x np)) (some n) (b₀::suite) hpos] [] [] pos) (Z8h X.K R i tb ts):=by
 intro pins s σ H D I h
 refine wpAny_Try_except ?_
 refine wpAny_mono (hb pins _ _ ?cat [] s σ H D I.hold h) (fun f s1 hf1=>?_) (fun e s1 he=>he)
 case cat=>
   intro pins' σ' H' s' a t C dd I' F' hE
   obtain⟨hsub,hE⟩:=hE
   show wpAny (model X.prog X.w) X.A (noteFrame (.ref a) X.env) _ X.xe s'
   have J:=I'.unhold
   have F:=F'.unhold
   refine G0y B J F fun s2 J2 F2=>C1k J2 F2 fun s3 J3 F3=>?_
   obtain⟨na,T,oT,ts',e3,ne3,nT3,eT3,dT3,h33⟩:=id F3
   refine wpAny_handleBy_cons (codeAny_handlers_test ?_) (by intro z;cases z)
   have K3:Inv (X.hnd pins a) [] σ' H' s3:=J3.hnd
   refine A1e K3 hg hm ?_ hdb
   refine J9v J3.kIn e3 rfl c hsub ?_
   show codeAny _ _ _ _ _
   refine codeAny_handlers_suite_as ?_
   refine C1k J3 F3 fun s4 J4 F4=>?_
   obtain⟨na4,T4,oT4,ts4,e4,_⟩:=id F4
   have J5:=J4.track na4 e4
   refine A7v (v:= .ref a) J5 hN hi (.inl hk) rfl (fun s5 J6=>?_) hf
   refine wpAny_mono (hs pins a [] s5 _ _ _ J6.hnd (hE a t T4 na4.un)) (fun f s6 hf6=>?_) (fun _ _ z=>z.elim)
   have fin:∀{σ6:St} {H6:Hp} {Q6:Unit ->Shared ->Prop},Inv (X.hnd pins a) [] σ6 H6 s6 ->(∀s7,Inv X pins (σ6.set i none) H6 s7 ->Q6 () s7) ->
       wpAny (model X.prog X.w) X.A (do bindName X.env n .none;unbindBehindTheSuite X.env n hpos) Q6 X.xe s6:=by
     intro σ6 H6 Q6 K6 k6
     have L6:=K6.unhnd J6.ok
     refine wpAny_bind (wpAny_bindName (A7v (v:= .non) L6 hN hi (.inl hk) rfl (fun s7 J7=>?_) hf))
     unfold unbindBehindTheSuite
     have hlen:i<σ6.length:=by rw[L6.len];exact(List.getElem?_eq_some_iff.mp hi).1
     refine wpAny_onRaise (J7z J7 hN hi hk (List.getElem?_set_self hlen) fun s8 J8=>k6 s8 ?_)
     rw[List.set_set] at J8
     exact J8
   cases f with
   |next=>obtain⟨σ6,H6,K6,q⟩:=hf6;exact fin K6 fun s7 J7=>⟨_,_,J7,q⟩
   |brk=>obtain⟨σ6,H6,K6,q⟩:=hf6;exact fin K6 fun s7 J7=>⟨_,_,J7,q⟩
   |cont=>obtain⟨σ6,H6,K6,q⟩:=hf6;exact fin K6 fun s7 J7=>⟨_,_,J7,q⟩
   |ret u=>obtain⟨v,σ6,H6,K6,r,q⟩:=hf6;exact fin K6 fun s7 J7=>⟨v,_,_,J7,r,q⟩
 . cases f with
   |next=>exact wpAny_execs_nil (SP.unhold hf1)
   |brk=>exact SP.unhold hf1
   |cont=>exact SP.unhold hf1
   |ret u=>exact SP.unhold hf1
end
structure ExcK(K:Frag)(C:Addr):Prop where
 ga:findIn K (.ref C) "__getattribute__"=some (some (.builtin "BaseException.__getattribute__"))
 gh:findIn K (.ref C) "__getattr__"=some none
 ca:findIn K (.ref C) "__class__"=some (some (.builtin "object.__class__"))
 sn:specialIn K (.builtin "object.__class__") "__get__"=some (some (.builtin "getset_descriptor.__get__"))
 tk:takesIn K (.builtin "object.__class__")=some true
 ob:mroIn K C (.type "object")=some true
 be:subIn K (.ref C) (.type "BaseException")=some true
 cl:(clsIn K C).isSome=true
theorem A8b{prog:Program}{w:World}{A:Around}{E:Value ->Shared ->Prop}{s:Shared}{K:Frag}{a C:Addr}{oa:Obj}{od:Option Obj}{Q:Option Value ->Shared ->Prop}(F:ExcK K C)(X:K.In s.heap)(I:PySem.W.InstAt s.heap a oa C od)
   (h:Q (some (.ref C)) {s with toks:=s.toks+1}):wpAny (model prog w) A (getAttr? (.ref a) "__class__") Q E s:=by
 obtain⟨hp,g,d,t,os⟩:=s
 have L0:=I.type (M:=model prog w)
 have L1:=looks_findIn (M:=model prog w) X F.ga
 have L2:=looks_findIn (M:=model prog w) X F.gh
 have L3:Looks (model prog w) hp (isInstance (.ref a) (.type "BaseException")) true:=L0.andThen (looks_subIn X F.be)
 have hf:findObj K C od "__class__"=some (.bind (.builtin "getset_descriptor.__get__") (.builtin "object.__class__")):=by
   obtain⟨cd,hc⟩:=Option.isSome_iff_exists.mp F.cl
   unfold findObj
   rw[hc,Option.bind_some,F.ca,Option.bind_some]
   simp[F.sn,F.tk]
 have L4:=looks_find (M:=model prog w) X I hf
 have hk:builtinKind "BaseException.__getattribute__"=some .slot:=by decide+kernel
 have hsplit:splitId "BaseException.__getattribute__"=some ("BaseException","__getattribute__"):=by decide+kernel
 have hargs:=PySem.F.args_bexc_ga (.ref a) (.str "__class__" t)
 have hb:=PySem.F.attr_ValueError.ga.bind (.ref a)
 unfold getAttr? getAttrBy? getAttrBy
 refine wpAny_bind (wpAny_mkText (wpAny_bind (wpAny_attempt (wpAny_holding (wpAny_bind (L0.at (wpAny_bind (L1.at ?_))))))))
 dsimp only
 rw[if_neg (show¬((onTheHeap (Value.ref C)&&Value.builtin "BaseException.__getattribute__"==Value.builtin "object.__getattribute__")=true) by
   rw[show(Value.builtin "BaseException.__getattribute__"==Value.builtin "object.__getattribute__")=false by decide+kernel,Bool.and_false];exact Bool.false_ne_true)]
 unfold getAttrByItsOwn
 refine wpAny_bind (m:=hookBefore (.ref C)) (L2.at ?_)
 refine wpAny_bind (wpAny_attempt (wpAny_holding ?_))
 unfold callGetattribute
 rw[if_neg (by decide)]
 unfold boundAndCalled
 rw[hb]
 refine wpAny_bind (wpAny_pure ?_)
 refine wpAny_call (codeAny_call_builtin PySem.F.attr_ValueError.ga.plain PySem.F.entry_bexc_ga ?_)
 have chk:∀{A':Around} {Q':Unit ->Shared ->Prop} {E':Value ->Shared ->Prop},Q' () ⟨hp,g,d,t+1,os⟩ ->wpAny (model prog w) A' (checkBuiltinCall "BaseException.__getattribute__" ⟨[.ref a,.str "__class__" t],[]⟩) Q' E' ⟨hp,g,d,t+1,os⟩:=by
   intro A' Q' E' hq
   simp only[checkBuiltinCall,hk,hsplit]
   refine wpAny_bind ?_
   refine L3.at ?_
   repeat (first|assumption|wp_step)
 refine chk ?_
 show wpAny _ _ (Builtin.«object.__getattribute__» ⟨[.ref a, .str "__class__" t], []⟩) _ _ _
 unfold Builtin.«object.__getattribute__»
 refine wpAny_bind (wpAny_pure ?_)
 refine wpAny_bind (wpAny_pure ?_)
 refine wpAny_bind (L0.at (wpAny_bind (L4.at ?_)))
 dsimp only
 show wpAny _ _ (holding [Value.builtin "object.__class__"] (call (.builtin "getset_descriptor.__get__") [.builtin "object.__class__",.ref a,.ref C])>>=ret) _ _ _
 refine wpAny_bind (wpAny_holding (wpAny_call (class_get (s:=⟨hp,g,d,t+1,os⟩) X I F.ob (wpAny_pure ?_))))
 exact handed_on rfl (wpAny_pure h)
noncomputable def A2p (X:Cx):Prop:=X.A.handled=none\/∃x o u vs,X.A.handled=some (.ref x)/\X.H₀ x=some (.frz o u)/\o.data= .fields vs/\vs[2]?=some .none
section
variable{X:Cx}{pins:List (Addr×Obj)}{σ:St}{H:Hp}{s:Shared}
theorem Inv.hdA(I:Inv X pins σ H s)(h:A2p X):Hd X.A s.heap:=by
 rcases h with z|⟨x,o,u,vs,z,e,d,n⟩
 . exact .inl z
 . exact .inr ⟨x,o,vs,z,(I.hok x _ (I.base.frzs x o u e)).1,d,n⟩
end
section
variable{X:Cx}{tg:Expr}
theorem Y3b{es:List Expr}{k:Nat}{t:TGs}{n:Nat}{pos:Pos}(hc:A2p X)(h:PGs X es t)(hn:(assignEach es X.env).length=n:=by rfl)(hst:(assignEach es X.env).findIdx? (·.1)=none:=by rfl):PG X (.Tuple es k pos) (Y7t X.K n t):=by
 intro pins s σ H v u Q I r q
 obtain⟨a,xs,ev,hq,hl,q⟩:=q
 subst ev
 cases r
 obtain⟨its,rv,p,hz⟩:=I.tuple hq
 rw[assign_Tuple]
 refine wpAny_bind (wpAny_standAt (U0b (I.hdA hc) p (by rw[hn, <-hl,rv.length];simp) hst fun h' hx=>?_))
 have I1:Inv X pins σ H {s with heap:=h'}:=I.kept (t':=s.toks) fun b o e=>hx b o (Nat.ne_of_lt (Heap.lt_size e)) e
 exact thn (h pins _ σ H xs its Q I1 rv q) fun _ s' z=>z
theorem Y0x{K:Frag}{es:List Expr}{k:Nat}{t:TGs}{n:Nat}{pos:Pos}(hK:X.K=K)(hc:A2p X)(h:PGs X es t)(hn:(assignEach es X.env).length=n:=by rfl)(hst:(assignEach es X.env).findIdx? (·.1)=none:=by rfl):PG X (.Tuple es k pos) (Y7t K n t):=by
 subst hK
 exact Y3b hc h hn hst
end
theorem U8f{prog:Program}{w:World}{A:Around}{s:Shared}{elt target iter:Expr}{scope:Scope}{pos:Pos}{it acc:Value}{env:Env}{R:Result ->Shared ->Prop}(I:Nat ->Shared ->Prop)
   (turn :∀n s,I n s ->wpAny (model prog w) A (pyNext it) (fun r s₁=>match r with
     |none=>R (.ok .next) s₁
     |some v=>wpAny (model prog w) A (letOwnedTupleGo target it v) (fun _ s₀=>wpAny (model prog w) A (assign target env v) (fun _ s₂=>wpAny (model prog w) A (eval elt env) (fun x s₄=>
         wpAny (model prog w) A (call (.builtin "list.append") [acc,x]) (fun _ s₅=>∃m,m<n/\I m s₅) (notedBy (model prog w) A env fun e s'=>R (.error e) s') s₄) (notedBy (model prog w) A env fun e s'=>R (.error e) s') s₂)
         (notedBy (model prog w) A env fun e s'=>R (.error e) s') s₀) (notedBy (model prog w) A env fun e s'=>R (.error e) s') s₁) (notedBy (model prog w) A env fun e s'=>R (.error e) s') s)
   (n:Nat) (h:I n s):codeAny (model prog w) A (.compLoop (.ListComp elt [⟨target,iter,[],0⟩] scope pos) 0 it acc env) R s:=by
 refine codeAny_loop rfl I (fun n s hI=>?_) n h
 show wpAny _ A ((compTurn (.ListComp elt [⟨target,iter,[],0⟩] scope pos) 0 it acc env).onRaise (fun x=>do noteFrame x env;theTreesLotGoes x)) _ _ s
 refine wpAny_noted ?_;rw[compTurn_list1]
 refine wpAny_bind (wpAny_standAt (wpAny_bind (wpAny_mono (turn n s hI) (fun r s₁ h₁=>?_) fun _ _ z=>z)))
 cases r with
 |none=>exact wpAny_pure h₁
 | some v=>
   refine wpAny_bind (wpAny_mono h₁ (fun _ s₀ q₀=>?_) fun _ _ z=>z)
   refine wpAny_bind (wpAny_mono q₀ (fun _ s₂ q₂=>?_) fun _ _ z=>z)
   exact wpAny_bind (wpAny_bind (wpAny_mono q₂ (fun x s₄ q₄=>wpAny_bind (wpAny_mono q₄ (fun _ s₅ q₅=>wpAny_pure (wpAny_pure ⟨rfl,q₅⟩)) fun _ _ z=>z)) fun _ _ z=>z))
section
variable{X:Cx}
theorem U4m{pins:List (Addr×Obj)}{σ:St}{H:Hp}{s:Shared}{C:Addr}{h':Heap}(I:Inv X pins σ H s)(f:A8g X pins H C)(sb:Heap.SameBut C s.heap h'):Inv X pins σ H {s with heap:=h'}:=
 I.turned (t':=s.toks) (fun b o hb e=>(sb.2 b hb).trans e) f.1 f.2.1 f.2.2.2.1 f.2.2.2.2.1 f.2.2.2.2.2
end
section
variable{X:Cx}{a b c:Expr}{ta tb tc:TE}{pos:Pos}
theorem G7:OpR X (binaryOp .Mult) (rI IntMulOk fun i j=> .int (i*j)):=opI fun _ _ _ _ _ _ _ hc q=>mul_int q hc
theorem D9:OpR X (binaryOp .FloorDiv) (rI (fun _ j=>0<j/\j.natAbs.log2<9000) fun i j=> .int (i/j)):=opI fun i j _ _ _ _ _ hc q=>by
 have h1:(0:Int)<j:=hc.1
 exact floordiv_int (by omega) (by rw[Int.fdiv_eq_ediv_of_nonneg i (by omega)];exact q) (.inl (PyProof.noPylong_of_log2 hc.2))
theorem A3b{i:Int}{k:Nat}(h:i.natAbs<2^k)(hk:0<k):i.natAbs.log2<k:=by
 by_cases z:i.natAbs=0
 . rw[z];simpa using hk
 . exact(Nat.log2_lt z).mpr h
inductive TyE(K:Frag)(H:Hp):V ->Value ->Prop where
 |of {x:V} {t:Value} (h:TyOf K H x t):TyE K H x t
 |exc {a C t:Addr} {T:Value} {u:HO} (e:H a=some (.frz (Z6 (.ref C) t none T) u)) (k:ExcK K C):TyE K H (.ref a) (.ref C)
 |excD {a C t:Addr} {T:Value} {d:Addr} {u:HO} {fs:List (Str×V)} (e:H a=some (.frz (Z6 (.ref C) t (some d) T) u)) (hd:H d=some (.xd fs)) (k:ExcK K C):TyE K H (.ref a) (.ref C)
 |tupK {a:Addr} {o:Obj} (l:K.lookup a=some o) (c:o.cls= .type "tuple"):TyE K H (.ref a) (.type "tuple")
theorem G6h{pins:List (Addr×Obj)}{σ:St}{H:Hp}{s:Shared}{A:Around}{E:Value ->Shared ->Prop}{Q:Value ->Shared ->Prop}{c:Value}{b:Bool}{x:V}{u t:Value}(I:Inv X pins σ H s)(rx:RelV x u)(ty:TyE X.K H x t)
   (e:kitOne X.K t c=some b) (h:∀tk,Q (.bool b) {s with toks:=tk}):wpAny (model X.prog X.w) A (call (.builtin "isinstance") [u,c]) Q E s:=by
 cases ty with
 |of h'=>exact J9b I rx h' e h
 | exc ea k=>
   cases rx
   rename_i a C t0 T u0
   have o1:s.heap.get? a=some (Z6 (.ref C) t0 none T):=(I.hok a _ ea).1
   refine kia_one (H:=fun h=>PySem.W.InstAt h a (Z6 (.ref C) t0 none T) C none) ?_ I.kIn ⟨o1,rfl,rfl,trivial⟩ e (fun z=>nomatch z) h
   refine⟨fun M h _ J=>J.type,fun M h K _=>A4y K k.cl,fun h tp dd its n sl K htp=>?_,fun K J q=>A8b k K J q⟩
   refine Bool.eq_false_iff.mpr fun q=>?_
   have e:C=tp:=Value.ref.inj (beq_iff_eq.mp q)
   subst e
   have z:=k.cl
   unfold clsIn at z
   split at z
   . rename_i ho
     have y:=(K _ _ ho).symm.trans htp
     cases y
   . cases z
 | tupK l c=>
   cases rx
   exact PySem.W.kia_one PySem.W.kitx_tuple I.kIn ⟨_,I.kIn _ _ l,c⟩ e (fun z=>nomatch z) h
 | excD ea hd k=>
   cases rx
   rename_i a C t0 T d u0 fs
   have o1:s.heap.get? a=some (Z6 (.ref C) t0 (some d) T):=(I.hok a _ ea).1
   obtain⟨mA,nA,_⟩:=(show∃mA,s.heap.Ns1 d mA/\∀f,RelO (fs.lookup f) (mA f) from I.hok d _ hd)
   obtain⟨od,o2,_⟩:=B5w nA
   refine kia_one (H:=fun h=>PySem.W.InstAt h a (Z6 (.ref C) t0 (some d) T) C (some od)) ?_ I.kIn ⟨o1,rfl,rfl,o2⟩ e (fun z=>nomatch z) h
   refine⟨fun M h _ J=>J.type,fun M h K _=>A4y K k.cl,fun h tp dd its n sl K htp=>?_,fun K J q=>A8b k K J q⟩
   refine Bool.eq_false_iff.mpr fun q=>?_
   have e:C=tp:=Value.ref.inj (beq_iff_eq.mp q)
   subst e
   have z:=k.cl
   unfold clsIn at z
   split at z
   . rename_i ho
     have y:=(K _ _ ho).symm.trans htp
     cases y
   . cases z
noncomputable def Y3j:V ->Option Value
 | .ty n=>some (.type n)
 | .ref a=>some (.ref a)
 |_=>none
theorem G1p:A8j X (.builtin "isinstance") (fun xs H Q=>∃x c cv t b,xs=[x,c]/\Y3j c=some cv/\TyE X.K H x t/\kitOne X.K t cv=some b/\Q (.bl b) H):=by
 intro pins s σ H xs us Q I r h
 obtain⟨x,c,cv,t,b,rfl,hc,ty,e,q⟩:=h
 obtain⟨u,v,rfl,ru,rv⟩:=Vals.two r
 have:v=cv:=by
   cases c<;>simp only[Y3j] at hc<;>first|(cases hc;exact rv)|cases hc
 subst this
 exact G6h I ru ty e fun tk=>⟨.bl b,H,I.tok tk,rfl,q⟩
mutual
inductive RdD(K:Frag)(H:Hp):V ->PyData ->Prop where
 |non:RdD K H .non .none
 |bl (b:Bool):RdD K H (.bl b) (.bool b)
 |int (i:Int):RdD K H (.int i) (.int i)
 |str (x:Str):RdD K H (.str x) (.str x)
 |tup {a:Addr} {xs:List V} {ds:List PyData} (h:SqT K H a xs) (r:RdDs K H xs ds):RdD K H (.ref a) (.tuple ds)
 |lst {a:Addr} {xs:List V} {ds:List PyData} (h:SqL K H a xs) (r:RdDs K H xs ds):RdD K H (.ref a) (.list ds)
inductive RdDs(K:Frag)(H:Hp):List V ->List PyData ->Prop where
 |nil:RdDs K H [] []
 |cons {x:V} {xs:List V} {d:PyData} {ds:List PyData} (h:RdD K H x d) (r:RdDs K H xs ds):RdDs K H (x::xs) (d::ds)
end
mutual
theorem RdD.reads{pins:List (Addr×Obj)}{σ:St}{H:Hp}{s:Shared}(I:Inv X pins σ H s):∀{x:V} {d:PyData} {u:Value},RdD X.K H x d ->RelV x u ->∃as,Reads s.heap u d as
 |_,_,_,.non,r=>by cases r;exact⟨_,.none⟩
 |_,_,_,.bl b,r=>by cases r;exact⟨_,.bool b⟩
 |_,_,_,.int i,r=>by obtain⟨t,rfl⟩:=r;exact⟨_,.int i t⟩
 |_,_,_,.str x,r=>by obtain⟨t,rfl⟩:=r;exact⟨_,.str x t⟩
 | _,_,_,.tup h q,r=>by
   cases r
   obtain⟨its,rv,⟨o,e,c,n,d⟩,_⟩:=I.tuple h
   obtain⟨as,z⟩:=RdDs.reads I q rv
   exact⟨_,reads_tuple_at e c d (by simpa using z)⟩
 | _,_,_,.lst h q,r=>by
   cases r
   obtain⟨its,rv,p,_⟩:=I.list h
   obtain⟨o,e,c,n,d⟩:=p.isList
   obtain⟨as,z⟩:=RdDs.reads I q rv
   exact⟨_,reads_list_at e c d (by simpa using z)⟩
theorem RdDs.reads{pins:List (Addr×Obj)}{σ:St}{H:Hp}{s:Shared}(I:Inv X pins σ H s):∀{xs:List V} {ds:List PyData} {us:List Value},RdDs X.K H xs ds ->Vals xs us ->∃as,ReadsAll s.heap us ds as
 |_,_,_,.nil,r=>by cases r;exact⟨_,.nil⟩
 | _,_,_,.cons h q,r=>by
   cases r with
   | cons r1 r2=>
     obtain⟨as,z⟩:=RdD.reads I h r1
     obtain⟨bs,y⟩:=RdDs.reads I q r2
     exact⟨_,.cons z y⟩
end
noncomputable def Z3e (K:Frag) (n:Bool):R2:=fun x y H Q=>∃d e,RdD K H x d/\RdD K H y e/\SeqAt.shaped d=true/\SeqAt.shaped e=true/\Q (.bl (if n then !PyData.eqv d e else PyData.eqv d e)) H
theorem U6e(hu:X.A.units+64<cLine):OpR X (compareOp .Eq) (Z3e X.K false):=by
 intro pins s σ H x y v u Q I rx ry q
 obtain⟨d,e,hx,hy,sd,se,q⟩:=q
 obtain⟨as,z⟩:=hx.reads I rx
 obtain⟨bs,z'⟩:=hy.reads I ry
 exact eq_dataH z z' sd se hu ⟨.bl (PyData.eqv d e),H,I,rfl,q⟩
theorem U4w(hu:X.A.units+64<cLine):OpR X (compareOp .NotEq) (Z3e X.K true):=by
 intro pins s σ H x y v u Q I rx ry q
 obtain⟨d,e,hx,hy,sd,se,q⟩:=q
 obtain⟨as,z⟩:=hx.reads I rx
 obtain⟨bs,z'⟩:=hy.reads I ry
 exact ne_dataH z z' sd se hu ⟨.bl (!PyData.eqv d e),H,I,rfl,q⟩
inductive FPart(X:Cx):Expr ->TE ->Prop where
 |lit {x:Str} {j:Nat} {pos:Pos}:FPart X (.Constant (.str x) j pos) (tC (.str x))
 |int {v:Expr} {tv:TE} {pos:Pos} (h:PE X v tv):FPart X (.FormattedValue v (-1) none pos) (fun σ H Q=>tv σ H fun y H1=>∃i,y= .int i/\i.natAbs.log2<1920/\Q (.str (toString i)) H1)
theorem FPart.pe{e:Expr}{t:TE}(h:FPart X e t):PE X e t:=by
 cases h with
 |lit=>exact C5
 | int h=>
   intro pins s σ H Q I q
   refine FormattedValue_plain (thn (h pins s σ H _ I q) fun u s1 hh_=>?_)
   obtain⟨y,H1,I1,r,i,e,l,q⟩:=hh_
   subst e
   obtain⟨t,rfl⟩:=r
   exact formatField_int_small l ⟨.str (toString i),H1,I1.tok _,⟨_,rfl⟩,q⟩
inductive FParts(X:Cx):List Expr ->(Str ->TE) ->Prop where
 |nil:FParts X [] (fun out _ H Q=>out.length<=sizeLine/\Q (.str out) H)
 |cons {e:Expr} {es:List Expr} {t:TE} {r:Str ->TE} (h:FPart X e t) (hr:FParts X es r):FParts X (e::es) (fun out σ H Q=>t σ H fun x H1=>∃y,x= .str y/\(out++y).length<=sizeLine/\r (out++y) σ H1 Q)
theorem FParts.run{es:List Expr}{t:Str ->TE}(h:FParts X es t):∀(out:Str) (pins:List (Addr×Obj)) (s:Shared) (σ:St) (H:Hp) (Q:VK),Inv X pins σ H s ->t out σ H Q ->
   wpAny (model X.prog X.w) X.A (joinParts out (evalEach es X.env)) (EP X pins σ Q) X.xe s:=by
 induction h with
 | nil=>
   intro out pins s σ H Q I q
   exact joinParts_nil ⟨.str out,H,I.tok _,⟨_,rfl⟩,q.2⟩ q.1
 | @cons e es t r h hr ih=>
   intro out pins s σ H Q I q
   show wpAny _ _ (joinParts out (eval e X.env::evalEach es X.env)) _ _ _
   refine joinParts_cons (thn (h.pe pins s σ H _ I q) fun u s1 hh_=>?_)
   obtain⟨x,H1,I1,rx,y,ey,z,q⟩:=hh_
   subst ey
   obtain⟨t',rfl⟩:=rx
   exact⟨z,ih _ pins s1 σ H1 Q I1 q⟩
theorem J6u{e1 e2:Expr}{es:List Expr}{t:Str ->TE}{pos:Pos}(h:FParts X (e1::e2::es) t):PE X (.JoinedStr (e1::e2::es) pos) (t Str.empty):=by
 intro pins s σ H Q I q
 exact JoinedStr_many (h.run _ pins s σ H Q I q)
end
section
variable{P:Program}{w:World}{K:Frag}{mg:Str ->Option Value}{base:Heap}
end
section
variable{X:Cx}{k:Nat}{f:Addr}{fd:FuncData}{ps:List Str}{sp:Sp}{x:Str}{p pos:Pos}{e:Expr}{es:List Expr}{t:TA}
end
theorem Inv.big{X:Cx}{pins:List (Addr×Obj)}{σ:St}{H:Hp}{s:Shared}(I:Inv X pins σ H s):sysModules<s.heap.objs.size:=by
 have h:mainGlobals<s.heap.objs.size:=(I.mod.glob.keeps I.bk).lt
 exact Nat.lt_trans (by decide) h
theorem U7b{P:Program}{w:World}{H:Hp}(h:Heap)(hb:sysModules<h.objs.size):ObjOk P w H (h.push {cls:= .type "dict",data:= .dict #[]}) h.objs.size (.dK []):=
 ⟨Nat.zero_le _,beq_eq_false_iff_ne.mpr (Ne.symm (Nat.ne_of_lt hb)),[],.nil,Heap.DictOf.new h⟩
noncomputable abbrev EKF:EK:=fun _ _ _ _=>False
theorem Y7{X:Cx}:G2 X EKF:=fun _ _ _ _ _ _ _ _ _ _ h=>h.elim
structure Def(K:Frag)(mg:Str ->Option Value)(x:Str)(ps:List Str)(st:Stmt)(f:Addr)(fd:FuncData):Prop where
 F:Fun K x x st f fd
 g:mg x=some (.ref f)
 b:Binds K fd ps []
theorem G4{K:Frag}{h:Heap}{mg:Str ->Option Value}{x:Str}{ps:List Str}{st:Stmt}{f:Addr}{oc:Value}{od an:Option Addr}{osl:Array (Option Value)}{kV doc pm cdv ct:Value}(X:K.In h)(G:h.Ns mainGlobals mg)
   (a:nsIn K mainGlobals x=some (some (.ref f))) (l:K.lookup f=some ⟨oc,od,.func (fnOf x x (B9 st) (B8 st) (A1 st) .none kV doc pm an cdv ct),osl⟩) (c:codeIn K cdv x=true) (k:keepIn K (.ref f)=true)
   (hb:∀(kV doc pm:Value) (an:Option Addr) (cdv ct:Value) (us:List Value),us.length=ps.length ->bindArgs (fnOf x x (B9 st) (B8 st) (A1 st) .none kV doc pm an cdv ct) ⟨us,[]⟩=pure (ps.zip us)):
   Def K mg x ps st f (fnOf x x (B9 st) (B8 st) (A1 st) .none kV doc pm an cdv ct):=
 ⟨G6 (st:=st) l c k,mg_of X G a,(G6 (st:=st) l c k).binds hb⟩
theorem V3{c A B:Prop} [Decidable c] (h:¬c) (b:B):if decide c=true then A else B:=by rw[decide_eq_false h];exact U1 b
theorem A1w{c A B:Prop} [Decidable c] (h:c) (a:A):if decide c=true then A else B:=by rw[decide_eq_true h];exact Y6 a
theorem Y3{c A B:Prop} [Decidable c] (a:c ->A) (b:¬c ->B):if decide c=true then A else B:=by
 by_cases h:c
 . exact A1w h (a h)
 . exact V3 h (b h)
noncomputable def Z4w (t:TS):TS:=fun D σ H=>∃J:St ->Hp ->Prop,t {D with nx:=J} σ H/\∀σ' H',J σ' H' ->D.nx σ' H'
theorem C7{X:Cx}{st:Stmt}{t:TS}(h:PS X st t):PS X st (Z4w t):=by
 intro pins s σ H D I q
 obtain⟨J,q,k⟩:=q
 refine thn (h pins s σ H _ I q) fun f s' z=>?_
 cases f with
 |next=>obtain⟨σ',H',I',y⟩:=z;exact⟨σ',H',I',k _ _ y⟩
 |brk=>exact z
 |cont=>exact z
 |ret u=>exact z
theorem ixs{xs:List Int}{i:Int}(h0:0<=i)(h1:i<xs.length):∃v,v∈xs/\atI (xs.map V.int) i=some (.int v):=by
 obtain⟨j,rfl⟩:=Int.eq_ofNat_of_zero_le h0
 have hj:j<xs.length:=by omega
 exact⟨xs[j],List.getElem_mem hj,D7 (by simp[hj])⟩
theorem ixv{xs:List V}{i:Int}(h0:0<=i)(h1:i<xs.length):∃v,v∈xs/\atI xs i=some v:=by
 obtain⟨j,rfl⟩:=Int.eq_ofNat_of_zero_le h0
 have hj:j<xs.length:=by omega
 exact⟨xs[j],List.getElem_mem hj,D7 (by simp[hj])⟩
theorem Same.upd{H:Hp}{p:Addr}{o:HO}(h:H p=none):Same H (L2.upd H p o):=fun b u e=>by rw[C6 (D5 e h)];exact e
theorem C9{n:Nat}(h:n<=1000):n<=sizeLine:=Nat.le_of_lt (Y5 h)
section
variable{X:Cx}{k j:Nat}{f:Addr}{fd:FuncData}{ps:List Str}{sp:Sp}{EH:EK}{x:Str}{st:Stmt}{p pos:Pos}{e:Expr}{es:List Expr}{t:TA}
theorem G0(D:Def X.K X.mg x ps st f fd)(F:FnOk X.prog X.w X.K X.mg X.base (CX1 X.prog X.w) j f fd ps sp)(hr:Room k X.A)(hx:G2 X EH)(ha:PA X (e::es) t)(hj:j<=k:=by decide)(hg:Gl X x:=by rfl)(hex:X.ex=[]:=by rfl)(hdb:(x==("__debug__":Str))=false:=by decide)
   (he:starEach (e::es) X.env=(false,eval e X.env)::starEach es X.env:=by rfl) (hpl:(backTo pos (starEach es X.env)).any (·.1)=false:=by rfl):PE X (.Call (.Name x p) (e::es) [] pos) (D0y sp [] EH t):=
 U7f (F.mono hj) hr hg D.g D.F.kp D.b .nil hx ha hex hdb he hpl
theorem D1v(D:Def X.K X.mg x ps st f fd)(F:FnOk X.prog X.w X.K X.mg X.base (CX1 X.prog X.w) j f fd ps sp)(hr:Room k X.A)(hx:G2 X EH)(hj:j<=k:=by decide)(hg:Gl X x:=by rfl)(hex:X.ex=[]:=by rfl)(hdb:(x==("__debug__":Str))=false:=by decide):
   PE X (.Call (.Name x p) [] [] pos) (D0y sp [] EH J9z):=
 J8x (F.mono hj) hr hg D.g D.F.kp D.b .nil hx hex hdb
theorem pty{n:Str}{T:String}(hm:X.mg n=none)(hv:bootBuiltins n=some (.type T))(hg:Gl X n:=by rfl)(hn:n≠"__name__":=by decide)(hdb:(n==("__debug__":Str))=false:=by decide):PE X (.Name n pos) (tC (.ty T)):=Y0n hg hm hv rfl hn hdb
theorem Y3g{n:Str}{C:Addr}(hm:X.mg n=some (.ref C))(hg:Gl X n:=by rfl)(hdb:(n==("__debug__":Str))=false:=by decide):PE X (.Name n pos) (tC (.ref C)):=Y1p hg hm rfl hdb
theorem D0n{a b:Expr}{ta tb:TE}(hm:X.mg "isinstance"=none)(ha:PE X a ta)(hb:PE X b tb)(hg:Gl X "isinstance":=by rfl)
   (h1:starEach [a,b] X.env=(false,eval a X.env)::starEach [b] X.env:=by rfl) (h2:starEach [b] X.env=(false,eval b X.env)::starEach [] X.env:=by rfl) (h3:(backTo pos (starEach [b] X.env)).any (·.1)=false:=by rfl):
   PE X (.Call (.Name "isinstance" p) [a,b] [] pos) (tCB (fun xs H Q=>∃x c cv t b,xs=[x,c]/\Y3j c=some cv/\TyE X.K H x t/\kitOne X.K t cv=some b/\Q (.bl b) H) (G1s ta (G1s tb J9z))):=
 U9 G1p hg hm boot_isinstance (A0 ha (A0 hb A8 h2) h1) (he:=h1) (hpl:=h3)
theorem J6y{K:Frag}{a b:Expr}{ta tb:TE}(hK:X.K=K)(hm:X.mg "isinstance"=none)(ha:PE X a ta)(hb:PE X b tb)(hg:Gl X "isinstance":=by rfl)
   (h1:starEach [a,b] X.env=(false,eval a X.env)::starEach [b] X.env:=by rfl) (h2:starEach [b] X.env=(false,eval b X.env)::starEach [] X.env:=by rfl) (h3:(backTo pos (starEach [b] X.env)).any (·.1)=false:=by rfl):
   PE X (.Call (.Name "isinstance" p) [a,b] [] pos) (tCB (fun xs H Q=>∃x c cv t b,xs=[x,c]/\Y3j c=some cv/\TyE K H x t/\kitOne K t cv=some b/\Q (.bl b) H) (G1s ta (G1s tb J9z))):=by
 subst hK
 exact D0n hm ha hb hg h1 h2 h3
end
section
variable{X:Cx}{k j:Nat}{f:Addr}{fd:FuncData}{ps:List Str}{sp:Sp}{x:Str}{st:Stmt}{p pos:Pos}{e:Expr}{es:List Expr}{t:TA}
end
structure Mk0(K:Frag)(C:Addr):Prop where
 makes:makesIn K C=true
 init:findIn K (.ref C) "__init__"=some (some (.builtin "object.__init__"))
 kp:keepIn K (.ref C)=true
section
variable{X:Cx}{k j:Nat}{f C:Addr}{fd:FuncData}{ps:List Str}{sp:Sp}{dvs:List V}{ds:List Value}{EH:EK}{x m:Str}{p pos apos:Pos}{e o:Expr}{es:List Expr}{ta:TE}{t:TA}
noncomputable def Y9j (C:Addr):TE:=fun _ H Q=>∀x dx,H x=none ->H dx=none ->dx≠x ->Q (.ref x) (upd (upd H dx (.own x)) x (.ins C dx []))
theorem Y1g{pins:List (Addr×Obj)}{σ:St}{H:Hp}{s:Shared}{Q:VK}(M:Mk0 X.K C)(I:Inv X pins σ H s)(h:Y9j C σ H Q):wpAny (model X.prog X.w) X.A (call (.ref C) []) (EP X pins σ Q) X.xe s:=by
 have hq:=h (s.heap.objs.size+1) s.heap.objs.size (I.hok.fresh (Nat.le_succ _)) (I.hok.fresh (Nat.le_refl _)) (Nat.ne_of_lt (Nat.lt_succ_self _))
 have I2:=Inv.made (C:=C) I
 have Y:=makes_of (M:=model X.prog X.w) I.kIn M.makes
 refine wpAny_call (J9t I.kIn M.makes M.init (fun self=>Looks.of_pure (oi_bind self)) ?_)
 have e2:((s.heap.push emptyDict).push (instObj C s.heap.objs.size)).get? (s.heap.objs.size+1)=some (instObj C s.heap.objs.size):=by
   have:=Heap.get?_push_size (s.heap.push emptyDict) (o:=instObj C s.heap.objs.size) rfl
   rwa[Heap.size_push] at this
 have t1:Looks (model X.prog X.w) ((s.heap.push emptyDict).push (instObj C s.heap.objs.size)) (typeOf (.ref (s.heap.objs.size+1))) (.ref C):=(Looks.ld e2).andThen .now
 have t2:Looks (model X.prog X.w) ((s.heap.push emptyDict).push (instObj C s.heap.objs.size)) (isInstance (.ref (s.heap.objs.size+1)) (.type "object")) true:=t1.andThen (Y.top.keeps fun b o e=>Heap.get?_push_of_some _ (Heap.get?_push_of_some _ e))
 refine codeAny_call_builtin oi_plain entry_oi (@check_slot (model X.prog X.w) _ _ _ "object.__init__" "object" "__init__" (.ref (s.heap.objs.size+1)) [] [] _ oi_kind oi_split t2 (oi_args (.ref (s.heap.objs.size+1))) ?_)
 rw[oi_run]
 exact wpAny_pure (And.intro rfl ⟨V.ref (s.heap.objs.size+1),_,I2,rfl,hq⟩)
theorem A7z(M:Mk0 X.K C)(hg:Gl X x)(hm:X.mg x=some (.ref C))(hdb:(x==("__debug__":Str))=false:=by decide):PE X (.Call (.Name x p) [] [] pos) (Y9j C):=by
 intro pins s σ H Q I h
 refine wpAny_Call_Name_kw (A1e I hg hm ?_ hdb)
 exact callWith_K0 I.kIn M.kp (Y1g M I h)
noncomputable def U8g (C:Addr) (m:Str) (sp:Sp) (dvs:List V) (EH:EK) (ta:TE) (t:TA):TE:=fun σ H Q=>ta σ H fun x H1=>∃a dx fs,x= .ref a/\H1 a=some (.ins C dx fs)/\fs.lookup m=none/\
 t σ H1 fun vs H2=>sp (x::(vs++dvs)) H2 Q (fun C d H'=>EH C d σ H')
theorem C1y{pl:Sem Bool}(he:PE X o ta)(c:Cls X.K C)(hm:Meth X.K C m f)(F:FnOk X.prog X.w X.K X.mg X.base (CX1 X.prog X.w) j f fd ps sp)(hr:Room k X.A)(hb:Binds X.K fd ps ds)(hd:Vals dvs ds)(hx:G2 X EH)(ha:PA X (e::es) t)
   (hj:j<=k:=by decide) (hex:X.ex=[]:=by rfl)
   (hst:starEach (e::es) X.env=(false,eval e X.env)::starEach es X.env:=by rfl) (hpl:(backTo pos (starEach es X.env)).any (·.1)=false:=by rfl)
   (ht:eval (.Call (.Attribute o m apos) (e::es) [] pos) X.env=(do
     let ov<-eval o X.env
     standAt apos.atName
     let(f,first)<-holding [ov] (getMethod ov m pl)
     callWith pos f first (backTo pos (starEach (e::es) X.env)) (backToKw pos (keywordEach [] X.env))):=by rfl):
   PE X (.Call (.Attribute o m apos) (e::es) [] pos) (U8g C m sp dvs EH ta t):=by
 intro pins s σ H Q I h
 refine methodCall_KW (pl:=pl) (thn (he pins s σ H _ I h) fun u s1 hh_=>?_) ht
 obtain⟨x,H1,I1,rx,a,dx,fs,ex,ea,l,q⟩:=hh_
 subst ex
 obtain rfl:u=Value.ref a:=rx
 refine C0y I1 ea c hm l ?_
 refine callWith_K (first:=[.ref a]) (h₀:=X.base) I.ok.mod.kin hm.kp (thn (ha pos pins s1 σ H1 _ I1 q) fun us s2 ⟨vs,H2,I2,r,q2⟩=>⟨I2.kIn,?_⟩) hst hpl
 exact B9u (us:= .ref a::us) (vs:= .ref a::vs) (F.mono hj) hr hb hd hx hex I2 (.cons rfl r) q2
theorem A4z{pl:Sem Bool}(he:PE X o ta)(c:Cls X.K C)(hm:Meth X.K C m f)(F:FnOk X.prog X.w X.K X.mg X.base (CX1 X.prog X.w) j f fd ps sp)(hr:Room k X.A)(hb:Binds X.K fd ps ds)(hd:Vals dvs ds)(hx:G2 X EH)
   (hj:j<=k:=by decide) (hex:X.ex=[]:=by rfl)
   (ht:eval (.Call (.Attribute o m apos) [] [] pos) X.env=(do
     let ov<-eval o X.env
     standAt apos.atName
     let(f,first)<-holding [ov] (getMethod ov m pl)
     callWith pos f first (backTo pos (starEach [] X.env)) (backToKw pos (keywordEach [] X.env))):=by rfl):
   PE X (.Call (.Attribute o m apos) [] [] pos) (U8g C m sp dvs EH ta J9z):=by
 intro pins s σ H Q I h
 refine methodCall_KW (pl:=pl) (thn (he pins s σ H _ I h) fun u s1 hh_=>?_) ht
 obtain⟨x,H1,I1,rx,a,dx,fs,ex,ea,l,q⟩:=hh_
 subst ex
 obtain rfl:u=Value.ref a:=rx
 refine C0y I1 ea c hm l ?_
 exact callWith_K0 (first:=[.ref a]) I1.kIn hm.kp (B9u (us:=[.ref a]) (vs:=[.ref a]) (F.mono hj) hr hb hd hx hex I1 (.cons rfl .nil) q)
noncomputable def Y7m (C:Addr) (sp:Sp) (dvs:List V) (EH:EK) (t:TA):TE:=fun σ H Q=>t σ H fun vs H1=>∀x dx,H1 x=none ->H1 dx=none ->dx≠x ->
 sp (.ref x::(vs++dvs)) (upd (upd H1 dx (.own x)) x (.ins C dx [])) (fun v H2=>v= .non/\Q (.ref x) H2) (fun C d H'=>EH C d σ H')
theorem J9u{pins:List (Addr×Obj)}{σ:St}{H:Hp}{s:Shared}{Q:VK}{us:List Value}{vs:List V}(M:Mk X.K C f)(F:FnOk X.prog X.w X.K X.mg X.base (CX1 X.prog X.w) k f fd ps sp)(hr:Room (k+1) X.A)(hb:Binds X.K fd ps ds)(hd:Vals dvs ds)
   (hx:G2 X EH) (hex:X.ex=[]) (I:Inv X pins σ H s) (r:Vals vs us)
   (h:∀x dx,H x=none ->H dx=none ->dx≠x ->sp (.ref x::(vs++dvs)) (upd (upd H dx (.own x)) x (.ins C dx [])) (fun v H2=>v= .non/\Q (.ref x) H2) (fun C d H'=>EH C d σ H')):
   wpAny (model X.prog X.w) X.A (call (.ref C) us) (EP X pins σ Q) X.xe s:=by
 have hq:=h (s.heap.objs.size+1) s.heap.objs.size (I.hok.fresh (Nat.le_succ _)) (I.hok.fresh (Nat.le_refl _)) (Nat.ne_of_lt (Nat.lt_succ_self _))
 have I2:=Inv.made (C:=C) I
 have r2:Vals (V.ref (s.heap.objs.size+1)::(vs++dvs)) (Value.ref (s.heap.objs.size+1)::(us++ds)):= .cons rfl (r.append hd)
 have hl:(Value.ref (s.heap.objs.size+1)::us++ds).length=ps.length:=by
   have e:=r2.length
   rw[F.len _ _ _ _ hq] at e
   exact e.symm
 refine wpAny_call (G1w (f:=f) I.kIn M.makes M.init (beq_iff_eq.mp M.fn) (codeAny_mono (F.run _ X.stack _ _ ⟨Value.ref (s.heap.objs.size+1)::us,[]⟩ (Value.ref (s.heap.objs.size+1)::(us++ds)) _ _ _ (hr.make C us [])
   (I2.env0.make C us []) (hb _ (Value.ref (s.heap.objs.size+1)::us) I2.kIn hl) r2 hq) fun r s' hq'=>?_))
 cases r with
 |error e=>exact Y2m hx hex I2 hq'
 | ok fl=>
   cases fl with
   | ret u=>
     obtain⟨v,H',I3,rv,ev,q3⟩:=I2.after hq'
     subst ev
     exact⟨rv,⟨V.ref (s.heap.objs.size+1),H',I3,rfl,q3⟩⟩
   |next=>exact False.elim hq'
   |brk=>exact False.elim hq'
   |cont=>exact False.elim hq'
theorem C9r(M:Mk X.K C f)(F:FnOk X.prog X.w X.K X.mg X.base (CX1 X.prog X.w) j f fd ps sp)(hr:Room k X.A)(hm:X.mg x=some (.ref C))(hb:Binds X.K fd ps ds)(hd:Vals dvs ds)(hx:G2 X EH)
   (ha:PA X (e::es) t) (hj:j+1<=k:=by decide) (hg:Gl X x:=by rfl) (hex:X.ex=[]:=by rfl) (hdb:(x==("__debug__":Str))=false:=by decide) (he:starEach (e::es) X.env=(false,eval e X.env)::starEach es X.env:=by rfl) (hpl:(backTo pos (starEach es X.env)).any (·.1)=false:=by rfl):
   PE X (.Call (.Name x p) (e::es) [] pos) (Y7m C sp dvs EH t):=by
 intro pins s σ H Q I h
 refine wpAny_Call_Name_kw (A1e I hg hm ?_ hdb)
 refine callWith_K (h₀:=X.base) I.ok.mod.kin M.kp (thn (ha pos pins s σ H _ I h) fun us s1 ⟨vs,H1,I1,r,q⟩=>⟨I1.kIn,?_⟩) he hpl
 exact J9u M F (hr.mono hj) hb hd hx hex I1 r q
end
theorem Y2c{n:Nat}(h:n<=sizeLine):Builtin.Str.tooLong n=false:=by
 unfold Builtin.Str.tooLong
 exact decide_eq_false (by omega)
section
variable{X:Cx}
end
structure FunD(K:Frag)(x qual:Str)(st:Stmt)(dV:Value)(f:Addr)(fd:FuncData):Prop where
 ex:∃(oc:Value) (od:Option Addr) (kV doc pm:Value) (an:Option Addr) (cdv ct:Value) (osl:Array (Option Value)),
   fd=fnOf x qual (B9 st) (B8 st) (A1 st) dV kV doc pm an cdv ct/\K.lookup f=some ⟨oc,od,.func fd,osl⟩/\codeIn K cdv qual=true
 kp:keepIn K (.ref f)=true
section
variable{P:Program}{w:World}{K:Frag}{mg:Str ->Option Value}{base:Heap}
theorem FunD.okE{x qual:Str}{st:Stmt}{dV:Value}{f:Addr}{fd:FuncData}{N ps:List Str}{k:Nat}{sp:Sp}(F:FunD K x qual st dV f fd)(S:FnScope N ps (A1 st))(len:∀vs H Q E,sp vs H Q E ->vs.length=ps.length)
   (hbody:∀(X:Cx) (cdv:Value) (A:Around) (outer:List Env) (s:Shared) (H:Hp) (vs:List V) (Q:VK) (E:XK),X=A0b (CX1 P w) P w K mg base N qual (A1 st) f cdv A outer s H E ->Room k X.A ->G2 X (fun C dd _ H'=>E C dd H') ->sp vs H Q E ->
     ∃t,PSs (A0b (CX1 P w) P w K mg base N qual (A1 st) f cdv A outer s H E) (B8 st) t/\t {nx:=fun _ H'=>Q .non H',rt:=Q} (A2t N vs) H):FnOk P w K mg base (CX1 P w) (k+1) f fd ps sp:=by
 obtain⟨oc,od,kV,doc,pm,an,cdv,ct,osl,rfl,lk,hc⟩:=F.ex
 exact U4k lk hc S len fun A outer s H vs Q E hr h=>hbody _ cdv A outer s H vs Q E rfl hr A5b h
theorem J7c{x qual:Str}{st:Stmt}{dV:Value}{f:Addr}{oc:Value}{od an:Option Addr}{osl:Array (Option Value)}{kV doc pm cdv ct:Value}(l:K.lookup f=some ⟨oc,od,.func (fnOf x qual (B9 st) (B8 st) (A1 st) dV kV doc pm an cdv ct),osl⟩)
   (c:codeIn K cdv qual=true) (k:keepIn K (.ref f)=true):FunD K x qual st dV f (fnOf x qual (B9 st) (B8 st) (A1 st) dV kV doc pm an cdv ct):=⟨⟨oc,od,kV,doc,pm,an,cdv,ct,osl,rfl,l,c⟩,k⟩
theorem G5q{fd:FuncData}{ps:List Str}{ds:List Value}{T:Addr}{o:Obj}{items:Array Value}{n:Nat}(hd:fd.defaults= .ref T)(ho:K.lookup T=some o)(hs:o.data= .seq items n)
   (h:∀us:List Value,(us++ds).length=ps.length ->∃k,bindArgs fd ⟨us,[]⟩=seqItems? fd.defaults>>=k/\k (some items)=pure (ps.zip (us++ds))):Binds K fd ps ds:=fun s us X hl=>by
 obtain⟨k,h1,h2⟩:=h us hl
 exact binds_K X hd ho hs h1 h2
end
section
variable{X:Cx}{k j:Nat}{f C:Addr}{fd:FuncData}{ps ks:List Str}{sp:Sp}{EH:EK}{x m:Str}{p pos apos:Pos}{e o:Expr}{es:List Expr}{kws:List Keyword}{ta:TE}{t tk:TA}{g:List Value ->List Value ->List Value}{gV:List V ->List V ->List V}
end
section
variable{X:Cx}{K:Frag}{e:Expr}{f:Str}{pos:Pos}{ta:TE}
theorem U6b(h:X.K=K):IxR X (Z3n K):=by subst h;exact A1d
theorem A4w(h:X.K=K):OpR X (compareOp .In) (rIn K false):=by subst h;exact A4g
end
end L2
namespace TR
open PySem L2 PySem.W PyProof.Rows
structure Own(mg:Str ->Option Value):Prop where
 isi:mg "isinstance"=none
 int_:mg "int"=none
 bool_:mg "bool"=none
 str_:mg "str"=none
 list_:mg "list"=none
 tuple_:mg "tuple"=none
 dict_:mg "dict"=none
 len_:mg "len"=none
 range_:mg "range"=none
 min_:mg "min"=none
 max_:mg "max"=none
 abs_:mg "abs"=none
 any_:mg "any"=none
 all_:mg "all"=none
 sum_:mg "sum"=none
 repr_:mg "repr"=none
 enumerate_:mg "enumerate"=none
 reversed_:mg "reversed"=none
 zip_:mg "zip"=none
 sorted_:mg "sorted"=none
 divmod_:mg "divmod"=none
 set_:mg "set"=none
 ValueError_:mg "ValueError"=none
structure Kit(K:Frag):Prop where
 int_int:kitOne K (.type "int") (.type "int")=some true
 int_bool:kitOne K (.type "int") (.type "bool")=some false
 int_str:kitOne K (.type "int") (.type "str")=some false
 int_list:kitOne K (.type "int") (.type "list")=some false
 int_tuple:kitOne K (.type "int") (.type "tuple")=some false
 int_dict:kitOne K (.type "int") (.type "dict")=some false
 bool_int:kitOne K (.type "bool") (.type "int")=some true
 bool_bool:kitOne K (.type "bool") (.type "bool")=some true
 bool_str:kitOne K (.type "bool") (.type "str")=some false
 bool_list:kitOne K (.type "bool") (.type "list")=some false
 bool_tuple:kitOne K (.type "bool") (.type "tuple")=some false
 bool_dict:kitOne K (.type "bool") (.type "dict")=some false
 str_int:kitOne K (.type "str") (.type "int")=some false
 str_bool:kitOne K (.type "str") (.type "bool")=some false
 str_str:kitOne K (.type "str") (.type "str")=some true
 str_list:kitOne K (.type "str") (.type "list")=some false
 str_tuple:kitOne K (.type "str") (.type "tuple")=some false
 str_dict:kitOne K (.type "str") (.type "dict")=some false
 list_int:kitOne K (.type "list") (.type "int")=some false
 list_bool:kitOne K (.type "list") (.type "bool")=some false
 list_str:kitOne K (.type "list") (.type "str")=some false
 list_list:kitOne K (.type "list") (.type "list")=some true
 list_tuple:kitOne K (.type "list") (.type "tuple")=some false
 list_dict:kitOne K (.type "list") (.type "dict")=some false
 tuple_int:kitOne K (.type "tuple") (.type "int")=some false
 tuple_bool:kitOne K (.type "tuple") (.type "bool")=some false
 tuple_str:kitOne K (.type "tuple") (.type "str")=some false
 tuple_list:kitOne K (.type "tuple") (.type "list")=some false
 tuple_tuple:kitOne K (.type "tuple") (.type "tuple")=some true
 tuple_dict:kitOne K (.type "tuple") (.type "dict")=some false
 dict_int:kitOne K (.type "dict") (.type "int")=some false
 dict_bool:kitOne K (.type "dict") (.type "bool")=some false
 dict_str:kitOne K (.type "dict") (.type "str")=some false
 dict_list:kitOne K (.type "dict") (.type "list")=some false
 dict_tuple:kitOne K (.type "dict") (.type "tuple")=some false
 dict_dict:kitOne K (.type "dict") (.type "dict")=some true
 NoneType_int:kitOne K (.type "NoneType") (.type "int")=some false
 NoneType_bool:kitOne K (.type "NoneType") (.type "bool")=some false
 NoneType_str:kitOne K (.type "NoneType") (.type "str")=some false
 NoneType_list:kitOne K (.type "NoneType") (.type "list")=some false
 NoneType_tuple:kitOne K (.type "NoneType") (.type "tuple")=some false
 NoneType_dict:kitOne K (.type "NoneType") (.type "dict")=some false
theorem scK{N P:List Str}{sc:Scope}(a:sc.kind= .function:=by rfl)(b:sc.isCoroutine=false:=by rfl)(c:sc.isGenerator=false:=by rfl)(d:N.Nodup:=by decide+kernel)(e:N.take P.length=P:=by rfl)(f:∀x∈P,sc.names.lookup x=some .local\/sc.names.lookup x=some .cell:=by decide+kernel)(g:∀y∈sc.names,y.2≠ .free:=by decide+kernel):FnScope N P sc:=⟨a,b,c,d,e,f,g⟩
theorem J5w{K:Frag}{H:Hp}(i:Int):TyE K H (.int i) (.type "int"):= .of (.int i)
theorem G0g{K:Frag}{H:Hp}(z:Str):TyE K H (.str z) (.type "str"):= .of (.str z)
theorem Y6s{K:Frag}{H:Hp}{a:Addr}{xs:List V}(h:H a=some (.lst xs)):TyE K H (.ref a) (.type "list"):= .of (.lst h)
theorem Y6t{K:Frag}{H:Hp}{a:Addr}{xs:List V}(h:H a=some (.tup xs)):TyE K H (.ref a) (.type "tuple"):= .of (.tup h)
noncomputable def G0q (lo hi:Int) (v:V):Prop:=∃i,v= .int i/\lo<=i/\i<=hi
noncomputable def G5x (K:Frag) (H:Hp) (lo hi:Int) (v:V):Prop:=∃t b1 b2,TyE K H v t/\kitOne K t (.type "int")=some b1/\kitOne K t (.type "bool")=some b2/\((b1&& !b2)=false\/∃i,v= .int i/\(i<lo\/hi<i))
section
variable{K:Frag}{H:Hp}{lo hi:Int}
end
noncomputable def Exc (p:Addr) (H H':Hp):Prop:=∀b o,H b=some o ->b≠p ->H' b=some o
theorem Exc.refl(p:Addr)(H:Hp):Exc p H H:=fun _ _ h _=>h
theorem Exc.trans{p:Addr}{H H1 H2:Hp}(a:Exc p H H1)(b:Exc p H1 H2):Exc p H H2:=fun c o h n=>b c o (a c o h n) n
theorem Exc.upd{p:Addr}{H:Hp}{o:HO}:Exc p H (L2.upd H p o):=fun b u e n=>by rw[C6 n];exact e
theorem Exc.of{p:Addr}{H H':Hp}(s:Same H H'):Exc p H H':=fun b o h _=>s b o h
noncomputable def Has (P:Program) (w:World) (K:Frag) (mg:Str ->Option Value) (base:Heap) (C:Addr) (m:Str) (k:Nat) (ps:List Str) (sp:Sp):Prop:=∃f fd,Meth K C m f/\FnOk P w K mg base (CX1 P w) k f fd ps sp/\Binds K fd ps []
theorem Z8v{us:List Value}(h:us.length=2):∃a b,us=[a,b]:=by
 obtain⟨a,t,rfl⟩:=List.exists_cons_of_length_eq_add_one h
 obtain⟨b,t,rfl⟩:=List.exists_cons_of_length_eq_add_one (Nat.succ.inj h)
 exact⟨a,b,by rw[List.eq_nil_of_length_eq_zero (Nat.succ.inj (Nat.succ.inj h))]⟩
theorem Y7p{us:List Value}(h:us.length=3):∃a b c,us=[a,b,c]:=by
 obtain⟨a,t,rfl⟩:=List.exists_cons_of_length_eq_add_one h
 obtain⟨b,c,e⟩:=Z8v (Nat.succ.inj h)
 exact⟨a,b,c,by rw[e]⟩
theorem Z3s{us:List Value}(h:us.length=4):∃a b c d,us=[a,b,c,d]:=by
 obtain⟨a,t,rfl⟩:=List.exists_cons_of_length_eq_add_one h
 obtain⟨b,c,d,e⟩:=Y7p (Nat.succ.inj h)
 exact⟨a,b,c,d,by rw[e]⟩
theorem Z8x{us:List Value}(h:us.length=5):∃a b c d e,us=[a,b,c,d,e]:=by
 obtain⟨a,t,rfl⟩:=List.exists_cons_of_length_eq_add_one h
 obtain⟨b,c,d,e,z⟩:=Z3s (Nat.succ.inj h)
 exact⟨a,b,c,d,e,by rw[z]⟩
theorem Y1s{us ds:List Value}{n:Nat}(h:(us++ds).length=n):us.length=n-ds.length:=by rw[List.length_append] at h;omega
end TR
namespace L2
open PySem PySem.Spec PyProof.Rows
section
variable{κ:Type} [DecidableEq κ]
noncomputable def B2p (kvs:List (κ×V)) (k:κ):Option V:=(kvs.find? fun kv=>decide (kv.1=k)).map (·.2)
noncomputable def A4f (kvs:List (κ×V)) (k:κ) (v:V):List (κ×V):=
 if(kvs.any fun kv=>decide (kv.1=k))=true then kvs.map (fun kv=>if kv.1=k then(kv.1,v) else kv) else kvs++ [(k,v)]
theorem C0f{p:κ×V}{r:List (κ×V)}{k:κ}(e:p.1=k):B2p (p::r) k=some p.2:=by simp[B2p,List.find?_cons,e]
theorem C0h{p:κ×V}{r:List (κ×V)}{k:κ}(e:¬p.1=k):B2p (p::r) k=B2p r k:=by simp[B2p,List.find?_cons,e]
theorem G0m(k:κ):∀kvs:List (κ×V),(kvs.any fun kv=>decide (kv.1=k))=(B2p kvs k).isSome
 | []=>rfl
 | p::r=>by
   rw[List.any_cons]
   by_cases e:p.1=k
   . simp only[C0f e,decide_eq_true e,Bool.true_or,Option.isSome_some]
   . rw[C0h e,decide_eq_false e,Bool.false_or];exact G0m k r
theorem A7u(kvs:List (κ×V))(k:κ)(v:V):(A4f kvs k v).length<=kvs.length+1:=by
 unfold A4f
 split
 . rw[List.length_map];omega
 . rw[List.length_append,List.length_cons,List.length_nil];omega
theorem RelO.isSome_eq{o:Option V}{u:Option Value}(r:RelO o u):o.isSome=u.isSome:=by
 cases o with
 | none=>cases u with
   |none=>rfl
   |some _=>exact(show False from r).elim
 | some _=>cases u with
   |none=>exact(show False from r).elim
   |some _=>rfl
theorem KV.val{kvs:List (κ×V)}{vs:List (κ×Value)}(r:KV kvs vs)(k:κ):RelO (B2p kvs k) (valueAt vs k):=by
 unfold KV at r
 induction r with
 |nil=>exact True.intro
 | @cons p q ps qs h t ih=>
   obtain⟨h1,h2⟩:=h
   by_cases e:p.1=k
   . have e':q.1=k:=h1.symm.trans e
     have b:valueAt (q::qs) k=some q.2:=by simp[valueAt,List.find?_cons,e']
     rw[C0f e,b];exact h2
   . have e':¬q.1=k:=fun z=>e (h1.trans z)
     have b:valueAt (q::qs) k=valueAt qs k:=by simp[valueAt,List.find?_cons,e']
     rw[C0h e,b];exact ih
theorem KV.any{kvs:List (κ×V)}{vs:List (κ×Value)}(r:KV kvs vs)(k:κ):(kvs.any fun kv=>decide (kv.1=k))=vs.any fun kv=>decide (kv.1=k):=by
 unfold KV at r
 induction r with
 |nil=>rfl
 |cons h t ih=>rw[List.any_cons,List.any_cons,ih,h.1]
theorem KV.repl{kvs:List (κ×V)}{vs:List (κ×Value)}(r:KV kvs vs)(k:κ){y:V}{u:Value}(ry:RelV y u):
   KV (kvs.map fun kv=>if kv.1=k then(kv.1,y) else kv) (vs.map fun kv=>if kv.1=k then(kv.1,u) else kv):=by
 unfold KV at r ⊢
 induction r with
 |nil=>exact .nil
 | @cons p q ps qs h t ih=>
   rw[List.map_cons,List.map_cons]
   refine .cons ?_ ih
   obtain⟨h1,h2⟩:=h
   by_cases e:p.1=k
   . rw[if_pos e,if_pos (h1.symm.trans e)];exact⟨h1,ry⟩
   . rw[if_neg e,if_neg (fun z=>e (h1.trans z))];exact⟨h1,h2⟩
theorem KV.put{kvs:List (κ×V)}{vs:List (κ×Value)}(r:KV kvs vs)(k:κ){y:V}{u:Value}(ry:RelV y u):KV (A4f kvs k y) (stored vs k u):=by
 unfold A4f stored
 rw[r.any k]
 by_cases e:(vs.any fun kv=>decide (kv.1=k))=true
 . rw[if_pos e,if_pos e];exact r.repl k ry
 . rw[if_neg e,if_neg e];exact Paired.snoc r ⟨rfl,ry⟩
theorem KV.length{kvs:List (κ×V)}{vs:List (κ×Value)}(r:KV kvs vs):kvs.length=vs.length:=Paired.length r
end
theorem J7h{P:Program}{w:World}{k:Key}{u:Value}(r:RelV (kV k) u):(Y1 P w).is k u=true:=by
 cases k with
 |inl i=>obtain⟨t,e⟩:=(show∃t,u=Value.int i t from r);subst e;exact G1a P w i t
 |inr x=>obtain⟨t,e⟩:=(show∃t,u=Value.str x t from r);subst e;exact G1f P w x t
theorem C9b{P:Program}{w:World}:∀{ks:List Key} {us:List Value},Vals (ks.map kV) us ->ItemsAre (Y1 P w) ks us
 | [],_,r=>by rw[List.map_nil] at r;cases r;exact .nil
 | k::ks,_,r=>by
   rw[List.map_cons] at r
   cases r with
   |cons h t=>exact .cons (J7h h) (C9b t)
noncomputable abbrev KT (H:Hp):List (List Key×V) ->List (List Key×Addr×Value) ->Prop:=Paired fun p q=>p.1=q.1/\H q.2.1=some (.tup (p.1.map kV))/\RelV p.2 q.2.2
theorem KT.val{H:Hp}{kvs:List (List Key×V)}{xs:List (List Key×Addr×Value)}(r:KT H kvs xs)(k:List Key):RelO (B2p kvs k) ((atKey xs k).map (·.2)):=by
 induction r with
 |nil=>exact True.intro
 | @cons p q ps qs h t ih=>
   obtain⟨h1,_,h2⟩:=h
   by_cases e:p.1=k
   . have e':q.1=k:=h1.symm.trans e
     have b:atKey (q::qs) k=some q.2:=by simp[atKey,List.find?_cons,e']
     rw[C0f e,b];exact h2
   . have e':¬q.1=k:=fun z=>e (h1.trans z)
     have b:atKey (q::qs) k=atKey qs k:=by simp[atKey,List.find?_cons,e']
     rw[C0h e,b];exact ih
theorem KT.repl{H:Hp}{kvs:List (List Key×V)}{xs:List (List Key×Addr×Value)}(r:KT H kvs xs)(k:List Key){y:V}{u:Value}(ry:RelV y u):
   KT H (kvs.map fun kv=>if kv.1=k then(kv.1,y) else kv) (xs.map (putAt k u)):=by
 induction r with
 |nil=>exact .nil
 | @cons p q ps qs h t ih=>
   rw[List.map_cons,List.map_cons]
   refine .cons ?_ ih
   obtain⟨h1,h2,h3⟩:=h
   unfold putAt
   by_cases e:p.1=k
   . rw[if_pos e,if_pos (h1.symm.trans e)];exact⟨h1,h2,ry⟩
   . rw[if_neg e,if_neg (fun z=>e (h1.trans z))];exact⟨h1,h2,h3⟩
theorem KT.put{H:Hp}{kvs:List (List Key×V)}{xs:List (List Key×Addr×Value)}(r:KT H kvs xs)(k:List Key){b:Addr}{y:V}{u:Value}(hb:H b=some (.tup (k.map kV)))(ry:RelV y u):
   KT H (A4f kvs k y) (storedH xs k b u):=by
 have e:(kvs.any fun kv=>decide (kv.1=k))=(atKey xs k).isSome:=by
   rw[G0m,(r.val k).isSome_eq,Option.isSome_map]
 unfold A4f storedH
 rw[e]
 by_cases q:(atKey xs k).isSome=true
 . rw[if_pos q,if_pos q];exact r.repl k ry
 . rw[if_neg q,if_neg q];exact Paired.snoc r ⟨rfl,hb,ry⟩
theorem KT.keeps{H H':Hp}{kvs:List (List Key×V)}{xs:List (List Key×Addr×Value)}(r:KT H kvs xs)(ht:∀b ys,H b=some (.tup ys) ->H' b=some (.tup ys)):KT H' kvs xs:=
 Paired.mapP r fun _ _ z=>⟨z.1,ht _ _ z.2.1,z.2.2⟩
section
variable{P:Program}{w:World}{H:Hp}{h:Heap}{a:Addr}
theorem Y6n{u:HO}(ok:HOk P w H h)(e:Rd H a u):ObjOk P w H h a u:=e.ok ok
theorem U5c{kvs:List (Key×V)}(ok:HOk P w H h)(e:Rd H a (.dK kvs)):kvs.length<=sizeLine/\(a==sysModules)=false/\∃vs,KV kvs vs/\h.DictOf (Y1 P w) a vs:=
 show ObjOk P w H h a (.dK kvs) from Y6n ok e
theorem Y7b{kvs:List (Key×V)}(ok:HOk P w H h)(e:H a=some (.dK kvs)):kvs.length<=sizeLine/\(a==sysModules)=false/\∃vs,KV kvs vs/\h.DictOf (Y1 P w) a vs:=U5c ok (.inl e)
theorem G6r{ks:List Key}(ok:HOk P w H h)(e:H a=some (.tup (ks.map kV))):(tupleKind (Y1 P w)).is h ks a:=by
 obtain⟨_,its,r,o,h1,h2,n,h3⟩:=(show ObjOk P w H h a (.tup (ks.map kV)) from ok a _ e)
 exact⟨o,its.toArray,n,h1,h2,h3,by simpa using C9b r⟩
theorem U6t{kvs:List (List Key×V)}(ok:HOk P w H h)(e:Rd H a (.dT kvs)):kvs.length<=sizeLine/\(a==sysModules)=false/\
   ∃xs,KT H kvs xs/\h.DictOfH (tupleKind (Y1 P w)) a xs:=by
 obtain⟨z,y,xs,r,o,es,ep,h1,h2,h3,h4,h5⟩:=(show ObjOk P w H h a (.dT kvs) from Y6n ok e)
 refine⟨z,y,xs,r,o,es,ep,h1,h2,h3,h4,fun x hx=>?_,h5⟩
 have all:∀{l:List (List Key×V)} {m:List (List Key×Addr×Value)},KT H l m ->∀x∈m,(tupleKind (Y1 P w)).is h x.1 x.2.1:=by
   intro l m q
   induction q with
   |nil=>intro x hx;exact nomatch hx
   | @cons p q ps qs hq t ih=>
     intro x hx
     rcases List.mem_cons.mp hx with e|hx
     . subst e
       exact G6r ok (by rw[<-hq.1];exact hq.2.1)
     . exact ih x hx
 exact all r x hx
theorem Z5r{kvs:List (List Key×V)}(ok:HOk P w H h)(e:H a=some (.dT kvs)):kvs.length<=sizeLine/\(a==sysModules)=false/\
   ∃xs,KT H kvs xs/\h.DictOfH (tupleKind (Y1 P w)) a xs:=U6t ok (.inl e)
end
noncomputable def DGet (H:Hp) (a:Addr) (y:V) (r:Option V):Prop:=
 (∃kvs k,Rd H a (.dK kvs)/\y=kV k/\r=B2p kvs k)\/∃kvs k b,Rd H a (.dT kvs)/\y= .ref b/\H b=some (.tup (k.map kV))/\r=B2p kvs k
noncomputable def DPut (H:Hp) (a:Addr) (y v:V) (H':Hp):Prop:=
 (∃kvs k,H a=some (.dK kvs)/\y=kV k/\kvs.length<sizeLine/\H'=upd H a (.dK (A4f kvs k v)))\/
 ∃kvs k b,H a=some (.dT kvs)/\y= .ref b/\H b=some (.tup (k.map kV))/\kvs.length<sizeLine/\H'=upd H a (.dT (A4f kvs k v))
theorem DGet.k{H:Hp}{a:Addr}{kvs:List (Key×V)}{k:Key}(e:H a=some (.dK kvs)):DGet H a (kV k) (B2p kvs k):= .inl ⟨kvs,k,.inl e,rfl,rfl⟩
theorem DPut.k{H:Hp}{a:Addr}{kvs:List (Key×V)}{k:Key}{v:V}(e:H a=some (.dK kvs))(hl:kvs.length<sizeLine):DPut H a (kV k) v (upd H a (.dK (A4f kvs k v))):= .inl ⟨kvs,k,e,rfl,hl,rfl⟩
section
variable{X:Cx}{pins:List (Addr×Obj)}{σ:St}{H:Hp}{s:Shared}{a:Addr}{y v:V}{u r:Value}{o:Option V}{A:Around}{E:Value ->Shared ->Prop}
theorem J8w{Q:Value ->Shared ->Prop}(hu:A.units+1<cLine)(I:Inv X pins σ H s)(g:DGet H a y (some v))(ry:RelV y u)(h:∀w' s',Inv X pins σ H s' ->RelV v w' ->Q w' s'):
   wpAny (model X.prog X.w) A (getItem (.ref a) u) Q E s:=by
 rcases g with⟨kvs,k,e,ey,l⟩|⟨kvs,k,b,e,ey,eb,l⟩
 . subst ey
   obtain⟨z,hd,vs,rel,dd⟩:=U5c I.hok e
   obtain⟨w',hw,rw'⟩:=RelO.some_of (v:=v) (o:=valueAt vs k) (by rw[l];exact rel.val k)
   exact wpAny_getItem_of (J7h ry) dd.mapOf hw (h w' _ (I.tok _) rw')
 . subst ey
   cases(show u=Value.ref b from ry)
   obtain⟨z,hd,xs,rel,dd⟩:=U6t I.hok e
   obtain⟨w',hw,rw'⟩:=RelO.some_of (v:=v) (o:=(atKey xs k).map (·.2)) (by rw[l];exact rel.val k)
   obtain⟨p,hp,hp2⟩:=Option.map_eq_some_iff.mp hw
   refine wpAny_getItem_heap (tupleKind_room_in1 hu) (G6r I.hok eb) dd hp ?_
   rw[hp2]
   exact h w' _ (I.tok _) rw'
theorem D1t{h':Heap}{t':Nat}{ob:HO}(I:Inv X pins σ H s)(mu:Mut (H a))(hs:Heap.SameBut a s.heap h')(he:∃q,h'.get? a=some q)(new:ObjOk X.prog X.w (upd H a ob) h' a ob):
   Inv X pins σ (upd H a ob) {s with heap:=h',toks:=t'}:=
 I.write (x:=a) (e:=a) mu (.inl rfl) (fun b q hb z=>(hs.2 b hb).trans z) he new
theorem U5s{P:Program}{w:World}{H':Hp}{h':Heap}{kvs:List (Key×V)}{vs:List (Key×Value)}(z:kvs.length<=sizeLine)(hd:(a==sysModules)=false)(rel:KV kvs vs)(dd:h'.DictOf (Y1 P w) a vs):
   ObjOk P w H' h' a (.dK kvs):=⟨z,hd,vs,rel,dd⟩
theorem J8p{H':Hp}{Q:Unit ->Shared ->Prop}(hu:A.units+1<cLine)(I:Inv X pins σ H s)(g:DPut H a y v H')(ry:RelV y u)(rv:RelV v r)(h:∀s',Inv X pins σ H' s' ->Q () s'):
   wpAny (model X.prog X.w) A (setItem (.ref a) u r) Q E s:=by
 rcases g with⟨kvs,k,e,ey,l,eH⟩|⟨kvs,k,b,e,ey,eb,l,eH⟩
 . subst ey eH
   obtain⟨z,hd,vs,rel,dd⟩:=Y7b I.hok e
   have hz:vs.length<=sizeLine:=by rw[<-rel.length];exact z
   have hl:(A4f kvs k v).length<=sizeLine:=by have:=A7u kvs k v;omega
   refine wpAny_setItem_pairs (hsz:=hz) (J7h ry) dd fun h' dd' hs=>h _ ?_
   have he:∃q,h'.get? a=some q:=let⟨q,_,_,hq,_⟩:=dd';⟨q,hq⟩
   exact D1t I (by rw[e];exact True.intro) hs he (U5s hl hd (rel.put k rv) dd')
 . subst ey eH
   cases(show u=Value.ref b from ry)
   obtain⟨z,hd,xs,rel,dd⟩:=Z5r I.hok e
   have hz:xs.length<=sizeLine:=by rw[<-Paired.length rel];exact z
   have hl:(A4f kvs k v).length<=sizeLine:=by have:=A7u kvs k v;omega
   refine wpAny_setItem_heap (hsz:=hz) (tupleKind_room_in1 hu) (G6r I.hok eb) dd fun h' dd' hs=>h _ ?_
   obtain⟨q,es,ep,hq,h2,h3,h4,_,h5⟩:=dd'
   refine D1t I (by rw[e];exact True.intro) hs ⟨q,hq⟩ ⟨hl,hd,_,(rel.put k eb rv).keeps fun c ys ec=>?_,q,es,ep,hq,h2,h3,h4,h5⟩
   rw[C6 (U6 ec e (fun z=>nomatch z))]
   exact ec
end
section
variable{X:Cx}{pins:List (Addr×Obj)}{σ:St}{H:Hp}{s:Shared}{a:Addr}{kvs:List (Key×V)}{k:Key}{u:Value}{A:Around}{E:Value ->Shared ->Prop}
end
noncomputable def Z3d (i:Expr):Prop:=∀ov iv,subscripted i false ov iv=operate [ov,iv] (getItem ov iv)
theorem Y0t{prog:Program}{w:World}{A:Around}{E:Value ->Shared ->Prop}{s:Shared}{env:Env}{value slice:Expr}{pos:Pos}{T id:String}{Q:Value ->Shared ->Prop}
   (hl:typeLookup (.type T) "__getitem__"=pure (some (.builtin id))) (hs:Z3d slice)
   (h:wpAny (model prog w) A (eval value env) (fun o s₁=>wpAny (model prog w) A (eval slice env) (fun i s₂=>s₂.TypeIs o T/\wpAny (model prog w) A (getItem o i) Q E s₂) E s₁) E s):
   wpAny (model prog w) A (eval (.Subscript value slice pos) env) Q E s:=by
 refine Subscript_ (wpAny_mono h (fun o s₁ h₁=>wpAny_mono h₁ (fun i s₂ h₂=>?_) fun _ _ x=>x) fun _ _ x=>x)
 obtain⟨hT,h₂⟩:=h₂
 unfold subscriptTail
 refine wpAny_bind ?_
 rw[getitemInPython_of_ne hT.not_modules]
 refine wpAny_bind (wpAny_specialOf hT hl ?_)
 have fin:wpAny (model prog w) A (subscripted slice false o i) (fun r s₃=>wpAny (model prog w) A (letTemporaryGo value o r>>=fun _=>pure r) Q E s₃) E s₂:=by
   rw[hs o i]
   exact wpAny_operating (wpAny_mono h₂ (fun r s₃ h₃=>wpAny_bind (wpAny_letTemporaryGo (wpAny_pure h₃))) fun _ _ x=>x)
 first
   |exact wpAny_pure (wpAny_bind fin)
   |exact wpAny_bind (wpAny_pure (wpAny_bind fin))
   |exact wpAny_bind fin
theorem G1c{X:Cx}{pins:List (Addr×Obj)}{σ:St}{H:Hp}{s:Shared}{a:Addr}{y:V}{o:Option V}(I:Inv X pins σ H s)(g:DGet H a y o):s.TypeIs (.ref a) "dict":=by
 rcases g with⟨kvs,k,e,_,_⟩|⟨kvs,k,b,e,_,_,_⟩
 . obtain⟨_,_,vs,_,dd⟩:=U5c I.hok e
   exact dd.typeIs
 . obtain⟨_,_,xs,_,dd⟩:=U6t I.hok e
   exact dd.typeIs
noncomputable def Z4h (td ty:TE):TE:=fun σ H Q=>td σ H fun x H1=>ty σ H1 fun y H2=>∃a v,x= .ref a/\DGet H2 a y (some v)/\Q v H2
noncomputable def Z3c (td ty tv:TE):TS:=fun D σ H=>tv σ H fun v H1=>td σ H1 fun x H2=>ty σ H2 fun y H3=>∃a H4,x= .ref a/\DPut H3 a y v H4/\D.nx σ H4
section
variable{X:Cx}{o i e value:Expr}{pos pos' tpos:Pos}{td ty tv:TE}
theorem B4k(hu:X.A.units+1<cLine)(ho:PE X o td)(hi:PE X i ty)(hs:Z3d i):PE X (.Subscript o i pos) (Z4h td ty):=by
 intro pins s σ H Q I h
 refine Y0t PySem.F.slot_dict_getitem.lookup hs (thn (ho pins s σ H _ I h) fun u s1 ⟨x,H1,I1,rx,q1⟩=>thn (hi pins s1 σ H1 _ I1 q1) fun iv s2 hh_=>?_)
 obtain⟨y,H2,I2,ry,a,v,ex,g,q2⟩:=hh_
 subst ex
 obtain rfl:u=Value.ref a:=rx
 exact⟨G1c I2 g,J8w hu I2 g ry fun w' s3 I3 rw'=>⟨v,H2,I3,rw',q2⟩⟩
theorem D0w(hu:X.A.units+1<cLine)(ho:PE X o td)(hi:PE X i ty)(hv:PE X value tv)(hs:swapsWith value (some (.Subscript o i pos')) pos.line X.env=pure false):
   PS X (.Assign [.Subscript o i pos'] value pos) (Z3c td ty tv):=by
 intro pins s σ H D I h
 refine wpAny_Assign_Subscript (thn (hv pins s σ H _ I h) fun r s1 ⟨v,H1,I1,rv,q1⟩=>thn (ho pins s1 σ H1 _ I1 q1) fun u s2 ⟨x,H2,I2,rx,q2⟩=>thn (hi pins s2 σ H2 _ I2 q2) fun iv s3 hh_=>?_) hs
 obtain⟨y,H3,I3,ry,a,H4,ex,g,q3⟩:=hh_
 subst ex
 obtain rfl:u=Value.ref a:=rx
 exact J8p hu I3 g ry rv fun s4 I4=>⟨σ,H4,I4,q3⟩
end
section
variable{X:Cx}{pos:Pos}
end
noncomputable def G6u:List (TE×TE) ->St ->Hp ->(List (V×V) ->Hp ->Prop) ->Prop
 | [],_,H,Q=>Q [] H
 |(tk,tv)::r,σ,H,Q=>tk σ H fun x H1=>tv σ H1 fun y H2=>G6u r σ H2 fun ps H3=>Q ((x,y)::ps) H3
noncomputable abbrev VV:List (V×V) ->List (Value×Value) ->Prop:=Paired fun p q=>RelV p.1 q.1/\RelV p.2 q.2
noncomputable def PPs (X:Cx) (pos:Pos) (keys:List (Option Expr)) (values:List Expr) (trs:List (TE×TE)):Prop:=
 ∀ (pins:List (Addr×Obj)) (s:Shared) (σ:St) (H:Hp) (Q:List (V×V) ->Hp ->Prop),Inv X pins σ H s ->G6u trs σ H Q ->
   wpAny (model X.prog X.w) X.A (evalPairs (pairTrees keys values X.env pos)) (fun vs s'=>∃ps H',Inv X pins σ H' s'/\VV ps vs/\Q ps H') X.xe s
theorem Y2v{X:Cx}{pos:Pos}:PPs X pos [] [] []:=fun pins s σ H Q I h=>pairTrees_nil_walk ⟨[],H,I,.nil,h⟩
theorem G1k{X:Cx}{pos:Pos}{k v:Expr}{ks:List (Option Expr)}{vs:List Expr}{tk tv:TE}{trs:List (TE×TE)}(hk:PE X k tk)(hv:PE X v tv)(hr:PPs X pos ks vs trs):
   PPs X pos (some k::ks) (v::vs) ((tk,tv)::trs):=fun pins s σ H Q I h=>
 pairTrees_cons_walk (thn (hk pins s σ H _ I h) fun u s1 ⟨x,H1,I1,rx,q1⟩=>thn (hv pins s1 σ H1 _ I1 q1) fun w2 s2 ⟨y,H2,I2,ry,q2⟩=>
   thn (hr pins s2 σ H2 _ I2 q2) fun ws s3 ⟨ps,H3,I3,rel,q3⟩=>⟨(x,y)::ps,H3,I3,.cons ⟨rx,ry⟩ rel,q3⟩)
noncomputable def B2u (kvs more:List (Key×V)):List (Key×V):=more.foldl (fun acc kv=>A4f acc kv.1 kv.2) kvs
theorem KV.merge:∀{more:List (Key×V)} {rs:List (Key×Value)} {kvs:List (Key×V)} {vs:List (Key×Value)},KV more rs ->KV kvs vs ->KV (B2u kvs more) (merged vs rs):=by
 intro more rs kvs vs r
 unfold KV at r
 induction r generalizing kvs vs with
 |nil=>intro q;exact q
 | @cons p q ps qs h t ih=>
   intro r0
   have e:KV (A4f kvs p.1 p.2) (stored vs q.1 q.2):=by
     have:=r0.put p.1 h.2
     rw[<-h.1];exact this
   exact ih e
theorem B2b:∀(more kvs:List (Key×V)),(B2u kvs more).length<=kvs.length+more.length
 | [],kvs=>by show kvs.length<=kvs.length+0;omega
 | p::r,kvs=>by
   have h1:=B2b r (A4f kvs p.1 p.2)
   have h2:=A7u kvs p.1 p.2
   show(B2u (A4f kvs p.1 p.2) r).length<=_
   rw[List.length_cons];omega
theorem C1h{P:Program}{w:World}:∀{kvs:List (Key×V)} {ws:List (Value×Value)},VV (kvs.map fun kv=>(kV kv.1,kv.2)) ws ->∃rs,Carries (Y1 P w) ws rs/\KV kvs rs
 | [],_,r=>by rw[List.map_nil] at r;cases r;exact⟨[],True.intro,.nil⟩
 | p ::kvs,_,r=>by
   rw[List.map_cons] at r
   cases r with
   | @cons a b as bs h t=>
     obtain⟨rs,c,q⟩:=C1h (P:=P) (w:=w) t
     obtain⟨b1,b2⟩:=b
     exact⟨(p.1,b2)::rs,⟨J7h h.1,rfl,c⟩,.cons ⟨rfl,h.2⟩ q⟩
noncomputable def Z3y (trs:List (TE×TE)):TE:=fun σ H Q=>∀p,H p=none ->G6u trs σ (upd H p (.dK [])) fun ps H2=>H2 p=some (.dK [])/\∃kvs:List (Key×V),ps=kvs.map (fun kv=>(kV kv.1,kv.2))/\kvs.length<=15/\Q (.ref p) (upd H2 p (.dK (B2u [] kvs)))
theorem Y1m{X:Cx}{pos:Pos}{keys:List (Option Expr)}{values:List Expr}{trs:List (TE×TE)}(h:PPs X pos keys values trs)(hall:keys.all (·.isSome)=true)(hl:keys.length=values.length)(h0:keys≠ [])
   (h15:keys.length<=15):PE X (.Dict keys values pos) (Z3y trs):=by
 intro pins s σ H Q I q
 have hn:=I.hok.fresh (Nat.le_refl s.heap.objs.size)
 have I1:=I.laid (a:=s.heap.objs.size) (o:= .dK []) (h':=s.heap.push {cls:= .type "dict",data:= .dict #[]}) (t':=s.toks) (fun _ _ q=>Heap.get?_push_of_some _ q) (Nat.le_refl _) (U7b s.heap I.big)
 refine wpAny_Dict_walk (knd:=Y1 X.prog X.w) hall hl h0 h15 (thn (h pins _ σ _ _ I1 (q _ hn)) fun ws s2 hh_=>?_)
 obtain⟨ps,H2,I2,rel,e,kvs,ep,lk,q2⟩:=hh_
 subst ep
 obtain⟨rs,c,rk⟩:=C1h (P:=X.prog) (w:=X.w) rel
 obtain⟨z,hd,vs0,r0,dd⟩:=Y7b I2.hok e
 cases r0
 refine⟨rs,c,dd,fun h' dd' hs=>⟨.ref s.heap.objs.size,_,?_,rfl,q2⟩⟩
 have hz:(B2u [] kvs).length<=sizeLine:=by
   have h1:=B2b kvs []
   rw[List.length_nil] at h1
   rw[sizeLine_eq];omega
 have he:∃q,h'.get? s.heap.objs.size=some q:=let⟨q,_,_,hq,_⟩:=dd';⟨q,hq⟩
 exact D1t I2 (by rw[e];exact True.intro) hs he (U5s hz hd (rk.merge .nil) dd')
end L2
namespace L2
open PySem PySem.Spec PyProof.Rows PySem.W
noncomputable def A3y (F:List Str) (env:Env):List (Str×Addr):=F.map fun x=>(x,(env.cells.lookup x).getD 0)
noncomputable def B2q (js:List Nat) (σ:St):St:=js.map fun j=>(σ[j]?).getD none
noncomputable abbrev Cx.compF (X:Cx) (scope:Scope) (N F:List Str) (C:Addr) (s₀:Shared) (H₀:Hp) (ex:List Addr) (pins:List (Addr×Obj)):Cx:=
 {X with N:=N++F,s₀:=s₀,H₀:=H₀,env:=compEnvC scope (A3y F X.env) C X.env,outer:=X.stack,ex:=ex,fn:=fun _=>false,pn:=pins,xe:=fun _ _=>False}
structure CompScopeF(N F:List Str)(js:List Nat)(sc:Scope)(XN:List Str)(env:Env):Prop where
 kind:sc.kind= .function
 cell:∀y∈sc.names,y.2≠ .cell
 loc:∀y∈sc.names,y.2= .local ->sc.names.lookup y.1=some .local
 nd:(N++F).Nodup
 clos:closureFor sc env=pure (A3y F env)
 fr:∀y∈(relabel sc env).names,y.2= .cell\/y.2= .free ->y.1∈F
 at_:∀(k:Nat) (x:Str),F[k]?=some x ->(∃j:Nat,js[k]?=some j/\XN[j]?=some x)/\(∃c,env.cells.lookup x=some c)/\env.kindOf x=some .cell/\(relabel sc env).names.lookup x=some .cell
 jl:js.length=F.length
noncomputable def D0t (n:Nat) (js:List Nat) (wi:TI) (g:TG) (tc:TT) (te:TE):TE:=fun σ H Q=>wi σ H fun J H1=>∀D,H1 D=none ->
 ∃ (m:Nat) (W:Nat ->List V ->Hp ->Prop),W 0 [] (upd H1 D (.lst []))/\∀i ys H2,W i ys H2 ->i<=m/\H2 D=some (.lst ys)/\((J.stop i H2/\Q (.ref D) H2)\/(i<m/\J.go i H2/\∀x H3,J.yld i H2 x H3 ->
   g x (List.replicate n none++B2q js σ) H3 fun σ4 H4=>tc σ4 H4 fun b H5=>if b=true then te σ4 H5 fun y H6=>H6 D=some (.lst ys)/\ys.length<sizeLine/\W (i+1) (ys++ [y]) (upd H6 D (.lst (ys++ [y]))) else W (i+1) ys H5))
noncomputable def J6d (n:Nat) (js:List Nat) (wi:TI) (g:TG) (te:TE):TE:=fun σ H Q=>wi σ H fun J H1=>∀D,H1 D=none ->
 ∃ (m:Nat) (W:Nat ->List V ->Hp ->Prop),W 0 [] (upd H1 D (.lst []))/\∀i ys H2,W i ys H2 ->i<=m/\H2 D=some (.lst ys)/\((J.stop i H2/\Q (.ref D) H2)\/(i<m/\J.go i H2/\∀x H3,J.yld i H2 x H3 ->
   g x (List.replicate n none++B2q js σ) H3 fun σ4 H4=>te σ4 H4 fun y H6=>H6 D=some (.lst ys)/\ys.length<sizeLine/\W (i+1) (ys++ [y]) (upd H6 D (.lst (ys++ [y])))))
theorem Y7q{F:List Str}{env:Env}{x:Str}{c:Addr}(h:(A3y F env).lookup x=some c):x∈F/\c=(env.cells.lookup x).getD 0:=by
 have:=PySem.mem_of_lookup h
 obtain⟨y,hy,e⟩:=List.mem_map.mp this
 cases e
 exact⟨hy,rfl⟩
theorem U7z{env:Env}{x:Str}:∀{F:List Str},x∈F ->(A3y F env).lookup x=some ((env.cells.lookup x).getD 0)
 | y ::F,h=>by
   show List.lookup x ((y,(env.cells.lookup y).getD 0)::A3y F env)=_
   by_cases e:x=y
   . subst e;simp[List.lookup]
   . have hb:(x==y)=false:=beq_eq_false_iff_ne.mpr e
     rw[List.lookup_cons,hb]
     exact U7z (by rcases List.mem_cons.mp h with z|z;exact absurd z e;exact z)
section
variable{X:Cx}{N F:List Str}{js:List Nat}{scope:Scope}
theorem CompScopeF.sub(S:CompScopeF N F js scope X.N X.env):∀x c,(A3y F X.env).lookup x=some c ->X.env.cells.lookup x=some c:=fun x c z=>by
 obtain⟨hx,rfl⟩:=Y7q z
 obtain⟨k,hk⟩:=List.mem_iff_getElem?.mp hx
 obtain⟨_,⟨c,hc⟩,_⟩:=S.at_ k x hk
 rw[hc];rfl
theorem CompScopeF.has(S:CompScopeF N F js scope X.N X.env){x:Str}(hx:x∈F):∃c,(A3y F X.env).lookup x=some c/\X.env.cells.lookup x=some c:=
 ⟨_,U7z hx,S.sub _ _ (U7z hx)⟩
theorem C9f{pins:List (Addr×Obj)}{σ:St}{H:Hp}{s:Shared}(S:CompScopeF N F js scope X.N X.env)(I:Inv X pins σ H s){h':Heap}{m:Str ->Option Value}{C:Addr}(hc:∀x c v,X.env.cells.lookup x=some c ->s.heap.IsCell c v ->h'.IsCell c v):
   ∀(i:Nat) (x:Str) (v:V),(N++F)[i]?=some x ->(List.replicate N.length none++B2q js σ)[i]?=some (some v) ->∃u,RelV v u/\Z5m (compEnvC scope (A3y F X.env) C X.env) h' m x u:=by
 intro i x v e1 e2
 by_cases hi:i<N.length
 . rw[List.getElem?_append_left (by simpa using hi),List.getElem?_replicate] at e2
   split at e2<;>cases e2
 . rw[List.getElem?_append_right (by omega)] at e1
   rw[List.getElem?_append_right (by simp;omega)] at e2
   rw[List.length_replicate] at e2
   obtain⟨⟨j,hj,hx⟩,⟨c,hcc⟩,kx,kr⟩:=S.at_ _ x e1
   unfold B2q at e2
   rw[List.getElem?_map,hj] at e2
   have e2:(σ[j]?).getD none=some v:=Option.some.inj e2
   have e3:σ[j]?=some (some v):=by
     cases q:σ[j]? with
     |none=>rw[q] at e2;cases e2
     |some o=>rw[q] at e2;exact congrArg some e2
   obtain⟨m0,_,hl⟩:=I.loc
   obtain⟨u,r,l⟩:=hl j x v hx e3 (.inr (.inl kx))
   refine⟨u,r,.inr ⟨.inl kr,c,?_,?_⟩⟩
   . obtain⟨c',h1,h2⟩:=S.has (List.mem_of_getElem? e1)
     rw[hcc] at h2
     cases h2
     exact h1
   . rcases l with⟨k,_⟩|⟨_,c',h1,h2⟩
     . rw[kx] at k;cases k
     . rw[hcc] at h1
       cases h1
       exact hc x c _ hcc h2
theorem U6a(S:CompScopeF N F js scope X.N X.env)(σ:St):(List.replicate N.length none++B2q js σ:St).length=(N++F).length:=by
 unfold B2q
 rw[List.length_append,List.length_replicate,List.length_map,S.jl,List.length_append]
end
structure CompS(N F:List Str)(sc:Scope):Prop where
 kind:sc.kind= .function
 cell:∀y∈sc.names,y.2≠ .cell
 loc:∀y∈sc.names,y.2= .local ->sc.names.lookup y.1=some .local
 fr:∀y∈sc.names,y.2= .free ->y.1∈F
 nd:(N++F).Nodup
theorem B2w{sc:Scope}{env:Env}{F:List Str}(cell:∀y∈sc.names,y.2≠ .cell)(fr:∀y∈sc.names,y.2= .free ->y.1∈F):∀y∈(relabel sc env).names,y.2= .cell\/y.2= .free ->y.1∈F:=by
 intro y hy h
 obtain⟨⟨n,k⟩,hm,e⟩:=List.mem_map.mp hy
 dsimp only at e
 split at e
 . rename_i hc
   subst e
   simp only[Bool.and_eq_true] at hc
   exact fr (n,k) hm (by simpa using hc.1.1)
 . subst e
   rcases h with h|h
   . exact absurd h (cell (n,k) hm)
   . exact fr (n,k) hm h
theorem CompScopeF.of1{N:List Str}{x:Str}{j:Nat}{sc:Scope}{XN:List Str}{env:Env}(S:CompS N [x] sc)(clos:closureFor sc env=pure (A3y [x] env))(hj:XN[j]?=some x)(hc:∃c,env.cells.lookup x=some c)(hk:env.kindOf x=some .cell)
   (hr:(relabel sc env).names.lookup x=some .cell):CompScopeF N [x] [j] sc XN env:=
 ⟨S.kind,S.cell,S.loc,S.nd,clos,B2w S.cell S.fr,fun k y h=>match k,h with
   |0,h=>by cases h;exact⟨⟨j,rfl,hj⟩,hc,hk,hr⟩
   |k+1,h=>by simp at h,rfl⟩
theorem CompScopeF.of2{N:List Str}{x y:Str}{j k:Nat}{sc:Scope}{XN:List Str}{env:Env}(S:CompS N [x,y] sc)(clos:closureFor sc env=pure (A3y [x,y] env))(hj:XN[j]?=some x)(hc:∃c,env.cells.lookup x=some c)(hk:env.kindOf x=some .cell)
   (hr:(relabel sc env).names.lookup x=some .cell) (hj':XN[k]?=some y) (hc':∃c,env.cells.lookup y=some c) (hk':env.kindOf y=some .cell) (hr':(relabel sc env).names.lookup y=some .cell):CompScopeF N [x,y] [j,k] sc XN env:=
 ⟨S.kind,S.cell,S.loc,S.nd,clos,B2w S.cell S.fr,fun i z h=>match i,h with
   |0,h=>by cases h;exact⟨⟨j,rfl,hj⟩,hc,hk,hr⟩
   |1,h=>by cases h;exact⟨⟨k,rfl,hj'⟩,hc',hk',hr'⟩
   |i+2,h=>by simp at h,rfl⟩
theorem A1a(z:Str):∀zs:List Str,inV (.str z) (zs.map V.str)=zs.contains z
 | []=>rfl
 | y::zs=>by
   show(eqV (.str y) (.str z)||inV (.str z) (zs.map V.str))=_
   rw[A1a z zs,List.contains_cons]
   show((y==z)||_)=_
   rw[BEq.comm]
theorem flat_strs:∀zs:List Str,(zs.map V.str).all B2c=true
 | []=>rfl
 |_::zs=>flat_strs zs
theorem U7s{K:Frag}{H:Hp}{σ σf:L2.St}{a:Addr}{zs:List Str}{f:Str ->Bool}{tc:TT}{te:TE}{Q:VK}(hl:∀H,SqT K H a (zs.map V.str))(hz:zs.length<=100)
   (ht:∀(z:Str) (H':Hp) (Qb:Bool ->Hp ->Prop),Same H H' ->Qb (f z) H' ->tc (some (.str z)::σf) H' Qb) (he:∀(z:Str) (H':Hp) (Qv:VK),Qv (.str z) H' ->te (some (.str z)::σf) H' Qv)
   (k:∀D H',Same H H' ->H D=none ->H' D=some (.lst ((zs.filter f).map V.str)) ->Q (.ref D) H') {js:List Nat} (hj:B2q js σ=σf):D0t 1 js (Z4b K (tC (.ref a))) (J6f 0) tc te σ H Q:=by
 refine⟨a,rfl,⟨_,hl H⟩,fun D hD=>⟨zs.length,fun i ys H2=>i<=zs.length/\ys=((zs.take i).filter f).map V.str/\H2=upd H D (.lst ys),⟨Nat.zero_le _,rfl,rfl⟩,?_⟩⟩
 rintro i ys H2 ⟨hi,rfl,rfl⟩
 refine⟨hi,A6,?_⟩
 have sm:Same H (upd H D (.lst (((zs.take i).filter f).map V.str))):=Same.upd hD
 have lz:(((zs.take i).filter f).map V.str).length<=100:=by
   rw[List.length_map]
   exact Nat.le_trans (List.length_filter_le _ _) (by rw[List.length_take];omega)
 by_cases hlt:i<zs.length
 . refine .inr ⟨hlt,⟨_,V.str zs[i],hl _,by simp[hlt]⟩,fun x H3 y=>?_⟩
   obtain⟨rfl,y⟩:=y
   have ex:x=V.str zs[i]:=by
     have:=y _ (hl _)
     simp[hlt] at this
     exact this.symm
   subst ex
   rw[hj]
   show tc (some (.str zs[i])::σf) _ _
   refine ht _ _ _ sm ?_
   have et:(zs.take (i+1)).filter f=(zs.take i).filter f++(if f zs[i] then [zs[i]] else []):=by
     rw[List.take_succ_eq_append_getElem hlt,List.filter_append]
     congr 1
     cases hb:f zs[i]<;>simp[hb]
   cases hb:f zs[i] with
   | false=>
     refine U1 ⟨hlt,?_,rfl⟩
     rw[et,hb];simp
   | true=>
     refine Y6 (he _ _ _ ⟨A6,Nat.lt_of_le_of_lt lz (Y5 (by decide)),hlt,?_,?_⟩)
     . rw[et,hb];simp
     . rw[Y2q]
 . have e:i=zs.length:=by omega
   subst e
   refine .inl ⟨⟨_,hl _,by simp⟩,k D _ sm hD ?_⟩
   rw[List.take_length]
   exact A6
end L2
namespace L2
open PySem
section
variable{prog:Program}{w:World}{A:Around}{E:Value ->Shared ->Prop}{h:Heap}{g:Array GenState}{d:Drawn}{t:Nat}{os:OsState}
variable{nm q:Str}{C N:Addr}{bs bm bmB:List Value}{hdct:Bool}{sn:List Str}{sub:List Value}{ab:Bool}{col:Option Bool}{dd:Option Addr}{k0 k1 k2 k3 k5:Option Value}{B newId initId:String}
theorem B2a(F:ExcBaseFacts B newId initId bmB)(T:OwnTail h bmB bm){mN:Str ->Option Value}{rest:List Value}{fI:Addr}{oI:Obj}{Q:Fin ->Shared ->Prop}
   (hC:h.get? C=some (excClassObj nm q C N bs bm hdct sn sub ab col dd k0 k1 k2 k3 k5 newId)) (hn:h.Ns N mN) (hi:mN "__init__"=some (.ref fI))
   (hfI:h.get? fI=some oI) (hfc:oI.cls= .type "function")
   (hq:∀h' e,Heap.MadeExcOf h h' e (.ref C) rest ->
     wpAny (model prog w) A (call (.ref fI) (.ref e::rest)) (fun r s'=>r= .none/\Q (.done (.ret (.ref e))) s') E ⟨h',g,d,t,os⟩) (hrest:rest.length<=sizeLine):
   wpAny (model prog w) A (Builtin.«type.__call__» ⟨.ref C :: rest, []⟩) Q E ⟨h, g, d, t, os⟩ := by
 repeat (first|with_reducible refine wpAny_loadPart_at hC ?_|with_reducible refine wpAny_madeBy_exc hC ?_|wp_step)
 refine codeAny_call_builtin_code (Code.quiet_builtin _ F.quiet) (wpAny_check_new_subT F T hC ?_)
 refine codeAny_exc_new_subT F T hC ?_ hrest
 show wpAny _ _ _ _ _ _
 have hC₁:=Heap.get?_push_of_some {cls:= .ref C,data:= .fields #[.ref h.objs.size,.none,.none,.none,.bool false,.none]}
   (Heap.get?_push_of_some {cls:= .type "tuple",data:= .seq rest.toArray} hC)
 have hfI₁:=Heap.get?_push_of_some {cls:= .ref C,data:= .fields #[.ref h.objs.size,.none,.none,.none,.bool false,.none]}
   (Heap.get?_push_of_some {cls:= .type "tuple",data:= .seq rest.toArray} hfI)
 have hn₁:((h.push {cls:= .type "tuple",data:= .seq rest.toArray}).push {cls:= .ref C,data:= .fields #[.ref h.objs.size,.none,.none,.none,.bool false,.none]}).Ns N mN:=
   let⟨o,es,ep,e,r⟩:=hn;⟨o,es,ep,Heap.get?_push_of_some _ (Heap.get?_push_of_some _ e),r⟩
 have hget:((h.push {cls:= .type "tuple",data:= .seq rest.toArray}).push
     {cls:= .ref C,data:= .fields #[.ref h.objs.size,.none,.none,.none,.bool false,.none]}).get? (h.objs.size+1)=some
     {cls:= .ref C,data:= .fields #[.ref h.objs.size,.none,.none,.none,.bool false,.none]}:=by heap_get
 have hcC:(Value.ref C::bm).contains (.ref C)=true:=by simp
 have T₁:=T.keeps (h':=(h.push {cls:= .type "tuple",data:= .seq rest.toArray}).push {cls:= .ref C,data:= .fields #[.ref h.objs.size,.none,.none,.none,.bool false,.none]})
   fun b o e=>Heap.get?_push_of_some _ (Heap.get?_push_of_some _ e)
 unfold isInstance
 repeat (first|with_reducible refine wpAny_loadPart_at hget ?_|(with_reducible refine wpAny_isSubtype_exc hC₁ ?_;rw[hcC])|wp_step)
 show wpAny _ _ (typeLookup (.ref C) _) _ _ _
 refine wpAny_typeLookup_tail hC₁ hn₁ T₁ F.mroIs F.init.lookup ?_
 rw[hi]
 refine wpAny_holding (wpAny_bind ?_)
 unfold bindSpecial
 refine wpAny_bind (wpAny_typeOf (T:="function") ⟨_,hfI₁,hfc⟩ ?_)
 rw[if_pos (by decide)]
 refine wpAny_pure (wpAny_bind (wpAny_mono (hq _ (h.objs.size+1) ⟨fun b o hb=>Heap.get?_push_of_some _ (Heap.get?_push_of_some _ hb),Heap.get?_none_of_le (Nat.le_succ _),h.objs.size,hget,Heap.get?_none_of_le (Nat.le_refl _),?_⟩) (fun r s' hr=>?_) fun _ _ x=>x))
 . exact Heap.get?_push_of_some _ (Heap.get?_push_at rfl rfl)
 . obtain⟨rfl,hQ⟩:=hr
   wp_walk
   exact hQ
theorem C1m(F:ExcBaseFacts B newId initId bmB)(T:OwnTail h bmB bm){mN:Str ->Option Value}{rest:List Value}{fI:Addr}{oI:Obj}{Q:Value ->Shared ->Prop}
   (hC:h.get? C=some (excClassObj nm q C N bs bm hdct sn sub ab col dd k0 k1 k2 k3 k5 newId)) (hn:h.Ns N mN) (hi:mN "__init__"=some (.ref fI))
   (hfI:h.get? fI=some oI) (hfc:oI.cls= .type "function")
   (hq:∀h' e,Heap.MadeExcOf h h' e (.ref C) rest ->
     wpAny (model prog w) (A.under (.builtin "type.__call__" ⟨.ref C::rest,[]⟩)) (call (.ref fI) (.ref e::rest)) (fun r s'=>r= .none/\Q (.ref e) s') E ⟨h',g,d,t,os⟩) (hrest:rest.length<=sizeLine):
   wpAny (model prog w) A (call (.ref C) rest) Q E ⟨h,g,d,t,os⟩:=by
 have f1:=tc_lookup
 have f2:=tc_bind (.ref C)
 have hT:(⟨h,g,d,t,os⟩:Shared).TypeIs (.ref C) "type":=⟨_,hC,rfl⟩
 refine wpAny_call (codeAny_of_tree ?_)
 show wpAny _ _ (callAny (.ref C) _) _ _ _
 repeat (any_goals (first|assumption|with_reducible refine wpAny_loadPart_at hC ?_|wp_step))
 refine⟨rfl,?_⟩
 refine codeAny_call_builtin_at (Code.quiet_builtin _ (by decide+kernel)) entry_typeCall (wpAny_check_type_call_sub hC (B2a (hrest:=hrest) F T hC hn hi hfI hfc fun h' e hm=>?_))
 exact hq h' e hm
end
section
variable{M:Model}{prog:Program}{w:World}{A:Around}{E:Value ->Shared ->Prop}{s:Shared}{env:Env}
variable{nm q:Str}{C N:Addr}{bs bm bmB:List Value}{hdct:Bool}{sn:List Str}{sub:List Value}{ab:Bool}{col:Option Bool}{dd:Option Addr}{k0 k1 k2 k3 k5:Option Value}{B newId initId:String}
theorem A7y{x:Sem Value}{Q:Flow ->Shared ->Prop}(hbase:bm.contains (.type "BaseException")=true)(hh:A.handled=none)
   (h:wpAny M A x (fun v s₁=>∃e t de,v= .ref e/\s₁.heap.get? C=some (excClassObj nm q C N bs bm hdct sn sub ab col dd k0 k1 k2 k3 k5 newId)/\
     s₁.heap.get? e=some {cls:= .ref C,dict:=de,data:= .fields #[.ref t,.none,.none,.none,.bool false,.none]}/\E (.ref e) s₁) E s):
   wpAny M A (raiseStmt env (some x) none) Q E s:=by
 have hcB:(Value.ref C::bm).contains (.type "BaseException")=true:=by rw[List.contains_cons,hbase,Bool.or_true]
 unfold raiseStmt
 refine wpAny_bind (wpAny_mono h (fun v s₁ h₁=>?_) fun _ _ x=>x)
 obtain⟨e,t,de,rfl,hC,he,hE⟩:=h₁
 obtain⟨hp,g,d,tk,os⟩:=s₁
 repeat (first|with_reducible refine wpAny_loadPart_at he ?_|with_reducible refine wpAny_loadPart_at hC ?_|(with_reducible refine wpAny_isSubtype_exc hC ?_;rw[hcB])|wp_step)
 exact wpAny_raiseNew_none hh hE
theorem B5s(F:ExcBaseFacts B newId initId bmB){mN:Str ->Option Value}{x:Str}{np cpos pos:Pos}{args:List Expr}{Q:Flow ->Shared ->Prop}{fI:Addr}{oI:Obj}
   (hbase:bm.contains (.type "BaseException")=true) (hh:A.handled=none) (hplain:(backTo cpos (starEach args env)).any (·.1)=false) (hi:mN "__init__"=some (.ref fI)) (hfc:oI.cls= .type "function")
   (h:wpAny (model prog w) A (eval (.Name x np) env) (fun f s₁=>f= .ref C/\wpAny (model prog w) A (evalArgs (.ref C) true (backTo cpos (starEach args env)) [])
     (fun a s₂=>a.kw=[]/\a.pos.length<=sizeLine/\s₂.heap.get? C=some (excClassObj nm q C N bs bm hdct sn sub ab col dd k0 k1 k2 k3 k5 newId)/\s₂.heap.Ns N mN/\OwnTail s₂.heap bmB bm/\s₂.heap.get? fI=some oI/\
       ∀ h' e,Heap.MadeExcOf s₂.heap h' e (.ref C) a.pos ->wpAny (model prog w) (A.under (.builtin "type.__call__" ⟨.ref C::a.pos,[]⟩)) (call (.ref fI) (.ref e::a.pos))
         (fun r s₃=>r= .none/\s₃.heap.get? C=some (excClassObj nm q C N bs bm hdct sn sub ab col dd k0 k1 k2 k3 k5 newId)/\(∃t de,s₃.heap.get? e=some {cls:= .ref C,dict:=de,data:= .fields #[.ref t,.none,.none,.none,.bool false,.none]})/\E (.ref e) s₃) E {s₂ with heap:=h'}) E s₁) E s):
   wpAny (model prog w) A (exec (.Raise (some (.Call (.Name x np) args [] cpos)) none pos) env) Q E s:=by
 rw[arm_exec_Raise]
 first
   |refine wpAny_bind (wpAny_standAt (A7y (C:=C) (nm:=nm) (q:=q) (N:=N) (bs:=bs) (bm:=bm) (hdct:=hdct) (sn:=sn) (sub:=sub) (ab:=ab) (col:=col) (dd:=dd) (k0:=k0) (k1:=k1) (k2:=k2) (k3:=k3) (k5:=k5) (newId:=newId) hbase hh (wpAny_bind (wpAny_mono (wpAny_Call_ofName (wpAny_mono h (fun f s₁ h₁=>?_) fun _ _ x=>x)) (fun v s₃ h₃=>wpAny_bind (wpAny_standAt (wpAny_pure h₃))) fun _ _ x=>x))))
   |(simp only[evalOpt,Option.map];refine wpAny_bind (wpAny_standAt (A7y (C:=C) (nm:=nm) (q:=q) (N:=N) (bs:=bs) (bm:=bm) (hdct:=hdct) (sn:=sn) (sub:=sub) (ab:=ab) (col:=col) (dd:=dd) (k0:=k0) (k1:=k1) (k2:=k2) (k3:=k3) (k5:=k5) (newId:=newId) hbase hh (wpAny_bind (wpAny_mono (wpAny_Call_ofName (wpAny_mono h (fun f s₁ h₁=>?_) fun _ _ x=>x)) (fun v s₃ h₃=>wpAny_bind (wpAny_standAt (wpAny_pure h₃))) fun _ _ x=>x)))))
 obtain⟨rfl,h₁⟩:=h₁
 unfold callWith
 refine wpAny_bind (wpAny_holding (wpAny_mono h₁ (fun a s₂ h₂=>wpAny_bind (wpAny_standAt ?_)) fun _ _ x=>x))
 obtain⟨apos,akw⟩:=a
 obtain⟨hkw,hlen,hC,hn,T,hf,h₂⟩:=h₂
 obtain rfl:akw=[]:=hkw
 obtain⟨hp,g,d,tk,os⟩:=s₂
 simp only[hplain]
 refine wpAny_bind (wpAny_keeperOf_exc hC ?_)
 refine wpAny_bind (C1m F T hC hn hi hf hfc (fun h' e hm=>wpAny_mono (h₂ h' e hm) (fun r s₃ z=>⟨z.1,wpAny_bind (wpAny_holding (wpAny_point (wpAny_pure ?_)))⟩) fun _ _ x=>x) hlen)
 obtain⟨_,hC3,⟨t,de,he⟩,hE⟩:=z
 exact⟨e,t,de,rfl,hC3,he,hE⟩
end
end L2
namespace L2
open PySem PySem.Spec PyProof.Rows PySem.W
noncomputable abbrev J6q:List Value:=[.type "ValueError",.type "Exception",.type "BaseException",.type "object"]
structure ExcI(K:Frag)(C fI:Addr):Prop where
 cls:∃nm q N bs bm sn sub ab col dd k0 k1 k2 k3 k5,K.lookup C=some (excClassObj nm q C N bs bm true sn sub ab col dd k0 k1 k2 k3 k5 "ValueError.__new__")/\nsOkIn K N=true/\nsIn K N "__init__"=some (some (.ref fI))/\tailIn K J6q bm=true
 fn:∃o,K.lookup fI=some o/\o.cls= .type "function"
 sa:findIn K (.ref C) "__setattr__"=some (some (.builtin "object.__setattr__"))
 ob:mroIn K C (.type "object")=some true
theorem G7m{K:Frag}{h:Heap}{N:Addr}{mg:Str ->Option Value}{n:Str}{v:Value}(X:K.In h)(G:h.Ns N mg)(e:nsIn K N n=some (some v)):mg n=some v:=by
 obtain⟨o,es,ep,ho,hd,_,hf⟩:=G
 unfold nsIn at e
 split at e
 . rename_i c d es' n' sl q
   have:=X _ _ q
   rw[ho] at this
   cases this
   cases hd
   split at e
   . rename_i en he
     cases e
     rw[<-hf]
     unfold nsFind findBy
     rw[<-Array.find?_toList,he]
     rfl
   . split at e<;>cases e
 . cases e
theorem B9d{h:Heap}(self:Value):∀{l:List Value},OwnTail h J6q l ->refuseLoop self "__setattr__" l=pure ()
 |_,.base=>PySem.F.store_ValueError.passes self
 |_,.own _ _ _ t=>by rw[refuseLoop_ref];exact B9d self t
section
variable{prog:Program}{w:World}{A:Around}{s:Shared}{K:Frag}{C e fI:Addr}{t:Addr}{R:Result ->Shared ->Prop}{name:Str}{tk:Tok}{v:Value}
theorem Y3m(X:K.In s.heap)(F:ExcI K C fI)(he:s.heap.get? e=some (Z6 (.ref C) t none .none))(ht:findIn K (.ref C) name=some none)
   (h:∀h' tk' d,(∀b ob,b≠e ->s.heap.get? b=some ob ->h'.get? b=some ob) ->h'.get? e=some (Z6 (.ref C) t (some d) .none) ->h'.Ns1 d (fun y=>if y=name then some v else none) ->s.heap.get? d=none ->d≠e ->
     R (.ok (.ret .none)) {s with heap:=h',toks:=tk'}):
   codeAny (model prog w) A (.call (.builtin "object.__setattr__") ⟨[.ref e,.str name tk,v],[]⟩) R s:=by
 have SF:=PySem.F.store_object
 obtain⟨nm,q,N,bs,bm,sn,sub,ab,col,dd,k0,k1,k2,k3,k5,lC,nO,nI,tl⟩:=F.cls
 have hC:=X _ _ lC
 have I:PySem.W.InstAt s.heap e (Z6 (.ref C) t none .none) C none:=⟨he,rfl,rfl,trivial⟩
 have hc:clsIn K C=some {name:=nm,bases:=bs,mro:= .ref C::bm,ns:=N,qualname:=q,hasDict:=true,slotNames:=sn,subclasses:=sub,abstract:=ab,collection:=col,hasDel:=false}:=by
   unfold clsIn
   rw[lC]
 have sub':Looks (model prog w) s.heap (isInstance (.ref e) (.type "object")) true:=I.type.andThen (looks_mroIn X F.ob)
 refine codeAny_call_builtin SF.slot.plain SF.entry (@check_slot (model prog w) _ _ s "object.__setattr__" "object" "__setattr__" (.ref e) [.str name tk,v] [] _ SF.kind SF.split sub' (SF.args (.ref e) (.str name tk) v) ?_)
 have hm:Looks (model prog w) s.heap (mroOf (.ref C)) (.ref C::bm):=(looks_clsIn X hc).andThen .now
 have L3:Looks (model prog w) s.heap (Builtin.ObjectAttr.storeTaker? none) none:= .now
 rw[osa_eq,refuse_eq]
 refine wpAny_bind (wpAny_bind (I.type.here (wpAny_bind (hm.here ?_))))
 rw[refuseLoop_ref,B9d _ (tail_of_in X tl)]
 refine wpAny_pure (wpAny_bind (I.type.here (wpAny_bind ((looks_findIn X ht).here (wpAny_bind (L3.here ?_))))))
 dsimp only
 refine wpAny_bind (wpAny_pure (wpAny_bind (wpAny_bind (wpAny_loadPart he (wpAny_bind (PySem.W.Looks.here (PySem.W.looks_clsIn X hc) ?_))))))
 have hx₁:(s.heap.push {cls:= .type "dict",data:= .dict #[]}).get? e=some (Z6 (.ref C) t none .none):=Heap.get?_push_of_some _ he
 have hxs:e≠s.heap.objs.size:=Nat.ne_of_lt (Heap.lt_size he)
 show wpAny (model prog w) A.in1 (do
     let d<-alloc {cls:=Value.type "dict",data:=Data.dict #[]}
     update e fun o=>{cls:=o.cls,dict:=some d,data:=o.data,slots:=o.slots}
     pure (some d)) _ _ _
 refine wpAny_bind (wpAny_alloc' ?_)
 refine wpAny_bind (wpAny_update' hx₁ ?_)
 refine wpAny_pure ?_
 have hgd:((s.heap.push {cls:= .type "dict",data:= .dict #[]}).update e fun o=>{cls:=o.cls,dict:=some s.heap.objs.size,data:=o.data,slots:=o.slots}).get? s.heap.objs.size
     =some {cls:= .type "dict",data:= .dict #[]}:=
   (Heap.get?_update_ne _ _ _ _ hxs.symm).trans (Heap.get?_push_at rfl rfl)
 have hnd:((s.heap.push {cls:= .type "dict",data:= .dict #[]}).update e fun o=>{cls:=o.cls,dict:=some s.heap.objs.size,data:=o.data,slots:=o.slots}).Ns s.heap.objs.size (fun _=>none):=
   ⟨_, #[],_,hgd,rfl,fun e he=>absurd he (by simp),fun _=>rfl⟩
 show wpAny _ _ (Builtin.ObjectAttr.storeInDict s.heap.objs.size (.str name tk) name v) _ _ _
 unfold Builtin.ObjectAttr.storeInDict Builtin.ObjectAttr.newKeyGuard
 refine wpAny_bind (wpAny_pure (wpAny_bind (wpAny_nsSet1 (Heap.Ns1.of_empty hnd) fun h' hn' hs=>?_)))
 obtain⟨oD,esD,epD,hoD,hdD,hcD⟩:=hn'.count (Within.cons name v Within.nil)
 refine wpAny_bind (wpAny_lookBehind hoD (by rw[hdD];exact pastItsLine_dict (Nat.le_trans hcD (by rw[List.length_cons,List.length_nil,sizeLine_eq];omega))) ?_)
 have hx':h'.get? e=some (Z6 (.ref C) t (some s.heap.objs.size) .none):=(hs.2 e hxs).trans (Heap.get?_update_self _ hx₁ rfl)
 refine wpAny_pure (h h' _ s.heap.objs.size (fun b ob hbx hb=>?_) hx' hn' (Heap.get?_none_of_le (Nat.le_refl _)) hxs.symm)
 exact(hs.2 b (Nat.ne_of_lt (Heap.lt_size hb))).trans ((Heap.get?_update_ne _ _ _ _ hbx).trans (Heap.get?_push_of_some _ hb))
end
noncomputable def A3k (e C t:Addr) (d:Option Addr):Heap ->Prop:=fun h=>h.get? e=some (Z6 (.ref C) t d .none)
theorem U7t{P:Program}{w:World}{H:Hp}{h:Heap}{e C t:Addr}{d:Option Addr}(q:h.get? e=some (Z6 (.ref C) t d .none)):ObjOk P w H h e (.ext (A3k e C t d)):=
 ⟨q,⟨_,q⟩,fun _ _ z k=>k _ z⟩
section
variable{X:Cx}{pins:List (Addr×Obj)}{σ:St}{H:Hp}{s:Shared}
theorem Inv.trackO{a:Addr}{ho:HO}(I:Inv X pins σ H s)(n:Nw X pins H a)(ok:ObjOk X.prog X.w (upd H a ho) s.heap a ho):Inv X pins σ (upd H a ho) s:=by
 have ne:∀b u,H b=some u ->b≠a:=fun b u z q=>by rw[q,n.un] at z;cases z
 have up:∀b,b≠a ->upd H a ho b=H b:=fun b hb=>C6 hb
 refine⟨I.ok,I.os,I.bare,⟨I.base.keep,I.base.slot,fun b u z m hx=>?_,I.base.there,fun b xs z=>?_,fun b u v z=>?_,fun b ps z=>?_⟩,I.loc,I.cell,?_,fun x c z=>?_,fun p hp=>?_,fun b u z=>?_,I.len⟩
 . rw[up b fun q=>by rw[q,n.old] at z;cases z]
   exact I.base.free b u z m hx
 . have:=I.base.tups b xs z
   rw[up b (ne b _ this)];exact this
 . have:=I.base.frzs b u v z
   rw[up b (ne b _ this)];exact this
 . obtain⟨more,this⟩:=I.base.tbls b ps z
   exact⟨more,by rw[up b (ne b _ this)];exact this⟩
 . rw[up _ (Ne.symm n.loc)];exact I.free
 . rw[up _ (n.cell x c z)];exact I.freeC x c z
 . obtain⟨q1,q2,q3⟩:=I.pin p hp
   exact⟨q1,by rw[up _ (n.pin p hp)];exact q2,q3⟩
 . by_cases hb:b=a
   . subst hb
     rw[A6] at z
     cases z
     exact ok
   . rw[up b hb] at z
     exact(I.hok b u z).stay (fun _ _ _ q=>q) (fun c q=>by rw[up c (ne c _ q)];exact q) (fun c xs q=>by rw[up c (ne c _ q)];exact q)
noncomputable def rem (H:Hp) (a:Addr):Hp:=fun b=>if b=a then none else H b
theorem C1w{a:Addr}:rem H a a=none:=by unfold rem;rw[if_pos rfl]
theorem A5a{a b:Addr}(h:b≠a):rem H a b=H b:=by unfold rem;rw[if_neg h]
theorem Inv.forget{a:Addr}{φ:Heap ->Prop}(I:Inv X pins σ H s)(e:H a=some (.ext φ)):Inv X pins σ (rem H a) s:=by
 have ne:∀b u,H b=some u ->(∀φ,u≠ .ext φ) ->b≠a:=fun b u z q w=>by rw[w,e] at z;cases z;exact q _ rfl
 have non:∀b,H b=none ->rem H a b=none:=fun b z=>by
   by_cases q:b=a
   . rw[q];exact C1w
   . rw[A5a q];exact z
 refine⟨I.ok,I.os,I.bare,⟨I.base.keep,I.base.slot,fun b u z m hx=>non b (I.base.free b u z m hx),I.base.there,fun b xs z=>?_,fun b u v z=>?_,fun b ps z=>?_⟩,I.loc,I.cell,non _ I.free,fun x c z=>non _ (I.freeC x c z),fun p hp=>?_,fun b u z=>?_,I.len⟩
 . have:=I.base.tups b xs z
   rw[A5a (ne b _ this (fun _ q=>nomatch q))];exact this
 . have:=I.base.frzs b u v z
   rw[A5a (ne b _ this (fun _ q=>nomatch q))];exact this
 . obtain⟨more,this⟩:=I.base.tbls b ps z
   exact⟨more,by rw[A5a (ne b _ this (fun _ q=>nomatch q))];exact this⟩
 . obtain⟨q1,q2,q3⟩:=I.pin p hp
   exact⟨q1,non _ q2,q3⟩
 . have hb:b≠a:=fun q=>by rw[q,C1w] at z;cases z
   rw[A5a hb] at z
   exact(I.hok b u z).stay (fun _ _ _ q=>q) (fun c q=>by rw[A5a (ne c _ q (fun _ w=>nomatch w))];exact q) (fun c xs q=>by rw[A5a (ne c _ q (fun _ w=>nomatch w))];exact q)
end
noncomputable def Z5h (C:Addr) (ta tv:TE) (f:Str):TS:=fun D σ H=>tv σ H fun y H1=>ta σ H1 fun x H2=>∃e t,x= .ref e/\H2 e=some (.ext (A3k e C t none))/\
 ∀d,H2 d=none ->d≠e ->D.nx σ (upd (upd H2 e (.ext (A3k e C t (some d)))) d (.xd [(f,y)]))
section
variable{X:Cx}{o value:Expr}{f:Str}{pos pos':Pos}{ta tv:TE}{C fI:Addr}
theorem Y0p(F:ExcI X.K C fI)(hf:findIn X.K (.ref C) f=some none)(ha:PE X o ta)(hv:PE X value tv)(hs:swapsWith value (some (.Attribute o f pos')) pos.line X.env=pure false)(hex:X.ex=[]:=by rfl):
   PS X (.Assign [.Attribute o f pos'] value pos) (Z5h C ta tv f):=by
 intro pins s σ H D I h
 refine plainObj_wpAny_Assign_Attribute (thn (hv pins s σ H _ I h) fun u s1 ⟨y,H1,I1,ry,q⟩=>thn (ha pins s1 σ H1 _ I1 q) fun ov s2 hh_=>?_) hs
 obtain⟨x,H2,I2,rx,e,t,ex,ea,q2⟩:=hh_
 subst ex
 obtain rfl:ov=Value.ref e:=rx
 have he:s2.heap.get? e=some (Z6 (.ref C) t none .none):=(I2.hok e _ ea).1
 refine set_plain I2.kIn (⟨he,rfl,rfl,trivial⟩:PySem.W.InstAt s2.heap e (Z6 (.ref C) t none .none) C none) F.sa (Y3m (s:={s2 with toks:=s2.toks+1}) I2.kIn F he hf fun h' tk' d k1 k2 k3 k4 k5=>?_)
 have nd:H2 d=none:=I2.hok.new k4
 have I3:Inv X pins σ (upd H2 e (.ext (A3k e C t (some d)))) {s2 with heap:=h',toks:=tk'}:=
   I2.write (x:=e) (e:=e) (by rw[ea];exact trivial) (.inl rfl) (fun b u hb z=>k1 b u hb z) ⟨_,k2⟩ (U7t k2)
 have nw:Nw X pins (upd H2 e (.ext (A3k e C t (some d)))) d:=I2.nw hex k4 (by rw[C6 k5];exact nd)
 refine⟨σ,_,I3.trackO (ho:= .xd [(f,y)]) nw ⟨_,k3,fun g=>?_⟩,q2 d nd k5⟩
 show RelO (List.lookup g [(f,y)]) (if g=f then some u else none)
 by_cases z:g=f
 . rw[if_pos z,z]
   have:List.lookup f [(f,y)]=some y:=by simp[List.lookup]
   rw[this];exact ry
 . rw[if_neg z]
   have:List.lookup g [(f,y)]=none:=by
     have hb:(g==f)=false:=beq_eq_false_iff_ne.mpr z
     simp[List.lookup,hb]
   rw[this];exact trivial
end
noncomputable def D1h (C:Addr) (f:Str):Sp:=fun vs H Q _=>∃e t v,vs=[.ref e,v]/\H e=some (.ext (A3k e C t none))/\∀d,H d=none ->d≠e ->Q .non (upd (upd H e (.ext (A3k e C t (some d)))) d (.xd [(f,v)]))
noncomputable def Y2u (C:Addr) (f:Str) (EH:EK) (t:TA):TS:=fun _ σ H=>t σ H fun vs H1=>∃v,vs=[v]/\∀d H2,Same H1 H2 ->H1 d=none ->H2 d=some (.xd [(f,v)]) ->EH (.ref C) (some d) σ H2
section
variable{X:Cx}{x f:Str}{p cpos pos:Pos}{e:Expr}{t:TA}{C fI:Addr}{fdI:FuncData}{ps:List Str}{EH:EK}{j k:Nat}
theorem J9x(hm:X.mg x=some (.ref C))(F:ExcI X.K C fI)(G:FnOk X.prog X.w X.K X.mg X.base CX0 j fI fdI ps (D1h C f))(bI:Binds X.K fdI ps [])(hr:Room k X.A)(hx:G2 X EH)(ha:PA X [e] t)(hj:j+1<=k:=by decide)(hg:Gl X x:=by rfl)(hex:X.ex=[]:=by rfl)
   (hdb:(x==("__debug__":Str))=false:=by decide) (he:starEach [e] X.env=(false,eval e X.env)::starEach [] X.env:=by rfl) (hpl:(backTo cpos (starEach [] X.env)).any (·.1)=false:=by rfl):
   PS X (.Raise (some (.Call (.Name x p) [e] [] cpos)) none pos) (Y2u C f EH t):=by
 intro pins s σ H D I h
 obtain⟨nm,q,N,bs,bm,sn,sub,ab,col,dd,k0,k1,k2,k3,k5,lC,nO,nI,tl⟩:=F.cls
 obtain⟨oI,lI,cI⟩:=F.fn
 have T0:OwnTail X.base J6q bm:=tail_of_in I.ok.mod.kin tl
 have hN0:X.base.Ns N (X.base.nsMap N):= .of_isNs (isNs_of_in I.ok.mod.kin nO)
 have hi0:X.base.nsMap N "__init__"=some (.ref fI):=G7m I.ok.mod.kin hN0 nI
 refine B5s (C:=C) (nm:=nm) (q:=q) (N:=N) (bs:=bs) (bm:=bm) (hdct:=true) (sn:=sn) (sub:=sub) (ab:=ab) (col:=col) (dd:=dd) (k0:=k0) (k1:=k1) (k2:=k2) (k3:=k3) (k5:=k5) (oI:=oI) PySem.F.excBase_ValueError (mN:=X.base.nsMap N) (T0.hasType PySem.F.excBase_ValueError.hasBase) hr.hd
   (by rw[he];show(false||(backTo cpos (starEach [] X.env)).any (·.1))=false;rw[hpl];rfl) hi0 cI (A1e I hg hm ⟨rfl,?_⟩ hdb)
 have ha':=ha cpos pins s σ H _ I h
 rw[he] at ha' ⊢
 refine Calls.evalArgs_plain (wpAny_mono ha' (fun us s2 hh_=>?_) fun _ _ y=>y)
 obtain⟨vs,H1,I1,r,v,ev,z⟩:=hh_
 subst ev
 obtain⟨u,rfl,ru⟩:=r.one
 refine⟨rfl,C9 (by show 1<=1000;decide),I1.kIn _ _ lC,hN0.keeps I1.bk,T0.keeps I1.bk,I1.kIn _ _ lI,fun h' a m=>?_⟩
 obtain⟨t',e1,tn,e2⟩:=m.there
 have I2:Inv X pins σ H1 {s2 with heap:=h'}:=I1.kept (t':=s2.toks) m.keeps
 have na:H1 a=none:=I1.hok.new m.new
 have I3:=I2.trackO (ho:= .ext (A3k a C t' none)) (I1.nw hex m.new na) (U7t e1)
 have sp0:D1h C f [.ref a,v] (upd H1 a (.ext (A3k a C t' none))) (fun v0 H'=>v0= .non/\∃d,H1 d=none/\d≠a/\H'=upd (upd (upd H1 a (.ext (A3k a C t' none))) a (.ext (A3k a C t' (some d)))) d (.xd [(f,v)])) E0:=
   ⟨a,t',v,rfl,A6,fun d nd nda=>⟨rfl,d,by rw[C6 nda] at nd;exact nd,nda,rfl⟩⟩
 have rr:Vals [.ref a,v] [.ref a,u]:= .cons rfl (.cons ru .nil)
 have hl:([Value.ref a,u]++ []).length=ps.length:=by
   have:=G.len _ _ _ _ sp0
   rw[<-this];rfl
 refine wpAny_call (codeAny_mono (G.run _ X.stack _ _ ⟨[.ref a,u],[]⟩ ([.ref a,u]++ []) [.ref a,v] _ E0 ((hr.mono hj).make C [u] []) (I3.env0.make C [u] []) (bI _ [.ref a,u] I3.kIn hl) rr sp0) fun r s' hq=>?_)
 cases r with
 |error e=>exact hq.elim
 | ok fl=>
   cases fl with
   | ret u0=>
     obtain⟨v0,H',I4,rv,ev,d,nd,nda,eH⟩:=I3.after hq
     subst ev eH
     have ea:(upd (upd (upd H1 a (.ext (A3k a C t' none))) a (.ext (A3k a C t' (some d)))) d (.xd [(f,v)])) a=some (.ext (A3k a C t' (some d))):=by
       rw[C6 (Ne.symm nda),A6]
     have g1:s'.heap.get? a=some (Z6 (.ref C) t' (some d) .none):=(I4.hok a _ ea).1
     refine⟨rv,I4.kIn _ _ lC,⟨t',some d,g1⟩,?_⟩
     refine hx pins σ _ s' a t' (.ref C) (some d) (I4.forget ea) ⟨I1.nw hex m.new C1w,.none,g1,.inl rfl,fun T z=>nomatch z⟩ (z d _ (fun b ob q=>?_) nd ?_)
     . have nb:b≠a:=D5 q na
       have nbd:b≠d:=D5 q nd
       rw[A5a nb,C6 nbd,C6 nb,C6 nb]
       exact q
     . rw[A5a nda,A6]
   |next=>exact hq.elim
   |brk=>exact hq.elim
   |cont=>exact hq.elim
end
theorem U8b{prog:Program}{w:World}{A:Around}{E:Value ->Shared ->Prop}{s:Shared}{K:Frag}{a C:Addr}{oa:Obj}{od:Option Obj}{name:Str}{v:Value}{b:Bool}{Q:Value ->Shared ->Prop}(F:ExcK K C)(X:K.In s.heap)(I:PySem.W.InstAt s.heap a oa C od)
   (hf:findObj K C od name=some (.value v)) (hh:handedIn v=true) (h:Q v {s with toks:=s.toks+1}):wpAny (model prog w) A (getAttr (.ref a) name b) Q E s:=by
 obtain⟨hp,g,d,t,os⟩:=s
 have L0:=I.type (M:=model prog w)
 have L1:=looks_findIn (M:=model prog w) X F.ga
 have L2:=looks_findIn (M:=model prog w) X F.gh
 have L3:Looks (model prog w) hp (isInstance (.ref a) (.type "BaseException")) true:=L0.andThen (looks_subIn X F.be)
 have L4:=looks_find (M:=model prog w) X I hf
 have hk:builtinKind "BaseException.__getattribute__"=some .slot:=by decide+kernel
 have hsplit:splitId "BaseException.__getattribute__"=some ("BaseException","__getattribute__"):=by decide+kernel
 have hargs:=PySem.F.args_bexc_ga (.ref a) (.str name t)
 have hb:=PySem.F.attr_ValueError.ga.bind (.ref a)
 unfold getAttr getAttrBy
 refine wpAny_bind (wpAny_mkText (wpAny_holding (wpAny_bind (L0.at (wpAny_bind (L1.at ?_))))))
 dsimp only
 rw[if_neg (show¬((onTheHeap (Value.ref C)&&Value.builtin "BaseException.__getattribute__"==Value.builtin "object.__getattribute__")=true) by
   rw[show(Value.builtin "BaseException.__getattribute__"==Value.builtin "object.__getattribute__")=false by decide+kernel,Bool.and_false];exact Bool.false_ne_true)]
 unfold getAttrByItsOwn
 refine wpAny_bind (m:=hookBefore (.ref C)) (L2.at ?_)
 refine wpAny_bind (wpAny_attempt (wpAny_holding ?_))
 unfold callGetattribute
 rw[if_neg (show¬((b&&onTheHeap (Value.builtin "BaseException.__getattribute__"))=true) by
   rw[show onTheHeap (Value.builtin "BaseException.__getattribute__")=false from rfl,Bool.and_false];exact Bool.false_ne_true)]
 unfold boundAndCalled
 rw[hb]
 refine wpAny_bind (wpAny_pure ?_)
 refine wpAny_call (codeAny_call_builtin PySem.F.attr_ValueError.ga.plain PySem.F.entry_bexc_ga ?_)
 have chk:∀{A':Around} {Q':Unit ->Shared ->Prop} {E':Value ->Shared ->Prop},Q' () ⟨hp,g,d,t+1,os⟩ ->wpAny (model prog w) A' (checkBuiltinCall "BaseException.__getattribute__" ⟨[.ref a,.str name t],[]⟩) Q' E' ⟨hp,g,d,t+1,os⟩:=by
   intro A' Q' E' hq
   simp only[checkBuiltinCall,hk,hsplit]
   refine wpAny_bind ?_
   refine L3.at ?_
   repeat (first|assumption|wp_step)
 refine chk ?_
 show wpAny _ _ (Builtin.«object.__getattribute__» ⟨[.ref a, .str name t], []⟩) _ _ _
 unfold Builtin.«object.__getattribute__»
 refine wpAny_bind (wpAny_pure ?_)
 refine wpAny_bind (wpAny_pure ?_)
 refine wpAny_bind (L0.at (wpAny_bind (L4.at ?_)))
 dsimp only
 refine wpAny_pure ?_
 exact handed_on hh h
noncomputable def Y6r (K:Frag) (ta:TE) (f:Str):TE:=fun σ H Q=>ta σ H fun x H1=>∃a C t T d u fs v,x= .ref a/\H1 a=some (.frz (Z6 (.ref C) t (some d) T) u)/\H1 d=some (.xd fs)/\ExcK K C/\(∃cd,clsIn K C=some cd/\cd.hasDict=true)/\findIn K (.ref C) f=some none/\fs.lookup f=some v/\Q v H1
section
variable{X:Cx}{e:Expr}{f:Str}{pos:Pos}{ta:TE}
theorem Y2k(he:PE X e ta)(hb:attributeBase e f X.env (eval e X.env)=eval e X.env):PE X (.Attribute e f pos) (Y6r X.K ta f):=by
 intro pins s σ H Q I h
 refine J6g hb (thn (he pins s σ H _ I h) fun u s1 hh_=>?_)
 obtain⟨x,H1,I1,rx,a,C,t,T,d,u0,fs,v,ex,ea,hd,k,⟨cd,hc,hD⟩,hn,l,q⟩:=hh_
 subst ex
 obtain rfl:u=Value.ref a:=rx
 have o1:s1.heap.get? a=some (Z6 (.ref C) t (some d) T):=(I1.hok a _ ea).1
 obtain⟨mA,nA,rA⟩:=(show∃mA,s1.heap.Ns1 d mA/\∀f,RelO (fs.lookup f) (mA f) from I1.hok d _ hd)
 obtain⟨od,o2,lk⟩:=B5w nA
 obtain⟨uv,hu,ru⟩:=RelO.some_of (v:=v) (o:=mA f) (by rw[<-l];exact rA f)
 have J:PySem.W.InstAt s1.heap a (Z6 (.ref C) t (some d) T) C (some od):=⟨o1,rfl,rfl,o2⟩
 have hf:findObj X.K C (some od) f=some (.value uv):=by
   unfold findObj
   rw[hc,Option.bind_some,hn,Option.bind_some]
   show((PySem.W.ownOf cd (some od) f).bind _)=_
   unfold PySem.W.ownOf
   rw[hD,if_pos rfl]
   show((lookIn f od).bind _)=_
   rw[lk f,hu]
   rfl
 exact U8b k I1.kIn J hf (C9s ru) ⟨v,H1,I1.tok _,ru,q⟩
end
noncomputable def A8f (z:Str) (n:Int):Str:=if n<1 then Str.empty else if(n==1||z.length==0)=true then z else⟨(List.replicate n.toNat z.cps).foldl (· ++ ·) #[]⟩
noncomputable def Y9w:R2:=fun x y H Q=>∃z n,x= .str z/\y= .int n/\ -(2^63)<=n/\n<2^63/\z.length*n.toNat<=sizeLine/\Q (.str (A8f z n)) H
theorem C8s(z:Array Nat):∀(k:Nat) (acc:Array Nat),((List.replicate k z).foldl (· ++ ·) acc).toList=acc.toList++(List.replicate k z.toList).flatten
 |0,acc=>by simp
 | k+1,acc=>by
   rw[List.replicate_succ,List.foldl_cons,C8s z k,Array.toList_append,List.replicate_succ,List.flatten_cons,List.append_assoc]
theorem A1c(z:Str):z.cps.toList.length=z.length:=Array.length_toList
theorem B9h(z:Str)(n:Int):(A8f z n).cps.toList=(List.replicate n.toNat z.cps.toList).flatten:=by
 unfold A8f
 split
 . have:n.toNat=0:=by omega
   rw[this];rfl
 . split
   . rename_i h1 h2
     rcases Bool.or_eq_true _ _|>.mp h2 with h|h
     . have:n=1:=by simpa using h
       subst this
       simp
     . have e:z.length=0:=by simpa using h
       have e2:z.cps.toList=[]:=List.eq_nil_of_length_eq_zero (by rw[A1c];exact e)
       rw[e2]
       have:∀k:Nat,(List.replicate k ([]:List Nat)).flatten=[]:=fun k=>by simp
       rw[this]
   . show((List.replicate n.toNat z.cps).foldl (· ++ ·) #[]).toList=_
     rw[C8s]
     rfl
theorem C1e(z:Str)(n:Int):(A8f z n).length=n.toNat*z.length:=by
 rw[<-A1c,B9h,J6n,A1c]
section
variable{X:Cx}
theorem G7b:OpR X (binaryOp .Mult) Y9w:=by
 intro pins s σ H x y v u Q I rx ry h
 obtain⟨z,n,rfl,rfl,h1,h2,hz,q⟩:=h
 obtain⟨t,rfl⟩:=rx
 obtain⟨t',rfl⟩:=ry
 have lo:¬n< -(2^63:Int):=by omega
 have hi:¬n>=(2^63:Int):=by omega
 have hl:=C1e z n
 have hs:(A8f z n).length<=sizeLine:=by rw[hl,Nat.mul_comm];exact hz
 refine PySem.P.mul_str (by rw[decide_eq_false lo,decide_eq_false hi];rfl) (fun n1 n2=>?_) (fun n1 n2=>Y2c hz) ?_
 . intro g
   have p:0<n:=by omega
   have e:((z.length*n.toNat:Nat):Int)=(z.length:Int)*n:=by rw[Int.natCast_mul,Int.toNat_of_nonneg (by omega)]
   have c:((z.length*n.toNat:Nat):Int)<=(sizeLine:Nat):=Int.ofNat_le.mpr hz
   have k:(sizeLine:Nat)<=2^63-1:=by decide
   have k':((sizeLine:Nat):Int)<=(2^63-1:Int):=by
     have:=Int.ofNat_le.mpr k
     exact this
   have:(z.length:Int)<=(2^63-1)/n:=(Int.le_ediv_iff_mul_le p).mpr (by omega)
   omega
 . unfold A8f at q hs
   split
   . rw[if_pos (by assumption)] at q
     exact⟨by decide,.str _,H,I.tok _,⟨_,rfl⟩,q⟩
   . rw[if_neg (by assumption)] at q hs
     split
     . rw[if_pos (by assumption)] at q
       exact⟨.str _,H,I,⟨_,rfl⟩,q⟩
     . rw[if_neg (by assumption)] at q hs
       exact⟨hs,.str _,H,I.tok _,⟨_,rfl⟩,q⟩
theorem C5j:A8j X (.type "int") (fun xs H Q=>∃z n,xs=[.str z]/\PySem.intText? z=some n/\z.length<=640/\Q (.int n) H):=by
 intro pins s σ H xs us Q I r h
 obtain⟨z,n,rfl,h1,h2,q⟩:=h
 obtain⟨u,rfl,t,rfl⟩:=C1g r
 exact KIN.call_text h1 h2 ⟨.int n,H,I.tok _,⟨_,rfl⟩,q⟩
end
noncomputable def J9k (n:Nat):Str:=("1":Str)++A8f ("0":Str) (n:Int)
theorem J7y(n:Nat):(List.replicate n [48]).flatten=List.replicate n 48:=by
 induction n with
 |zero=>rfl
 |succ n ih=>rw[List.replicate_succ,List.flatten_cons,ih,List.replicate_succ];rfl
theorem B1k(n:Nat):(J9k n).cps.toList=49::List.replicate n 48:=by
 unfold J9k
 show(("1":Str).cps++(A8f ("0":Str) (n:Int)).cps).toList=_
 rw[Array.toList_append,B9h]
 have a:("1":Str).cps.toList=[49]:=by decide+kernel
 have b:("0":Str).cps.toList=[48]:=by decide+kernel
 rw[a,b]
 show [49]++(List.replicate n [48]).flatten=_
 rw[J7y]
 rfl
theorem G1q(n:Nat):(J9k n).length=n+1:=by
 rw[<-A1c,B1k]
 simp
theorem G6k(n:Nat):∀a:Nat,(List.replicate n 48).foldl (fun acc c=>acc*10+(c-48)) a=a*10^n:=by
 induction n with
 |zero=>intro a;simp
 | succ n ih=>
   intro a
   rw[List.replicate_succ,List.foldl_cons,ih,Nat.pow_succ]
   show(a*10+0)*10^n=_
   rw[Nat.add_zero,Nat.mul_assoc,Nat.mul_comm 10]
theorem U6y(n:Nat)(h:n<=600):PySem.intText? (J9k n)=some ((10^n:Nat):Int):=by
 have e:PySem.NumText.digitsVal (J9k n).cps.toList=10^n:=by
   rw[B1k]
   unfold PySem.NumText.digitsVal
   rw[List.foldl_cons,G6k]
   show(0*10+1)*10^n=_
   omega
 rw[<-e]
 refine PySem.intText_digits ?_ ?_ ?_
 . rw[B1k]
   intro c hc
   rcases List.mem_cons.mp hc with rfl|hc
   . exact⟨by decide,by decide⟩
   . obtain⟨_,rfl⟩:=List.mem_replicate.mp hc
     exact⟨by decide,by decide⟩
 . rw[B1k];exact fun z=>nomatch z
 . rw[G1q];omega
section
variable{X:Cx}
theorem U4t(hc:X.A.handled=none):A8j X (.builtin "all") (fun xs H Q=>∃(l:Addr) (bs:List Bool),xs=[.ref l]/\SqL X.K H l (bs.map V.bl)/\Q (.bl (bs.all id)) H):=by
 intro pins s σ H xs us Q I r h
 obtain⟨l,bs,rfl,hl,q⟩:=h
 obtain⟨u,rfl,ru⟩:=Vals.one r
 cases ru
 obtain⟨its,rv,p,hz⟩:=I.list hl
 obtain⟨o,e,_⟩:=id p.isList
 have hlt:l<s.heap.objs.size:=Heap.lt_size e
 have hlen:its.length=bs.length:=by rw[<-rv.length,List.length_map]
 refine call_all_walk (wpAny_pyIter_list p.isList ?_)
 refine⟨s.heap.objs.size,[s.heap.objs.size,l],[s.heap.objs.size],its.toArray.size,_,_,fun i=>(bs[i]?).getD true,rfl,Walks.list (A:=X.A.in1) hc _ l (Nat.ne_of_lt hlt) its.toArray,⟨⟨_,Heap.get?_push_size _ rfl,rfl,rfl⟩,p.isList.push _⟩,fun i v s' Q' E' hP hQ=>?_,fun h' tk hk=>?_⟩
 . have hP:its[i]?=some v:=by simpa using hP
   have hi:i<bs.length:=by rw[<-hlen];exact(List.getElem?_eq_some_iff.mp hP).1
   obtain⟨u',hu',ru'⟩:=rv.get (i:=i) (x:=V.bl bs[i]) (by simp[hi])
   rw[hP] at hu'
   cases hu'
   cases ru'
   have z:(bs[i]?).getD true=bs[i]:=by simp[hi]
   dsimp only at hQ
   rw[z] at hQ
   exact wpAny_truthy_bool hQ
 . have z:((List.range its.toArray.size).all fun i=>(bs[i]?).getD true)=bs.all id:=by
     rw[List.size_toArray,hlen]
     exact LSm.range_all bs
   rw[z]
   exact⟨.bl (bs.all id),H,I.kept fun b x e=>hk b x (fun hm=>by rw[List.mem_singleton.mp hm] at e;exact Nat.lt_irrefl _ (Heap.lt_size e)) (Heap.get?_push_of_some _ e),rfl,q⟩
noncomputable def Z4p:V ->List V ->Hp ->VK ->Prop:=fun x vs H Q=>∃i,x= .int i/\vs=[]/\Q (.int ((Builtin.Int.intBits i:Nat):Int)) H
theorem C5c:MtR X "int.bit_length" Z4p:=by
 intro pins s σ H x xs v us Q I rx rs h
 obtain⟨i,rfl,rfl,q⟩:=h
 obtain⟨t,rfl⟩:=rx
 cases rs
 exact call_int_bit_length ⟨.int _,H,I.tok _,⟨_,rfl⟩,q⟩
end
noncomputable def Z8k (ta tb:TE):TE:=fun σ H Q=>ta σ H fun x H1=>∃i,x= .int i/\if i=0 then tb σ H1 Q else Q (.int i) H1
section
variable{X:Cx}{a b:Expr}{rest:List Expr}{pos:Pos}{ta tb:TE}
theorem Y9y(ha:PE X a ta)(hb:PE X (.BoolOp .Or (b::rest) pos) tb):PE X (.BoolOp .Or (a::b::rest) pos) (Z8k ta tb):=by
 intro pins s σ H Q I h
 refine BoolOp_or (thn (ha pins s σ H _ I h) fun v s1 hh_=>?_)
 obtain⟨x,H1,I1,r1,q1⟩:=hh_
 obtain⟨i,rfl,q1⟩:=q1
 obtain⟨t,rfl⟩:=r1
 refine PySem.P.truthy_int ?_
 by_cases hi:i=0
 . rw[if_pos hi] at q1
   subst hi
   exact hb pins s1 σ H1 Q I1 q1
 . rw[if_neg hi] at q1
   rw[show(i !=0)=true by simpa using hi]
   exact⟨.int i,H1,I1,⟨_,rfl⟩,q1⟩
end
section
variable{X:Cx}{j k:Nat}{f C:Addr}{fd:FuncData}{ps:List Str}{sp:Sp}{dvs:List V}{ds:List Value}{x m:Str}{p pos apos:Pos}{e o:Expr}{es:List Expr}{ta:TE}{t:TA}{st:Stmt}
end
section
variable{X:Cx}{N F:List Str}{js:List Nat}{scope:Scope}
theorem C9d{pins:List (Addr×Obj)}{σ:St}{H:Hp}{s:Shared}{fp:List Addr}{h':Heap}(S:CompScopeF N F js scope X.N X.env)(I:Inv X pins σ H s)(hf:∀b∈fp,A8g X pins H b)(hit:∀b∈fp,∃o,s.heap.get? b=some o)(hnb:∀b∈fp,X.base.get? b=none)
   (hns:h'.Ns s.heap.objs.size (fun _=>none)) (hsb:∀b o,s.heap.get? b=some o ->h'.get? b=some o) {tk:Nat}:
   Inv (X.compF scope N F s.heap.objs.size s H fp (X.pn++pins)) [] (List.replicate N.length none++B2q js σ) H {s with heap:=h',toks:=tk}:=by
 have ck:∀c v,s.heap.IsCell c v ->h'.IsCell c v:=fun c v ⟨o,e,d⟩=>⟨o,hsb _ _ e,d⟩
 have inF:∀x,((compEnvC scope (A3y F X.env) s.heap.objs.size X.env).kindOf x=some .cell\/(compEnvC scope (A3y F X.env) s.heap.objs.size X.env).kindOf x=some .free) ->x∈F:=by
   intro x z
   have z:(relabel scope X.env).names.lookup x=some .cell\/(relabel scope X.env).names.lookup x=some .free:=z
   rcases z with z|z
   . exact S.fr _ (PySem.mem_of_lookup z) (.inl rfl)
   . exact S.fr _ (PySem.mem_of_lookup z) (.inr rfl)
 refine⟨⟨I.ok.mod,S.kind,I.ok.glob,I.ok.blt,Nat.le_refl _,fun x y c z z'=>I.ok.inj x y c (S.sub x c z) (S.sub y c z'),fun x z=>?_,fun x c z _=>(nomatch z),I.ok.hd,I.ok.frames,.inl rfl,fun b hb=>?_,I.bs,Nat.le_trans I.ok.bsz I.sz,fun b o e hb=>?_,fun b hb hfs=>?_,I.stack,I.stkFree⟩,
   rfl,I.bare,Un.kept hsb,⟨_,hns,fun i x v e1 e2 e3=>C9f S I (fun x c v _ z=>ck c v z) i x v e1 e2⟩,fun x c z=>?_,I.hok.fresh (Nat.le_refl _),fun x c z=>I.freeC x c (S.sub x c z),fun p hp=>?_,I.hok.kept hsb,U6a S σ⟩
 . obtain⟨c,h1,_⟩:=S.has (inF x z)
   exact⟨c,h1⟩
 . obtain⟨oi,ei⟩:=hit b hb
   exact⟨Nat.ne_of_lt (Heap.lt_size ei),fun x c z=>(hf b hb).2.2.2.2.1 x c (S.sub x c z)⟩
 . rw[hnb b hb] at e
   cases e
 . rcases List.mem_cons.mp (I.stkSub b hfs) with z|z
   . exact(hf b hb).2.1 z
   . exact(hf b hb).2.2.1 z
 . obtain⟨v,z'⟩:=I.cell x c (S.sub x c z)
   exact⟨v,ck c v z'⟩
 . have hp':p∈X.pn++pins:=by simpa using hp
   obtain⟨q1,q2,q3,q4,q5⟩:=I.pin p hp'
   refine⟨hsb _ _ q1,q2,Nat.ne_of_lt (Heap.lt_size q1),fun z=>?_,q5⟩
   rcases List.mem_cons.mp (I.stkSub p.1 z) with z|z
   . exact q3 z
   . exact q4 z
theorem C0w{pins pl:List (Addr×Obj)}{σ σ':St}{H H':Hp}{s s':Shared}{fp:List Addr}(S:CompScopeF N F js scope X.N X.env)(I:Inv X pins σ H s)(hf:∀b∈fp,A8g X pins H b)(J:Inv (X.compF scope N F s.heap.objs.size s H fp (X.pn++pins)) pl σ' H' s'):
   Inv (X.compF scope N F s.heap.objs.size s H fp (X.pn++pins)) [] (List.replicate N.length none++B2q js σ) H' s':=by
 obtain⟨m,hn,_⟩:=J.loc
 refine⟨J.ok,J.os,J.bare,J.base,⟨m,hn,fun i x v e1 e2 e3=>C9f S I (fun x c v z q=>?_) i x v e1 e2⟩,J.cell,J.free,J.freeC,fun p hp=>J.pin p (by
   have hp:p∈(X.pn++pins)++ []:=hp
   rw[List.append_nil] at hp
   exact List.mem_append_left _ hp),J.hok,U6a S σ⟩
 obtain⟨o,e,d⟩:=q
 have ne:c ∉ fp:=fun w=>(hf c w).2.2.2.2.1 x c z rfl
 obtain⟨sl,q⟩:=J.base.any e (I.freeC x c z) ne
 exact⟨_,q,d⟩
theorem C0g{elt target iter c:Expr}{scope:Scope}{pos:Pos}{N F:List Str}{js:List Nat}{wi:TI}{g:TG}{tc:TT}{te:TE}(S:CompScopeF N F js scope X.N X.env)(hd:A2p X)(hc0:X.calm=true)(hi:PI X target iter wi)(hex:X.ex=[])
   (hg:∀C s₀ H₀ ex pn,A2p (X.compF scope N F C s₀ H₀ ex pn) ->PG (X.compF scope N F C s₀ H₀ ex pn) target g)
   (hc:∀C s₀ H₀ ex pn,A2p (X.compF scope N F C s₀ H₀ ex pn) ->PT (X.compF scope N F C s₀ H₀ ex pn) c tc)
   (he:∀C s₀ H₀ ex pn,A2p (X.compF scope N F C s₀ H₀ ex pn) ->PE (X.compF scope N F C s₀ H₀ ex pn) elt te)
   {pins:List (Addr×Obj)} {s:Shared} {σ:St} {H:Hp} {Q:VK} {RR:Value ->Env ->Result ->Shared ->Prop} (I:Inv X pins σ H s) (h:(D0t N.length js wi g tc te) σ H Q)
   (hRR:∀(D C:Addr) (s6:Shared) (H5:Hp) (mm:Str ->Option Value),Inv X pins σ H5 s6 ->s6.heap.Ns C mm ->A8g X pins H5 C ->Q (.ref D) H5 ->RR (.ref D) (compEnvC scope (A3y F X.env) C X.env) (.ok .next) s6):
   wpAny (model X.prog X.w) X.A (eval iter X.env) (fun v s1=>wpAny (model X.prog X.w) X.A (pyIter v) (fun itv s2=>wpAny (model X.prog X.w) X.A (newList []) (fun acc s3=>wpAny (model X.prog X.w) X.A (newFunctionEnv scope X.env.globals (A3y F X.env) [] X.env.qual none .none (some X.env)) (fun cenv s4=>
     codeAny (model X.prog X.w) X.A (.compStart (.ListComp elt [⟨target,iter,[c],0⟩] scope pos) 0 itv acc {cenv with scope:=relabel scope X.env}) (RR acc {cenv with scope:=relabel scope X.env}) s4) X.xe s3) X.xe s2) X.xe s1) X.xe s:=by
 refine thn (hi pins s σ H _ I h) fun v s1 h1=>thn h1 fun itv s2 h2=>?_
 obtain⟨it,fp,tn,J,H2,rfl,I2,T,st2,f2,R⟩:=h2
 have ob2:=T.obj _ _ st2
 have hf2:=I2.hok.fresh (Nat.le_refl _)
 refine wpAny_newObj_type ?_
 have I3:Inv X pins σ (upd H2 s2.heap.objs.size (.lst [])) {s2 with heap:=s2.heap.push {cls:= .type "list",dict:=none,data:= .seq ([]:List Value).toArray}}:=Inv.lnew (t':=s2.toks) I2 .nil (Nat.zero_le _)
 refine wpAny_newFunctionEnv S.cell (by intro y hy;simp at hy) (fun h4 hns hsb=>?_) S.kind
 dsimp only at hns hsb ⊢
 generalize hG:s2.heap.push {cls:= .type "list",dict:=none,data:= .seq ([]:List Value).toArray}=G at I3 hns hsb ⊢
 generalize hD:s2.heap.objs.size=D at I3 hf2
 have nD:∀b∈fp,b≠D:=fun b hb=>by
   obtain⟨o,eo,_⟩:=ob2 b hb
   rw[<-hD];exact Nat.ne_of_lt (Heap.lt_size eo)
 have eiG:∀b∈fp,∃o,G.get? b=some o:=fun b hb=>by
   obtain⟨o,eo,_⟩:=ob2 b hb
   exact⟨o,by rw[<-hG];exact Heap.get?_push_of_some _ eo⟩
 have kp:∀b o,G.get? b=some o ->h4.get? b=some o:=fun b o e=>hsb.extBut b o (Nat.ne_of_lt (Heap.lt_size e)) (Heap.get?_push_of_some _ e)
 have f3:∀b∈fp,A8g X pins (upd H2 D (.lst [])) b:=fun b hb=>⟨by rw[C6 (nD b hb)];exact(f2 b hb).1,(f2 b hb).2⟩
 have nb:∀b∈fp,X.base.get? b=none:=fun b hb=>by
   cases q:X.base.get? b with
   |none=>rfl
   | some o=>
     have:=(I.ok.bs b o q).1
     rcases(f2 b hb).2.2.2.1 with z|z
     . rw[hex] at z;simp at z
     . exact absurd (Nat.lt_of_lt_of_le (Heap.lt_size this) z) (Nat.lt_irrefl _)
 have hns':h4.Ns G.objs.size (fun _=>none):=by
   obtain⟨o,es,ep,q1,q2,q3,q4⟩:=hns
   exact⟨o,es,ep,q1,q2,q3,fun x=>by rw[q4];rfl⟩
 have I4:=C9d (tk:=s2.toks+([]:List (Str×Value)).length) S I3 f3 eiG nb hns' kp
 have hdc:A2p (X.compF scope N F G.objs.size {s2 with heap:=G} (upd H2 D (.lst [])) fp (X.pn++pins)):=by
   rcases hd with z|⟨x,o,u,vs,z,e,d,n⟩
   . exact .inl z
   . refine .inr ⟨x,o,u,vs,z,?_,d,n⟩
     have q:=I2.base.frzs x o u e
     show upd H2 D (.lst []) x=_
     rw[C6 fun w=>by rw[w,hf2] at q;cases q]
     exact q
 obtain⟨m,W,w0,turn⟩:=R D hf2
 have gg:=hg _ _ _ _ _ hdc
 have cc:=hc _ _ _ _ _ hdc
 have ee:=he _ _ _ _ _ hdc
 have fpc:∀{H':Hp} {σ':St} {s':Shared} {pl:List (Addr×Obj)},Inv (X.compF scope N F G.objs.size {s2 with heap:=G} (upd H2 D (.lst [])) fp (X.pn++pins)) pl σ' H' s' ->(∀b∈fp,H' b=none) ->(∀b∈fp,∀p∈pl,p.1≠b) ->∀b∈fp,A8g (X.compF scope N F G.objs.size {s2 with heap:=G} (upd H2 D (.lst [])) fp (X.pn++pins)) pl H' b:=by
   intro H' σ' s' pl J' hn hp b hb
   obtain⟨oi,ei⟩:=eiG b hb
   refine⟨hn b hb,Nat.ne_of_lt (Heap.lt_size ei),?_,.inl hb,(fun x c z=>(f2 b hb).2.2.2.2.1 x c (S.sub x c z)),fun p hpp=>?_⟩
   . intro z
     rcases List.mem_cons.mp (I.stkSub b z) with z|z
     . exact(f2 b hb).2.1 z
     . exact(f2 b hb).2.2.1 z
   . rcases List.mem_append.mp hpp with z|z
     . exact(f2 b hb).2.2.2.2.2 p z
     . exact hp b hb p z
 have loop:codeAny (model X.prog X.w) X.A (.compLoop (.ListComp elt [⟨target,iter,[c],0⟩] scope pos) 0 (.ref it) (.ref D) (compEnvC scope (A3y F X.env) G.objs.size X.env))
     (RR (.ref D) (compEnvC scope (A3y F X.env) G.objs.size X.env))
     {s2 with heap:=h4,toks:=s2.toks+([]:List (Str×Value)).length}:=by
   refine kct_loop (fun k s'=>∃i ys H',k=m+1-i/\Inv (X.compF scope N F G.objs.size {s2 with heap:=G} (upd H2 D (.lst [])) fp (X.pn++pins)) [] (List.replicate N.length none++B2q js σ) H' s'/\tn i s'.heap/\(∀b∈fp,H' b=none)/\W i ys H') ?_ (m+1)
     ⟨0,[],_,rfl,I4,T.keep _ _ _ st2 fun b hb o e=>kp b o (by rw[<-hG];exact Heap.get?_push_of_some _ e),fun b hb=>(f3 b hb).1,w0⟩
   rintro k s5 ⟨i,ys,H5,rfl,I5,st5,n5,w5⟩
   obtain⟨hi5,hD5,w5⟩:=turn i ys H5 w5
   rcases w5 with⟨stop,q⟩|⟨lt5,go,step⟩
   . refine wpAny_mono (T.done (X.compF scope N F G.objs.size {s2 with heap:=G} (upd H2 D (.lst [])) fp (X.pn++pins)) rfl rfl rfl hc0 i [] s5 _ H5 (fun _ _=>False) I5 (fpc I5 n5 (by simp)) st5 stop) (fun r s6 z=>?_) (fun _ _ z=>z.elim)
     obtain⟨rfl,I6⟩:=z
     obtain⟨mm,hn6,_⟩:=I6.loc
     have B6:=I6.base
     have J6:Inv X pins σ H5 s6:=by
       refine I3.call' (ch:=fp) I6.os ⟨B6.keep,B6.slot,B6.free,B6.there,B6.tups,B6.frzs,B6.tbls⟩ I6.hok I6.bare (fun b hb=>⟨(f2 b hb).2.2.2.1,(f2 b hb).2.1,(f2 b hb).2.2.2.2.1,(f2 b hb).2.2.2.2.2⟩)
     have szG:X.s₀.heap.objs.size<=G.objs.size:=I3.sz
     refine hRR D G.objs.size s6 H5 mm J6 hn6 ⟨I6.free,?_,?_,.inr szG,?_,?_⟩ q
     . exact Nat.ne_of_gt I3.lt
     . intro z
       obtain⟨_,o,ho,_⟩:=I3.funs.mem z
       exact Nat.lt_irrefl _ (Heap.lt_size ho)
     . rintro x c z rfl
       obtain⟨v',o,ho,_⟩:=I3.cell x _ z
       exact Nat.lt_irrefl _ (Heap.lt_size ho)
     . rintro p hp z
       have zz:=(I3.pin p hp).1
       rw[z] at zz
       exact Nat.lt_irrefl _ (Heap.lt_size zz)
   . refine wpAny_mono (T.item (X.compF scope N F G.objs.size {s2 with heap:=G} (upd H2 D (.lst [])) fp (X.pn++pins)) rfl rfl rfl hc0 i [] s5 _ H5 (fun _ _=>False) I5 (fpc I5 n5 (by simp)) st5 go) (fun r s6 z=>?_) (fun _ _ z=>z.elim)
     obtain⟨u,rfl,z⟩:=z
     refine wpAny_mono z (fun _ s7 z=>?_) (fun _ _ z=>z.elim)
     obtain⟨x,H7,I7,rx,yl,st7,fr7⟩:=z
     have ob7:=T.obj _ _ st7
     have I7':Inv (X.compF scope N F G.objs.size {s2 with heap:=G} (upd H2 D (.lst [])) fp (X.pn++pins)) (Z9 fp s7.heap) (List.replicate N.length none++B2q js σ) H7 s7:=I7.pinned (fpc I7 fr7 (by simp)) ob7
     have back:∀{i':Nat} {ys':List V} {H':Hp} {σ':St} {s':Shared},i'=i+1 ->Inv (X.compF scope N F G.objs.size {s2 with heap:=G} (upd H2 D (.lst [])) fp (X.pn++pins)) (Z9 fp s7.heap) σ' H' s' ->W i' ys' H' ->
         ∃k',k'<m+1-i/\∃i ys H',k'=m+1-i/\Inv (X.compF scope N F G.objs.size {s2 with heap:=G} (upd H2 D (.lst [])) fp (X.pn++pins)) [] (List.replicate N.length none++B2q js σ) H' s'/\tn i s'.heap/\(∀b∈fp,H' b=none)/\W i ys H':=by
       rintro i' ys' H' σ' s' rfl J' w'
       refine⟨m+1-(i+1),by omega,i+1,ys',H',rfl,C0w S I3 f3 J',T.keep _ _ _ st7 fun b hb o z=>(J'.pin (b,o) (List.mem_append_right _ (A0s hb z))).1,fun b hb=>?_,w'⟩
       obtain⟨o,eo,_⟩:=ob7 b hb
       exact(J'.pin (b,o) (List.mem_append_right _ (A0s hb eo))).2.1
     refine wpAny_mono (gg (Z9 fp s7.heap) s7 _ H7 x u _ I7' rx (step x H7 yl)) (fun _ s8 z=>?_) (fun _ _ z=>z.elim)
     obtain⟨σ8,H8,I8,q8⟩:=z
     refine wpAny_mono (cc (Z9 fp s7.heap) s8 σ8 H8 _ I8 q8) (fun b s9 z=>?_) (fun _ _ z=>z.elim)
     obtain⟨H9,I9,q9⟩:=z
     cases b with
     | false=>
       simp only[Bool.false_eq_true,if_false] at q9 ⊢
       exact back rfl I9 q9
     | true=>
       simp only[if_true] at q9 ⊢
       refine wpAny_mono (ee (Z9 fp s7.heap) s9 σ8 H9 _ I9 q9) (fun y s10 z=>?_) (fun _ _ z=>z.elim)
       obtain⟨yv,H10,I10,ry,hD10,hz10,w10⟩:=z
       refine wpAny_mono (B1p (X:=X.compF scope N F G.objs.size {s2 with heap:=G} (upd H2 D (.lst [])) fp (X.pn++pins)) (Z9 fp s7.heap) s10 σ8 H10 (.ref D) [yv] (.ref D) [y] (fun _ H11=>W (i+1) (ys++ [yv]) H11) I10 rfl (.cons ry .nil) ⟨D,ys,yv,rfl,rfl,hD10,hz10,w10⟩) (fun _ s11 z=>?_) (fun _ _ z=>z.elim)
       obtain⟨_,H11,I11,_,w11⟩:=z
       exact back rfl I11 w11
 exact codeAny_compStart_list loop (T.self _ 0 _ _ _ (T.keep _ _ _ st2 fun b hb o e=>kp b o (by rw[<-hG];exact Heap.get?_push_of_some _ e)) loop)
theorem G1u{elt target iter:Expr}{scope:Scope}{pos:Pos}{N F:List Str}{js:List Nat}{wi:TI}{g:TG}{te:TE}(S:CompScopeF N F js scope X.N X.env)(hd:A2p X)(hc0:X.calm=true)(hi:PI X target iter wi)(hex:X.ex=[])
   (hg:∀C s₀ H₀ ex pn,A2p (X.compF scope N F C s₀ H₀ ex pn) ->PG (X.compF scope N F C s₀ H₀ ex pn) target g)
   (he:∀C s₀ H₀ ex pn,A2p (X.compF scope N F C s₀ H₀ ex pn) ->PE (X.compF scope N F C s₀ H₀ ex pn) elt te)
   {pins:List (Addr×Obj)} {s:Shared} {σ:St} {H:Hp} {Q:VK} {RR:Value ->Env ->Result ->Shared ->Prop} (I:Inv X pins σ H s) (h:(J6d N.length js wi g te) σ H Q)
   (hRR:∀(D C:Addr) (s6:Shared) (H5:Hp) (mm:Str ->Option Value),Inv X pins σ H5 s6 ->s6.heap.Ns C mm ->A8g X pins H5 C ->Q (.ref D) H5 ->RR (.ref D) (compEnvC scope (A3y F X.env) C X.env) (.ok .next) s6):
   wpAny (model X.prog X.w) X.A (eval iter X.env) (fun v s1=>wpAny (model X.prog X.w) X.A (pyIter v) (fun itv s2=>wpAny (model X.prog X.w) X.A (newList []) (fun acc s3=>wpAny (model X.prog X.w) X.A (newFunctionEnv scope X.env.globals (A3y F X.env) [] X.env.qual none .none (some X.env)) (fun cenv s4=>
     codeAny (model X.prog X.w) X.A (.compStart (.ListComp elt [⟨target,iter,[],0⟩] scope pos) 0 itv acc {cenv with scope:=relabel scope X.env}) (RR acc {cenv with scope:=relabel scope X.env}) s4) X.xe s3) X.xe s2) X.xe s1) X.xe s:=by
 refine thn (hi pins s σ H _ I h) fun v s1 h1=>thn h1 fun itv s2 h2=>?_
 obtain⟨it,fp,tn,J,H2,rfl,I2,T,st2,f2,R⟩:=h2
 have ob2:=T.obj _ _ st2
 have hf2:=I2.hok.fresh (Nat.le_refl _)
 refine wpAny_newObj_type ?_
 have I3:Inv X pins σ (upd H2 s2.heap.objs.size (.lst [])) {s2 with heap:=s2.heap.push {cls:= .type "list",dict:=none,data:= .seq ([]:List Value).toArray}}:=Inv.lnew (t':=s2.toks) I2 .nil (Nat.zero_le _)
 refine wpAny_newFunctionEnv S.cell (by intro y hy;simp at hy) (fun h4 hns hsb=>?_) S.kind
 dsimp only at hns hsb ⊢
 generalize hG:s2.heap.push {cls:= .type "list",dict:=none,data:= .seq ([]:List Value).toArray}=G at I3 hns hsb ⊢
 generalize hD:s2.heap.objs.size=D at I3 hf2
 have nD:∀b∈fp,b≠D:=fun b hb=>by
   obtain⟨o,eo,_⟩:=ob2 b hb
   rw[<-hD];exact Nat.ne_of_lt (Heap.lt_size eo)
 have eiG:∀b∈fp,∃o,G.get? b=some o:=fun b hb=>by
   obtain⟨o,eo,_⟩:=ob2 b hb
   exact⟨o,by rw[<-hG];exact Heap.get?_push_of_some _ eo⟩
 have kp:∀b o,G.get? b=some o ->h4.get? b=some o:=fun b o e=>hsb.extBut b o (Nat.ne_of_lt (Heap.lt_size e)) (Heap.get?_push_of_some _ e)
 have f3:∀b∈fp,A8g X pins (upd H2 D (.lst [])) b:=fun b hb=>⟨by rw[C6 (nD b hb)];exact(f2 b hb).1,(f2 b hb).2⟩
 have nb:∀b∈fp,X.base.get? b=none:=fun b hb=>by
   cases q:X.base.get? b with
   |none=>rfl
   | some o=>
     have:=(I.ok.bs b o q).1
     rcases(f2 b hb).2.2.2.1 with z|z
     . rw[hex] at z;simp at z
     . exact absurd (Nat.lt_of_lt_of_le (Heap.lt_size this) z) (Nat.lt_irrefl _)
 have hns':h4.Ns G.objs.size (fun _=>none):=by
   obtain⟨o,es,ep,q1,q2,q3,q4⟩:=hns
   exact⟨o,es,ep,q1,q2,q3,fun x=>by rw[q4];rfl⟩
 have I4:=C9d (tk:=s2.toks+([]:List (Str×Value)).length) S I3 f3 eiG nb hns' kp
 have hdc:A2p (X.compF scope N F G.objs.size {s2 with heap:=G} (upd H2 D (.lst [])) fp (X.pn++pins)):=by
   rcases hd with z|⟨x,o,u,vs,z,e,d,n⟩
   . exact .inl z
   . refine .inr ⟨x,o,u,vs,z,?_,d,n⟩
     have q:=I2.base.frzs x o u e
     show upd H2 D (.lst []) x=_
     rw[C6 fun w=>by rw[w,hf2] at q;cases q]
     exact q
 obtain⟨m,W,w0,turn⟩:=R D hf2
 have gg:=hg _ _ _ _ _ hdc
 have ee:=he _ _ _ _ _ hdc
 have fpc:∀{H':Hp} {σ':St} {s':Shared} {pl:List (Addr×Obj)},Inv (X.compF scope N F G.objs.size {s2 with heap:=G} (upd H2 D (.lst [])) fp (X.pn++pins)) pl σ' H' s' ->(∀b∈fp,H' b=none) ->(∀b∈fp,∀p∈pl,p.1≠b) ->∀b∈fp,A8g (X.compF scope N F G.objs.size {s2 with heap:=G} (upd H2 D (.lst [])) fp (X.pn++pins)) pl H' b:=by
   intro H' σ' s' pl J' hn hp b hb
   obtain⟨oi,ei⟩:=eiG b hb
   refine⟨hn b hb,Nat.ne_of_lt (Heap.lt_size ei),?_,.inl hb,(fun x c z=>(f2 b hb).2.2.2.2.1 x c (S.sub x c z)),fun p hpp=>?_⟩
   . intro z
     rcases List.mem_cons.mp (I.stkSub b z) with z|z
     . exact(f2 b hb).2.1 z
     . exact(f2 b hb).2.2.1 z
   . rcases List.mem_append.mp hpp with z|z
     . exact(f2 b hb).2.2.2.2.2 p z
     . exact hp b hb p z
 have loop:codeAny (model X.prog X.w) X.A (.compLoop (.ListComp elt [⟨target,iter,[],0⟩] scope pos) 0 (.ref it) (.ref D) (compEnvC scope (A3y F X.env) G.objs.size X.env))
     (RR (.ref D) (compEnvC scope (A3y F X.env) G.objs.size X.env))
     {s2 with heap:=h4,toks:=s2.toks+([]:List (Str×Value)).length}:=by
   refine U8f (fun k s'=>∃i ys H',k=m+1-i/\Inv (X.compF scope N F G.objs.size {s2 with heap:=G} (upd H2 D (.lst [])) fp (X.pn++pins)) [] (List.replicate N.length none++B2q js σ) H' s'/\tn i s'.heap/\(∀b∈fp,H' b=none)/\W i ys H') ?_ (m+1)
     ⟨0,[],_,rfl,I4,T.keep _ _ _ st2 fun b hb o e=>kp b o (by rw[<-hG];exact Heap.get?_push_of_some _ e),fun b hb=>(f3 b hb).1,w0⟩
   rintro k s5 ⟨i,ys,H5,rfl,I5,st5,n5,w5⟩
   obtain⟨hi5,hD5,w5⟩:=turn i ys H5 w5
   rcases w5 with⟨stop,q⟩|⟨lt5,go,step⟩
   . refine wpAny_mono (T.done (X.compF scope N F G.objs.size {s2 with heap:=G} (upd H2 D (.lst [])) fp (X.pn++pins)) rfl rfl rfl hc0 i [] s5 _ H5 (fun _ _=>False) I5 (fpc I5 n5 (by simp)) st5 stop) (fun r s6 z=>?_) (fun _ _ z=>z.elim)
     obtain⟨rfl,I6⟩:=z
     obtain⟨mm,hn6,_⟩:=I6.loc
     have B6:=I6.base
     have J6:Inv X pins σ H5 s6:=by
       refine I3.call' (ch:=fp) I6.os ⟨B6.keep,B6.slot,B6.free,B6.there,B6.tups,B6.frzs,B6.tbls⟩ I6.hok I6.bare (fun b hb=>⟨(f2 b hb).2.2.2.1,(f2 b hb).2.1,(f2 b hb).2.2.2.2.1,(f2 b hb).2.2.2.2.2⟩)
     have szG:X.s₀.heap.objs.size<=G.objs.size:=I3.sz
     refine hRR D G.objs.size s6 H5 mm J6 hn6 ⟨I6.free,?_,?_,.inr szG,?_,?_⟩ q
     . exact Nat.ne_of_gt I3.lt
     . intro z
       obtain⟨_,o,ho,_⟩:=I3.funs.mem z
       exact Nat.lt_irrefl _ (Heap.lt_size ho)
     . rintro x c z rfl
       obtain⟨v',o,ho,_⟩:=I3.cell x _ z
       exact Nat.lt_irrefl _ (Heap.lt_size ho)
     . rintro p hp z
       have zz:=(I3.pin p hp).1
       rw[z] at zz
       exact Nat.lt_irrefl _ (Heap.lt_size zz)
   . refine wpAny_mono (T.item (X.compF scope N F G.objs.size {s2 with heap:=G} (upd H2 D (.lst [])) fp (X.pn++pins)) rfl rfl rfl hc0 i [] s5 _ H5 (fun _ _=>False) I5 (fpc I5 n5 (by simp)) st5 go) (fun r s6 z=>?_) (fun _ _ z=>z.elim)
     obtain⟨u,rfl,z⟩:=z
     refine wpAny_mono z (fun _ s7 z=>?_) (fun _ _ z=>z.elim)
     obtain⟨x,H7,I7,rx,yl,st7,fr7⟩:=z
     have ob7:=T.obj _ _ st7
     have I7':Inv (X.compF scope N F G.objs.size {s2 with heap:=G} (upd H2 D (.lst [])) fp (X.pn++pins)) (Z9 fp s7.heap) (List.replicate N.length none++B2q js σ) H7 s7:=I7.pinned (fpc I7 fr7 (by simp)) ob7
     have back:∀{i':Nat} {ys':List V} {H':Hp} {σ':St} {s':Shared},i'=i+1 ->Inv (X.compF scope N F G.objs.size {s2 with heap:=G} (upd H2 D (.lst [])) fp (X.pn++pins)) (Z9 fp s7.heap) σ' H' s' ->W i' ys' H' ->
         ∃k',k'<m+1-i/\∃i ys H',k'=m+1-i/\Inv (X.compF scope N F G.objs.size {s2 with heap:=G} (upd H2 D (.lst [])) fp (X.pn++pins)) [] (List.replicate N.length none++B2q js σ) H' s'/\tn i s'.heap/\(∀b∈fp,H' b=none)/\W i ys H':=by
       rintro i' ys' H' σ' s' rfl J' w'
       refine⟨m+1-(i+1),by omega,i+1,ys',H',rfl,C0w S I3 f3 J',T.keep _ _ _ st7 fun b hb o z=>(J'.pin (b,o) (List.mem_append_right _ (A0s hb z))).1,fun b hb=>?_,w'⟩
       obtain⟨o,eo,_⟩:=ob7 b hb
       exact(J'.pin (b,o) (List.mem_append_right _ (A0s hb eo))).2.1
     refine wpAny_mono (gg (Z9 fp s7.heap) s7 _ H7 x u _ I7' rx (step x H7 yl)) (fun _ s8 z=>?_) (fun _ _ z=>z.elim)
     obtain⟨σ8,H8,I8,q8⟩:=z
     refine wpAny_mono (ee (Z9 fp s7.heap) s8 σ8 H8 _ I8 q8) (fun y s10 z=>?_) (fun _ _ z=>z.elim)
     obtain⟨yv,H10,I10,ry,hD10,hz10,w10⟩:=z
     refine wpAny_mono (B1p (X:=X.compF scope N F G.objs.size {s2 with heap:=G} (upd H2 D (.lst [])) fp (X.pn++pins)) (Z9 fp s7.heap) s10 σ8 H10 (.ref D) [yv] (.ref D) [y] (fun _ H11=>W (i+1) (ys++ [yv]) H11) I10 rfl (.cons ry .nil) ⟨D,ys,yv,rfl,rfl,hD10,hz10,w10⟩) (fun _ s11 z=>?_) (fun _ _ z=>z.elim)
     obtain⟨_,H11,I11,_,w11⟩:=z
     exact back rfl I11 w11
 exact codeAny_compStart_list loop (T.self _ 0 _ _ _ (T.keep _ _ _ st2 fun b hb o e=>kp b o (by rw[<-hG];exact Heap.get?_push_of_some _ e)) loop)
theorem C0q{elt target iter:Expr}{c:Expr}{tc:TT}{pos:Pos}{wi:TI}{g:TG}{te:TE}(S:CompScopeF N F js scope X.N X.env)(hd:A2p X)(hc0:X.calm=true)(hi:PI X target iter wi)(hex:X.ex=[])
   (hg:∀C s₀ H₀ ex pn,A2p (X.compF scope N F C s₀ H₀ ex pn) ->PG (X.compF scope N F C s₀ H₀ ex pn) target g)
   (hc:∀C s₀ H₀ ex pn,A2p (X.compF scope N F C s₀ H₀ ex pn) ->PT (X.compF scope N F C s₀ H₀ ex pn) c tc)
   (he:∀C s₀ H₀ ex pn,A2p (X.compF scope N F C s₀ H₀ ex pn) ->PE (X.compF scope N F C s₀ H₀ ex pn) elt te)
   (hs:∀x,foldedSetIterable iter X.env x=pure x:=by intro _;rfl):PE X (.ListComp elt [⟨target,iter,[c],0⟩] scope pos) (D0t N.length js wi g tc te):=by
 intro pins s σ H Q I h
 rw[eval_ListComp]
 refine wpAny_comprehension_free (use:=none) rfl hs S.clos S.kind S.loc (C0g S hd hc0 hi hex hg hc he I h (RR:=fun acc ce r s'=>compPost (model X.prog X.w) X.A X.xe none (EP X pins σ Q) acc ce.locals r s') ?_)
 intro D C s6 H5 mm I6 n6 f6 q
 exact⟨mm,n6,fun h' sb=>⟨.ref D,H5,U4m I6 f6 sb,rfl,q⟩⟩
theorem J8n{elt target iter:Expr}{pos:Pos}{wi:TI}{g:TG}{te:TE}(S:CompScopeF N F js scope X.N X.env)(hd:A2p X)(hc0:X.calm=true)(hi:PI X target iter wi)(hex:X.ex=[])
   (hg:∀C s₀ H₀ ex pn,A2p (X.compF scope N F C s₀ H₀ ex pn) ->PG (X.compF scope N F C s₀ H₀ ex pn) target g)
   (he:∀C s₀ H₀ ex pn,A2p (X.compF scope N F C s₀ H₀ ex pn) ->PE (X.compF scope N F C s₀ H₀ ex pn) elt te)
   (hs:∀x,foldedSetIterable iter X.env x=pure x:=by intro _;rfl):PE X (.ListComp elt [⟨target,iter,[],0⟩] scope pos) (J6d N.length js wi g te):=by
 intro pins s σ H Q I h
 rw[eval_ListComp]
 refine wpAny_comprehension_free (use:=none) rfl hs S.clos S.kind S.loc (G1u S hd hc0 hi hex hg he I h (RR:=fun acc ce r s'=>compPost (model X.prog X.w) X.A X.xe none (EP X pins σ Q) acc ce.locals r s') ?_)
 intro D C s6 H5 mm I6 n6 f6 q
 exact⟨mm,n6,fun h' sb=>⟨.ref D,H5,U4m I6 f6 sb,rfl,q⟩⟩
theorem U8a{i:Nat}{y:Str}{py spos:Pos}{elt target iter:Expr}{c:Expr}{tc:TT}{pos:Pos}{wi:TI}{g:TG}{te:TE}(S:CompScopeF N F js scope X.N X.env)(hd:A2p X)(hc0:X.calm=true)(hi:PI X target iter wi)(hex:X.ex=[])
   (hg:∀C s₀ H₀ ex pn,A2p (X.compF scope N F C s₀ H₀ ex pn) ->PG (X.compF scope N F C s₀ H₀ ex pn) target g)
   (hc:∀C s₀ H₀ ex pn,A2p (X.compF scope N F C s₀ H₀ ex pn) ->PT (X.compF scope N F C s₀ H₀ ex pn) c tc)
   (he:∀C s₀ H₀ ex pn,A2p (X.compF scope N F C s₀ H₀ ex pn) ->PE (X.compF scope N F C s₀ H₀ ex pn) elt te) (hN:X.N.Nodup) (hi':X.N[i]?=some y) (hy:Loc X.env.scope y)
   (hf:X.fn y=true\/X.env.scope.names.lookup y=some .local:=by first|exact .inl rfl|exact .inr rfl|assumption)
   (hsw:swapsWith (.ListComp elt [⟨target,iter,[c],0⟩] scope pos) (some (.Name y py)) spos.line X.env=pure true:=by rfl)
   (hs:∀x,foldedSetIterable iter X.env x=pure x:=by intro _;rfl):PS X (.Assign [.Name y py] (.ListComp elt [⟨target,iter,[c],0⟩] scope pos) spos) (Y7y (D0t N.length js wi g tc te) (J6f i)):=by
 intro pins s σ H D I h
 rw[exec_Assign_Name_used _ _ _ _ hsw]
 refine wpAny_bind (wpAny_standAt (wpAny_bind ?_))
 show wpAny _ X.A (do let _<-comprehension (.ListComp elt [⟨target,iter,[c],0⟩] scope pos) scope X.env _ (newList []) false (eval iter X.env) (some (assign (.Name y py) X.env))) _ _ s
 refine wpAny_bind (wpAny_mono (wpAny_comprehension_free (Q:=fun _ s'=>SP X pins D .next s') rfl hs S.clos S.kind S.loc (C0g S hd hc0 hi hex hg hc he I h (RR:=fun acc ce r s'=>compPost (model X.prog X.w) X.A X.xe (some (assign (.Name y py) X.env)) (fun _ s'=>SP X pins D .next s') acc ce.locals r s') ?_))
   (fun _ s' hq=>wpAny_pure (wpAny_pure hq)) fun _ _ e=>e)
 intro D' C s6 H5 mm I6 n6 f6 q
 refine wpAny_assign_Name (C8z (v:= .ref D') I6 hN hi' hy rfl (fun s7 I7 st=>?_) hf)
 obtain⟨a,sb,ha⟩:=st
 have na:C≠a:=by
   rcases ha with rfl|ha
   . exact f6.2.1
   . exact(f6.2.2.2.2.1 y a ha).symm
 exact⟨mm,n6.sameBut sb na,fun h' sb'=>⟨_,_,U4m I7 f6 sb',q⟩⟩
end
theorem CompScopeF.of0{N:List Str}{sc:Scope}{XN:List Str}{env:Env}(S:CompS N [] sc)(clos:closureFor sc env=pure (A3y [] env)):CompScopeF N [] [] sc XN env:=
 ⟨S.kind,S.cell,S.loc,S.nd,clos,B2w S.cell S.fr,fun k y h=>by simp at h,rfl⟩
theorem C0x:bootBuiltins "enumerate"=some (.type "enumerate"):=by decide+kernel
section
variable{X:Cx}{pins:List (Addr×Obj)}{σ:St}{H:Hp}{s:Shared}{h':Heap}
theorem Inv.turnedL{t':Nat}{fp:List Addr}(I:Inv X pins σ H s)(k:∀b o,b ∉ fp ->s.heap.get? b=some o ->h'.get? b=some o)(hf:∀b∈fp,A8g X pins H b):Inv X pins σ H {s with heap:=h',toks:=t'}:=by
 have nit:∀b u,H b=some u ->b ∉ fp:=fun b u e z=>by rw[(hf b z).1] at e;cases e
 refine I.step (g':=s.gens) (d':=s.drawn) (ch:=fp) (fun b hb=>?_) (fun b o _ _ hc e _=>k b o hc e) (fun b o _ _ hc e _=>⟨o.slots,k b o hc e⟩) (fun _ _ _ _ n=>n)
   (fun b o hc e=>⟨o,k b o hc e⟩) (fun _ _ e=>e) (fun _ _ _ e=>e) (fun b ps e=>⟨#[],by rw[e];simp⟩) (fun m hm=>?_) (fun b u e=>?_) I.bare
 . obtain⟨_,f1,_,f3,f4,f5⟩:=hf b hb
   exact⟨f3,f1,f4,f5⟩
 . obtain⟨o,es,ep,ho,r⟩:=hm
   exact⟨o,es,ep,k _ o (fun z=>(hf _ z).2.1 rfl) ho,r⟩
 . refine(I.hok b u e).stay (fun c v hc q=>k c v ?_ q) (fun _ q=>q) fun _ _ q=>q
   rcases hc with z|z
   . rw[z];exact nit b u e
   . exact nit c _ z
theorem Inv.paired{t':Nat}{fp:List Addr}{x y:V}{u v:Value}(I:Inv X pins σ H s)(rx:RelV x u)(ry:RelV y v)(hf:∀b∈fp,A8g X pins H b)(hl:∀b∈fp,b<s.heap.objs.size)
   (k:∀b o,b ∉ fp ->s.heap.get? b=some o ->h'.get? b=some o) (hT:h'.get? s.heap.objs.size=some {cls:= .type "tuple",data:= .seq #[u,v]}):
   Inv X pins σ (upd H s.heap.objs.size (.tup [x,y])) {s with heap:=h',toks:=t'}/\∀b∈fp,upd H s.heap.objs.size (.tup [x,y]) b=none:=by
 have hn:∀b∈fp,upd H s.heap.objs.size (.tup [x,y]) b=none:=fun b hb=>by rw[C6 (Nat.ne_of_lt (hl b hb))];exact(hf b hb).1
 have I1:Inv X pins σ (upd H s.heap.objs.size (.tup [x,y])) {s with heap:=s.heap.push {cls:= .type "tuple",data:= .seq #[u,v]},toks:=t'}:=
   I.laid (fun b o z=>Heap.get?_push_of_some _ z) (Nat.le_refl _) ⟨C9 (by show 2<=1000;decide),[u,v],.cons rx (.cons ry .nil),⟨_,Heap.get?_push_size _ rfl,rfl,_,rfl⟩⟩
 have I2:Inv X pins σ (upd H s.heap.objs.size (.tup [x,y])) {heap:=h',gens:=s.gens,drawn:=s.drawn,toks:=t',os:=s.os}:=Inv.turnedL (s:={heap:=s.heap.push {cls:= .type "tuple",data:= .seq #[u,v]},gens:=s.gens,drawn:=s.drawn,toks:=t',os:=s.os}) (h':=h') (t':=t') (fp:=fp) I1 (fun b o hb z=>?_) (fun b hb=>⟨hn b hb,(hf b hb).2⟩)
 . exact⟨I2,hn⟩
 rcases Heap.get?_push_cases z with⟨rfl,rfl⟩|z
 . exact hT
 . exact k b o hb z
end
noncomputable def Ite (K:Frag) (a:Addr):It:=
 ⟨fun i H=>∃xs x,SqL K H a xs/\xs[i]?=some x,fun i H x H'=>∃t y,x= .ref t/\H t=none/\H'=upd H t (.tup [.int i,y])/\∀xs,SqL K H a xs ->xs[i]?=some y,fun i H=>∃xs,SqL K H a xs/\xs.length<=i⟩
theorem U0d{P:Program}{w:World}{K:Frag}{es:List Expr}{k:Nat}{pos:Pos}(a e it:Addr)(hei:e≠it):Turn P w K (.Tuple es k pos) (Ite K a) [e,it] e (fun i h=>(∃old,IsEnum h e it i old)/\h.IsListIter it a i) where
 mem:=by simp
 obj:=fun i h st b hb=>by
   obtain⟨⟨old,he⟩,o,eo,c,d⟩:=st
   rcases(by simpa using hb:b=e\/b=it) with rfl|rfl
   . exact⟨_,he,fun v z=>by
       have z':Data.fields _=Data.cell v:=z
       cases z'⟩
   . exact⟨o,eo,fun v z=>by rw[d] at z;cases z⟩
 keep:=fun i h h' st k=>by
   obtain⟨⟨old,he⟩,hit⟩:=st
   exact⟨⟨old,k e (by simp) _ he⟩,hit.at fun o x=>k it (by simp) o x⟩
 item:=by
   intro X hP hw hK hc i pins s σ H E I hf st hg
   subst hP hw hK
   obtain⟨xs,x,hq,hx⟩:=hg
   obtain⟨its,rv,p,hz⟩:=I.list hq
   obtain⟨u,hu,ru⟩:=rv.get hx
   obtain⟨⟨old,he⟩,hit⟩:=st
   have elt:e<s.heap.objs.size:=Heap.lt_size he
   have ilt:it<s.heap.objs.size:=by obtain⟨o,z,_⟩:=hit;exact Heap.lt_size z
   refine wpAny_pyNext_enum_item he hit p.isList (x:=u) (by simpa using hu) hei fun h1 ho hit1 hT hsz hk=>?_
   refine⟨_,rfl,wpAny_letOwnedTupleGo_enum ho fun h2 he2 hs2=>?_⟩
   have hs2:Heap.SameBut e h1 h2:=hs2
   obtain⟨I2,hn⟩:=I.paired (h':=h2) (t':=s.toks+1) (fp:=[e,it]) (x:= .int i) (y:=x) (u:= .int i s.toks) (v:=u) ⟨_,rfl⟩ ru hf
     (fun b hb=>by rcases(by simpa using hb:b=e\/b=it) with rfl|rfl<;>assumption)
     (fun b o hb z=>(hs2.2 b (fun q=>hb (by simp[q]))).trans (hk b o (fun q=>hb (by simp[q])) (fun q=>hb (by simp[q])) z)) ((hs2.2 _ (Nat.ne_of_gt elt)).trans hT)
   refine⟨.ref s.heap.objs.size,_,I2,rfl,⟨_,x,rfl,I.hok.fresh (Nat.le_refl _),rfl,fun ys hy=>by rw[I.list_inj hy hq];exact hx⟩,⟨⟨u,?_⟩,hit1.at fun o y=>(hs2.2 it hei.symm).trans y⟩,hn⟩
   have:((i+1:Nat):Int)=(i:Int)+1:=by push_cast;rfl
   rw[this]
   exact he2
 done:=by
   intro X hP hw hK hc i pins s σ H E I hf st hg
   subst hP hw hK
   obtain⟨xs,hq,hx⟩:=hg
   obtain⟨its,rv,p,hz⟩:=I.list hq
   obtain⟨⟨old,he⟩,hit⟩:=st
   have hl:=rv.length
   exact wpAny_pyNext_enum_end (I.ok.hd hc) he hit p.isList (by simp;omega) fun h' eb=>⟨rfl,I.turnedL (t':=s.toks) (fp:=[e,it]) (fun b o hb z=>eb b o (fun q=>hb (by simp[q])) z) hf⟩
 self:=fun _ _ _ _ _ st h=>by
   obtain⟨⟨old,he⟩,hit⟩:=st
   exact wpAny_pyIter_enum he h
section
variable{X:Cx}{es:List Expr}{k:Nat}{tp:Pos}
noncomputable def Z3g (K:Frag) (ta:TA):TI:=fun σ H R=>ta σ H fun vs H1=>∃a,vs=[.ref a]/\(∃xs,SqL K H1 a xs)/\R (Ite K a) H1
theorem Y0r{a:Expr}{ta:TA}{p pos:Pos}(hg:Gl X "enumerate")(hm:X.mg "enumerate"=none)(ha:PA X [a] ta)(hs:starEach [a] X.env=[(false,eval a X.env)]:=by rfl):PI X (.Tuple es k tp) (.Call (.Name "enumerate" p) [a] [] pos) (Z3g X.K ta):=by
 intro pins s σ H R I h
 refine Call_ (C1x I hg hm C0x (PyProof.Rows.callWith_type1 (thn (ha pos pins s σ H _ I h) fun us s1 hh_=>?_) hs rfl))
 obtain⟨vs,H1,I1,r1,q1⟩:=hh_
 obtain⟨l,e,⟨xs,hq⟩,q⟩:=q1
 subst e
 cases r1 with
 | cons r rr=>
   cases rr
   cases r
   obtain⟨its,rv,pl,hz⟩:=I1.list hq
   refine call_enumerate_list pl.isList fun h' he hit hsz hk=>wpAny_pyIter_enum he ?_
   have I2:Inv X pins σ H1 {s1 with heap:=h'}:=I1.kept (t':=s1.toks) hk
   refine⟨s1.heap.objs.size+1,[s1.heap.objs.size+1,s1.heap.objs.size],_,_,H1,rfl,I2,U0d l _ _ (Nat.succ_ne_self _),⟨⟨.none,he⟩,hit⟩,fun b hb=>?_,q⟩
   rcases(by simpa using hb:b=s1.heap.objs.size+1\/b=s1.heap.objs.size) with rfl|rfl
   . exact I1.fpOk (Nat.le_add_right _ _) (I1.hok.fresh (Nat.le_add_right _ _))
   . exact I1.fpOk (Nat.le_refl _) (I1.hok.fresh (Nat.le_refl _))
end
noncomputable def Y0e (D:Addr) (H H':Hp):Prop:=∀b o,H b=some o ->b≠D ->H' b=some o
theorem J8s{J:It}{g:TG}{te:TE}{σ0:St}{H1:Hp}{QD:Addr ->Hp ->Prop}{n:Nat}(R:Nat ->V ->Hp ->Prop)(hn:n<=1000)
   (mono:∀i y H' H'' D l,R i y H' ->H' D=some (.lst l) ->Y0e D H' H'' ->R i y H'')
   (step:∀i H2 Qy,i<n ->Same H1 H2 ->(∀y H6,Same H2 H6 ->R i y H6 ->Qy y H6) ->J.go i H2/\∀x H3,J.yld i H2 x H3 ->g x σ0 H3 fun σ4 H4=>te σ4 H4 Qy)
   (stop:∀H2,Same H1 H2 ->J.stop n H2)
   (k:∀D H' ys,Same H1 H' ->H1 D=none ->H' D=some (.lst ys) ->ys.length=n ->(∀i y,ys[i]?=some y ->R i y H') ->QD D H'):∀D,H1 D=none ->
   ∃ (m:Nat) (W:Nat ->List V ->Hp ->Prop),W 0 [] (upd H1 D (.lst []))/\∀i ys H2,W i ys H2 ->i<=m/\H2 D=some (.lst ys)/\((J.stop i H2/\QD D H2)\/(i<m/\J.go i H2/\∀x H3,J.yld i H2 x H3 ->
     g x σ0 H3 fun σ4 H4=>te σ4 H4 fun y H6=>H6 D=some (.lst ys)/\ys.length<sizeLine/\W (i+1) (ys++ [y]) (upd H6 D (.lst (ys++ [y]))))):=by
 intro D hD
 refine⟨n,fun i ys H2=>i<=n/\ys.length=i/\H2 D=some (.lst ys)/\Same H1 H2/\∀j y,ys[j]?=some y ->R j y H2,⟨Nat.zero_le _,rfl,A6,Same.upd hD,fun j y h=>by simp at h⟩,?_⟩
 rintro i ys H2 ⟨hi,hl,hd,sm,hR⟩
 refine⟨hi,hd,?_⟩
 by_cases hlt:i<n
 . refine .inr ⟨hlt,step i H2 _ hlt sm fun y H6 s6 r6=>?_⟩
   have d6:H6 D=some (.lst ys):=s6 _ _ hd
   have ex:Y0e D H6 (upd H6 D (.lst (ys++ [y]))):=fun b o e hb=>by rw[C6 hb];exact e
   refine⟨d6,Nat.lt_of_le_of_lt (by omega:ys.length<=1000) (Y5 (Nat.le_refl _)),hlt,by simp[hl],A6,fun b o e=>?_,fun j z hj=>?_⟩
   . rw[C6 (D5 e hD)]
     exact s6 _ _ (sm _ _ e)
   . by_cases hj':j<ys.length
     . rw[List.getElem?_append_left hj'] at hj
       exact mono j z H6 _ D ys (mono j z H2 H6 D ys (hR j z hj) hd fun b o e _=>s6 _ _ e) d6 ex
     . rw[List.getElem?_append_right (by omega)] at hj
       have e0:j-ys.length=0:=by
         apply Classical.byContradiction
         intro q
         rw[List.getElem?_eq_none (by simp;omega)] at hj
         cases hj
       rw[e0] at hj
       have ej:j=i:=by omega
       subst ej
       cases hj
       exact mono _ _ H6 _ D ys r6 d6 ex
 . have e:i=n:=by omega
   subst e
   exact .inl ⟨stop H2 sm,k D H2 ys sm hD hd hl hR⟩
theorem G1n{J:It}{g:TG}{tc:TT}{te:TE}{σ0:St}{H1:Hp}{QD:Addr ->Hp ->Prop}{n:Nat}(f:Nat ->Bool)(R:Nat ->V ->Hp ->Prop)(hn:n<=1000)
   (mono:∀i y H' H'' D l,R i y H' ->H' D=some (.lst l) ->Y0e D H' H'' ->R i y H'')
   (step:∀(i:Nat) (H2:Hp) (Qy:VK) (Qn:Hp ->Prop),i<n ->Same H1 H2 ->(f i=true ->∀y H6,Same H2 H6 ->R i y H6 ->Qy y H6) ->(f i=false ->∀H6,Same H2 H6 ->Qn H6) ->J.go i H2/\∀x H3,J.yld i H2 x H3 ->g x σ0 H3 fun σ4 H4=>tc σ4 H4 fun b H5=>if b=true then te σ4 H5 Qy else Qn H5)
   (stop:∀H2,Same H1 H2 ->J.stop n H2)
   (k:∀D H' ys,Same H1 H' ->H1 D=none ->H' D=some (.lst ys) ->ys.length=((List.range n).filter f).length ->(∀(j i:Nat) (y:V),((List.range n).filter f)[j]?=some i ->ys[j]?=some y ->R i y H') ->QD D H'):∀D,H1 D=none ->
   ∃ (m:Nat) (W:Nat ->List V ->Hp ->Prop),W 0 [] (upd H1 D (.lst []))/\∀i ys H2,W i ys H2 ->i<=m/\H2 D=some (.lst ys)/\((J.stop i H2/\QD D H2)\/(i<m/\J.go i H2/\∀x H3,J.yld i H2 x H3 ->
     g x σ0 H3 fun σ4 H4=>tc σ4 H4 fun b H5=>if b=true then te σ4 H5 fun y H6=>H6 D=some (.lst ys)/\ys.length<sizeLine/\W (i+1) (ys++ [y]) (upd H6 D (.lst (ys++ [y]))) else W (i+1) ys H5)):=by
 intro D hD
 refine⟨n,fun i ys H2=>i<=n/\ys.length=((List.range i).filter f).length/\H2 D=some (.lst ys)/\Same H1 H2/\∀(j i':Nat) (y:V),((List.range i).filter f)[j]?=some i' ->ys[j]?=some y ->R i' y H2,⟨Nat.zero_le _,rfl,A6,Same.upd hD,fun j i' y h=>by simp at h⟩,?_⟩
 rintro i ys H2 ⟨hi,hl,hd,sm,hR⟩
 refine⟨hi,hd,?_⟩
 by_cases hlt:i<n
 . have fl :((List.range i).filter f).length<=i:=Nat.le_trans (List.length_filter_le _ _) (by simp)
   refine .inr ⟨hlt,step i H2 _ _ hlt sm (fun hf y H6 s6 r6=>?_) (fun hf H6 s6=>?_)⟩
   . have d6:H6 D=some (.lst ys):=s6 _ _ hd
     have ex:Y0e D H6 (upd H6 D (.lst (ys++ [y]))):=fun b o e hb=>by rw[C6 hb];exact e
     have ef:(List.range (i+1)).filter f=(List.range i).filter f++ [i]:=by rw[List.range_succ,List.filter_append,List.filter_cons,hf];rfl
     refine⟨d6,Nat.lt_of_le_of_lt (by omega:ys.length<=1000) (Y5 (Nat.le_refl _)),hlt,by rw[ef,List.length_append,List.length_append,hl];rfl,A6,fun b o e=>?_,fun j i' z hi' hj=>?_⟩
     . rw[C6 (D5 e hD)]
       exact s6 _ _ (sm _ _ e)
     . rw[ef] at hi'
       by_cases hj':j<ys.length
       . rw[List.getElem?_append_left hj'] at hj
         rw[List.getElem?_append_left (by omega)] at hi'
         exact mono i' z H6 _ D ys (mono i' z H2 H6 D ys (hR j i' z hi' hj) hd fun b o e _=>s6 _ _ e) d6 ex
       . rw[List.getElem?_append_right (by omega)] at hj
         rw[List.getElem?_append_right (by omega)] at hi'
         have e0:j-ys.length=0:=by
           apply Classical.byContradiction
           intro q
           rw[List.getElem?_eq_none (by simp;omega)] at hj
           cases hj
         rw[e0] at hj
         rw[<-hl,e0] at hi'
         cases hj
         cases hi'
         exact mono _ _ H6 _ D ys r6 d6 ex
   . have ef:(List.range (i+1)).filter f=(List.range i).filter f:=by rw[List.range_succ,List.filter_append,List.filter_cons,hf];simp
     refine⟨hlt,by rw[ef];exact hl,s6 _ _ hd,sm.trans s6,fun j i' z hi' hj=>?_⟩
     rw[ef] at hi'
     exact mono i' z H2 H6 D ys (hR j i' z hi' hj) hd fun b o e _=>s6 _ _ e
 . have e:i=n:=by omega
   subst e
   exact .inl ⟨stop H2 sm,k D H2 ys sm hD hd hl hR⟩
open AutoSeq1 (wpAny_loadPart')
section
variable{prog:Program}{w:World}{A:Around}{E:Value ->Shared ->Prop}{s:Shared}
end
section
variable{X:Cx}{es:List Expr}{k:Nat}{tp:Pos}
end
end L2
namespace L2
open PySem PySem.Spec PyProof.Rows PySem.W
section
variable{X:Cx}
end
end L2
namespace L2
open PySem PySem.W PyProof.Rows
section
variable{X:Cx}{o e:Expr}{ta:TE}{m:Str}{apos pos:Pos}{j k:Nat}{ps:List Str}{ι:Type}{cw f:ι ->Addr}{fd:ι ->FuncData}{sp:ι ->Sp}{EH:EK}
end
section
variable{X:Cx}{a b e o:Expr}{es:List Expr}{ta tb te to:TE}{t:TA}{pos:Pos}{st:Stmt}{rest:List Stmt}{ts u:TS}
end
end L2
namespace L2
open PySem PySem.Spec PyProof.Rows PySem.W
section
variable{X:Cx}{x f:Str}{p cpos pos:Pos}{e:Expr}{t:TA}{C fI:Addr}{fdI:FuncData}{ps:List Str}{j k:Nat}
end
section
variable{X:Cx}{x y:Str}{e:Expr}{t:TE}{p q:Pos}{pos pos2:Pos}
end
end L2
namespace L2
open PySem PySem.Spec PyProof.Rows
structure FnOkG(P:Program)(w:World)(K:PySem.W.Frag)(mg:Str ->Option Value)(base:Heap)(CX:CXT)(k:Nat)(f:Addr)(fd:FuncData)(ps:List Str)(sp:Sp):Prop where
 len:∀vs H Q E,sp vs H Q E ->vs.length=ps.length
 run:∀(A:Around) (outer:List Env) (s:Shared) (H:Hp) (args:Args) (us:List Value) (vs:List V) (Q:VK) (E:XK),A.guards=some [] ->Room k A ->Env0 P w K mg base A outer s H ->BindsTo s fd args (ps.zip us) ->Vals vs us ->sp vs H Q E ->codeAny (model P w) A (Code.call (Value.ref f) args) (CR CX outer P w H s Q E) s
theorem U6z{CX:CXT}{P:Program}{w:World}{K:PySem.W.Frag}{mg:Str ->Option Value}{base:Heap}{k:Nat}{f:Addr}{name qual:Str}{params:Arguments}{body:List Stmt}{scope:Scope}{dV kV doc pm cdv ct oc:Value}{an od:Option Addr}
   {osl:Array (Option Value)} {N ps:List Str} {sp:Sp} (lk:K.lookup f=some ⟨oc,od,.func (PySem.W.fnOf name qual params body scope dV kV doc pm an cdv ct),osl⟩) (hcd:PySem.W.codeIn K cdv qual=true) (S:FnScope N ps scope)
   (len:∀vs H Q E,sp vs H Q E ->vs.length=ps.length)
   (hbody:∀(A:Around) (outer:List Env) (s:Shared) (H:Hp) (vs:List V) (Q:VK) (E:XK),A.guards=some [] ->Room k (A.deeper (envOfC qual scope s.heap.objs.size f cdv)) ->sp vs H Q E ->
     ∃t,PSs (A0b CX P w K mg base N qual scope f cdv A outer s H E) body t/\t {nx:=fun _ H'=>Q .non H',rt:=Q} (A2t N vs) H):
   FnOkG P w K mg base CX (k+1) f (PySem.W.fnOf name qual params body scope dV kV doc pm an cdv ct) ps sp:=by
 refine⟨len,fun A outer s H args us vs Q E hgd hr e0 hb r hsp=>?_⟩
 have hl:=len _ _ _ _ hsp
 have KX:K.In s.heap:=e0.mod.kin.keeps fun b o e=>(e0.bs b o e).1
 have lim:s.heap.NoLimit:=e0.mod.nolimit.keeps fun b o e=>(e0.bs b o e).1
 have hkind:∀y∈ps.zip us,scope.names.lookup y.1=some .local\/(scope.names.lookup y.1=some .cell/\((cellsFrom (s.heap.objs.size+1) scope.names []).lookup y.1).isSome=true):=fun⟨n,v⟩ hy=>by
   rcases S.par n (List.of_mem_zip hy).1 with q|q
   . exact .inl q
   . exact .inr ⟨q,PySem.W.cellsFrom_some _ _ _ (.inl q)⟩
 refine codeAny_call_function hr.depth (KX _ _ lk) rfl S.co S.gen rfl (PySem.W.codeRec_of KX hcd) (hb _ _ _ _ ?_)
 refine wpAny_newFunctionEnv_cells S.kind hkind fun env he s1 x=>?_
 subst he
 refine⟨lim.keeps x.toInCall.keep,codeAny_func ?_⟩
 obtain⟨t,ht,hq⟩:=hbody A outer s H vs Q E hgd (hr.deeper _) hsp
 have I:Inv (A0b CX P w K mg base N qual scope f cdv A outer s H E) [] (A2t N vs) H s1:=C8v S hr.hd e0 hl r x
 refine wpAny_mono (ht [] s1 (A2t N vs) H _ I hq) (fun fl s' hs=>?_) fun e s' hs=>hs
 have fin:∀{σ':St} {H':Hp} {v:V} {u:Value},Inv (A0b CX P w K mg base N qual scope f cdv A outer s H E) [] σ' H' s' ->RelV v u ->Q v H' ->CE outer P w H s Q u s':=
   fun{σ' H' v u} J rv q=>⟨v,H',J.os,J.bare,J.base,J.hok,rv,q⟩
 cases fl with
 | ret u=>
   obtain⟨v,σ',H',J,rv,q⟩:=hs
   exact fin J rv q
 | next=>
   obtain⟨σ',H',J,q⟩:=hs
   exact fin (v:=V.non) (u:=Value.none) J rfl q
 | brk=>
   obtain⟨_,_,_,q⟩:=hs
   exact False.elim q
 | cont=>
   obtain⟨_,_,_,q⟩:=hs
   exact False.elim q
open PySem.W in
theorem Fun.okEG{P:Program}{w:World}{K:Frag}{mg:Str ->Option Value}{base:Heap}{x qual:Str}{st:Stmt}{f:Addr}{fd:FuncData}{N ps:List Str}{k:Nat}{sp:Sp}(F:Fun K x qual st f fd)(S:FnScope N ps (A1 st))(len:∀vs H Q E,sp vs H Q E ->vs.length=ps.length)
   (hbody:∀(X:Cx) (cdv:Value) (A:Around) (outer:List Env) (s:Shared) (H:Hp) (vs:List V) (Q:VK) (E:XK),X=A0b (CX1 P w) P w K mg base N qual (A1 st) f cdv A outer s H E ->X.A.guards=some [] ->Room k X.A ->G2 X (fun C dd _ H'=>E C dd H') ->sp vs H Q E ->
     ∃t,PSs (A0b (CX1 P w) P w K mg base N qual (A1 st) f cdv A outer s H E) (B8 st) t/\t {nx:=fun _ H'=>Q .non H',rt:=Q} (A2t N vs) H):FnOkG P w K mg base (CX1 P w) (k+1) f fd ps sp:=by
 obtain⟨oc,od,kV,doc,pm,an,cdv,ct,osl,rfl,lk,hc⟩:=F.ex
 exact U6z lk hc S len fun A outer s H vs Q E hg hr h=>hbody _ cdv A outer s H vs Q E rfl hg hr A5b h
end L2
namespace L2
open PySem PySem.Spec PyProof.Rows PySem.W
mutual
inductive RdR(H:Hp):V ->PyData ->Prop where
 |non:RdR H .non .none
 |bl (b:Bool):RdR H (.bl b) (.bool b)
 |int (i:Int):RdR H (.int i) (.int i)
 |str (x:Str):RdR H (.str x) (.str x)
 |tup {a:Addr} {xs:List V} {ds:List PyData} (h:H a=some (.tup xs)) (r:RdRs H xs ds):RdR H (.ref a) (.tuple ds)
 |lst {a:Addr} {xs:List V} {ds:List PyData} (h:H a=some (.lst xs)) (n:a≠sysModules) (r:RdRs H xs ds):RdR H (.ref a) (.list ds)
 |dct0 {a:Addr} (h:H a=some (.dK [])):RdR H (.ref a) (.dict [])
 |dct1 {a:Addr} {z:Str} {b:Bool} (h:H a=some (.dK [(.inr z,.bl b)])):RdR H (.ref a) (.dict [(.str z,.bool b)])
inductive RdRs(H:Hp):List V ->List PyData ->Prop where
 |nil:RdRs H [] []
 |cons {x:V} {xs:List V} {d:PyData} {ds:List PyData} (h:RdR H x d) (r:RdRs H xs ds):RdRs H (x::xs) (d::ds)
end
mutual
theorem RdR.same{H H':Hp}(s:∀b o,H b=some o ->H' b=some o):∀{x:V} {d:PyData},RdR H x d ->RdR H' x d
 |_,_,.non=> .non
 |_,_,.bl b=> .bl b
 |_,_,.int i=> .int i
 |_,_,.str x=> .str x
 |_,_,.tup h r=> .tup (s _ _ h) (RdRs.same s r)
 |_,_,.lst h n r=> .lst (s _ _ h) n (RdRs.same s r)
 |_,_,.dct0 h=> .dct0 (s _ _ h)
 |_,_,.dct1 h=> .dct1 (s _ _ h)
theorem RdRs.same{H H':Hp}(s:∀b o,H b=some o ->H' b=some o):∀{x:List V} {d:List PyData},RdRs H x d ->RdRs H' x d
 |_,_,.nil=> .nil
 |_,_,.cons h r=> .cons (RdR.same s h) (RdRs.same s r)
end
section
variable{X:Cx}
mutual
theorem RdR.reads{pins:List (Addr×Obj)}{σ:St}{H:Hp}{s:Shared}(I:Inv X pins σ H s):∀{x:V} {d:PyData} {u:Value},RdR H x d ->RelV x u ->∃as,Reads s.heap u d as/\sysModules ∉ as
 |_,_,_,.non,r=>by cases r;exact⟨_,.none,by simp⟩
 |_,_,_,.bl b,r=>by cases r;exact⟨_,.bool b,by simp⟩
 |_,_,_,.int i,r=>by obtain⟨t,rfl⟩:=r;exact⟨_,.int i t,by simp⟩
 |_,_,_,.str x,r=>by obtain⟨t,rfl⟩:=r;exact⟨_,.str x t,by simp⟩
 | _,_,_,.tup h q,r=>by
   cases r
   obtain⟨_,its,rv,o,e,c,n,d⟩:=I.hok _ _ h
   obtain⟨as,z,y⟩:=RdRs.reads I q rv
   exact⟨_,.tuple e c d (by simpa using z),y⟩
 | _,_,_,.lst (a:=a) h nn q,r=>by
   cases r
   obtain⟨_,its,n,rv,e⟩:=I.hok _ _ h
   obtain⟨as,z,y⟩:=RdRs.reads I q rv
   refine⟨_,.list e rfl rfl (by simpa using z),fun hm=>?_⟩
   rcases List.mem_cons.mp hm with hm|hm
   . exact nn hm.symm
   . exact y hm
 | _,_,_,.dct0 (a:=a) h,r=>by
   cases r
   obtain⟨_,nS,vs,kv,o,es,ep,e,c,d,_,ps,_⟩:=I.hok _ _ h
   cases kv
   cases hp:es.toList with
   |cons _ _=>rw[hp] at ps;cases ps
   | nil=>
     refine⟨_,.dict (kvs:=[]) e c.1 d (by rw[hp];exact .nil) (by rw[hp];exact .nil),fun hm=>?_⟩
     exact beq_eq_false_iff_ne.mp nS (by simpa using hm:sysModules=a).symm
 | _, _, _,.dct1 (a:=a) (z:=z) (b:=b) h,r=>by
   cases r
   obtain⟨_,nS,vs,kv,o,es,ep,e,c,d,_,ps,_⟩:=I.hok _ _ h
   cases kv with
   | cons k1 k2=>
     cases k2
     obtain⟨k1a,k1b⟩:=k1
     cases ps':es.toList with
     |nil=>rw[ps'] at ps;cases ps
     | cons en rest=>
       rw[ps'] at ps
       cases ps with
       | cons p1 p2 p3=>
         cases p3
         have hk:∃t,en.key= .str z t:=by
           rw[<-k1a] at p1
           have p1:Value.isStrOf z en.key=true:=p1
           cases hk:en.key<;>rw[hk] at p1<;>simp[Value.isStrOf] at p1
           subst p1
           exact⟨_,rfl⟩
         obtain⟨t,hk⟩:=hk
         have hv:en.val= .bool b:=p2.trans k1b
         refine⟨_,.dict (kvs:=[(.str z,.bool b)]) e c.1 d (by rw[ps'];show ReadsAll s.heap [en.key] [.str z] _;rw[hk];exact .cons (.str z t) .nil) (by rw[ps'];show ReadsAll s.heap [en.val] [.bool b] _;rw[hv];exact .cons (.bool b) .nil),fun hm=>?_⟩
         exact beq_eq_false_iff_ne.mp nS (by simpa using hm:sysModules=a).symm
theorem RdRs.reads{pins:List (Addr×Obj)}{σ:St}{H:Hp}{s:Shared}(I:Inv X pins σ H s):∀{xs:List V} {ds:List PyData} {us:List Value},RdRs H xs ds ->Vals xs us ->∃as,ReadsAll s.heap us ds as/\sysModules ∉ as
 |_,_,_,.nil,r=>by cases r;exact⟨_,.nil,by simp⟩
 | _,_,_,.cons h q,r=>by
   cases r with
   | cons r1 r2=>
     obtain⟨as,z,n1⟩:=RdR.reads I h r1
     obtain⟨bs,y,n2⟩:=RdRs.reads I q r2
     exact⟨_,.cons z y,by simp[n1,n2]⟩
end
end
section
variable{X:Cx}{j k:Nat}{f C:Addr}{fd:FuncData}{ps:List Str}{sp:Sp}{dvs:List V}{ds:List Value}{x m:Str}{p pos apos:Pos}{e o:Expr}{es:List Expr}{ta:TE}{t:TA}{st:Stmt}
end
structure LamB(mg:Str ->Option Value)(base:Heap)(c P:Addr):Prop where
 code:CodeHd base c P
 bm:∃bm ob,mg "__builtins__"=some (.ref bm)/\bm≠builtinsNs/\bm≠mainGlobals/\base.get? bm=some ob/\ob.cls= .type "module"/\ob.dict=some builtinsNs/\ob.data= .plain
noncomputable def Y6q (oc:Obj) (qual:Str):Prop:=∃vs t,oc.data= .fields vs/\vs[1]?=some (.str qual t)
noncomputable def TabOk (P:Addr) (pos:Pos) (qual:Str) (H:Hp):Prop:=∃ps,H P=some (.tbl ps)/\TriplesOk ps.toList/\(codeAmong pos ps.toList=none\/∃c' oc,codeAmong pos ps.toList=some (.ref c')/\H c'=some (.frz oc (.own c'))/\Y6q oc qual)
noncomputable def LamAt (H:Hp) (f:Addr) (qual:Str) (params:Arguments) (body:Expr) (scope:Scope) (clos:List (Str×Addr)):Prop:=
 ∃pm c' ctv oc,H f=some (.frz (kla_obj "<lambda>" qual params body scope clos pm c' ctv) (.own f))/\H c'=some (.frz oc (.own c'))/\Y6q oc qual
noncomputable def SameT (P:Addr) (H H':Hp):Prop:=∀b o,b≠P ->H b=some o ->H' b=some o
noncomputable def Z8s (P:Addr) (pos:Pos) (qual:Str) (params:Arguments) (body:Expr) (scope:Scope) (clos:List (Str×Addr)):TE:=fun _ H Q=>TabOk P pos qual H/\∀f H',SameT P H H' ->H f=none ->LamAt H' f qual params body scope clos ->TabOk P pos qual H' ->(∀pos' q',(pos'.line≠pos.line\/pos'.col≠pos.col) ->TabOk P pos' q' H ->TabOk P pos' q' H') ->Q (.ref f) H'
theorem B4t{a b c:Value}{n m:Int}{t u:Tok}:∀l:List Value,TriplesOk l ->TriplesOk (l++ [.int n t,.int m u,c]):=by
 intro l h
 fun_induction TriplesOk l with
 |case1=>exact True.intro
 |case2 _ _ _ _ _ rest ih=>exact ih h
 |case3=>exact h.elim
theorem G7c{pos pos':Pos}{c:Value}(hp:pos'.line≠pos.line\/pos'.col≠pos.col):∀l:List Value,TriplesOk l ->codeAmong pos' (l++ [rawInt pos.line,rawInt pos.col,c])=codeAmong pos' l:=by
 intro l h
 fun_induction TriplesOk l with
 | case1=>
   have:¬(((pos.line:Int)==(pos'.line:Int)&&(pos.col:Int)==(pos'.col:Int))=true):=by
     intro z
     simp only[Bool.and_eq_true,beq_iff_eq] at z
     omega
   show(if((pos.line:Int)==(pos'.line:Int)&&(pos.col:Int)==(pos'.col:Int))=true then some c else codeAmong pos' [])=none
   rw[if_neg this]
   rfl
 | case2 a t b u x rest ih=>
   show(if _ then _ else codeAmong pos' (rest++_))=(if _ then _ else codeAmong pos' rest)
   rw[ih h]
 |case3=>exact h.elim
theorem J8b{X:Cx}{c P:Addr}{params:Arguments}{body:Expr}{scope:Scope}{pos:Pos}{clos:List (Str×Addr)}(L:LamB X.mg X.base c P)(hc:X.env.code= .ref c)(hcl:closureFor scope X.env=pure clos)(hex:X.ex=[]:=by rfl)(hdef:defaultsOf params X.env=([],[]):=by rfl):
   PE X (.Lambda params body scope pos) (Z8s P pos (X.env.qual++"<lambda>") params body scope clos):=by
 intro pins s σ H Q I ⟨⟨ps,hP,ht,hcase⟩,k⟩
 obtain⟨bm,ob,b1,b2,b3,b4,b5,b6,b7⟩:=L.bm
 have hg:s.heap.Ns mainGlobals X.mg:=I.ok.mod.glob.keeps I.bk
 have hPo:s.heap.get? P=some (tabObj ps):=I.hok P _ hP
 have nP:∀b o,X.base.get? b=some o ->b≠P:=fun b o e z=>by
   have:=(I.bs b o e).2
   rw[z,hP] at this
   cases this
 have hgP:mainGlobals≠P:=by
   obtain⟨o,_,_,e,_⟩:=I.ok.mod.glob
   exact nP _ _ e
 refine kla_eval hdef ?_
 rcases hcase with hnf|⟨c',oc,hf,hc',ho⟩
 . refine kla_makeFunction hcl I.ok.glob hg hc (L.code.keeps I.bk) hPo ht hnf hgP ⟨bm,ob,b1,b2,b3,nP _ _ b4,I.bk _ _ b4,b5,b6,b7⟩ fun c' ctv h' tk hx hge hlt hrec htb=>?_
   obtain⟨c2,oc,vs,t,e2,hoc,hd,hv⟩:=hrec
   cases e2
   generalize hfo:kla_obj "<lambda>" (X.env.qual++"<lambda>") params body scope clos ((X.mg "__name__").getD .none) c' ctv=fo
   have kx:∀b o,b≠P ->s.heap.get? b=some o ->(h'.push fo).get? b=some o:=fun b o hb e=>Heap.get?_push_of_some _ (hx b o hb e)
   have fP:∀b,H b=none ->b≠P:=fun b n z=>by rw[z,hP] at n;cases n
   have I1 : Inv X pins σ (upd H P (.tbl (ps++ #[rawInt pos.line,rawInt pos.col,.ref c']))) {s with heap:=h'.push fo,toks:=tk}:=by
     refine I.un ⟨fun b o e n _ _=>kx b o (fP b n) e,fun b o e n _ _=>⟨o.slots,kx b o (fP b n) e⟩,fun b o e n _=>by rw[C6 (fP b n)];exact n,fun b o e _=>?_,fun b xs e=>?_,fun b o u e=>?_,fun b qs e=>?_⟩ fun b u e=>?_
     . by_cases hb:b=P
       . exact⟨_,by rw[hb];exact Heap.get?_push_of_some _ htb⟩
       . exact⟨o,kx b o hb e⟩
     . rw[C6 (by rintro rfl;rw[hP] at e;cases e)];exact e
     . rw[C6 (by rintro rfl;rw[hP] at e;cases e)];exact e
     . by_cases hb:b=P
       . subst hb
         rw[hP] at e
         cases e
         exact⟨_,A6⟩
       . exact⟨#[],by rw[C6 hb,e];simp⟩
     . by_cases hb:b=P
       . subst hb
         rw[A6] at e
         cases e
         exact Heap.get?_push_of_some _ htb
       . rw[C6 hb] at e
         refine(I.hok b u e).stay (fun d v hd q=>kx d v ?_ q) (fun d q=>?_) fun d xs q=>?_
         . rcases hd with rfl|hd
           . exact hb
           . rintro rfl
             rw[hP] at hd
             cases hd
         . rw[C6 (by rintro rfl;rw[hP] at q;cases q)];exact q
         . rw[C6 (by rintro rfl;rw[hP] at q;cases q)];exact q
   have nc:s.heap.get? c'=none:=Heap.get?_none_of_le hge
   have nf:s.heap.get? h'.objs.size=none:=Heap.get?_none_of_le (Nat.le_trans hge (Nat.le_of_lt hlt))
   have uc:H c'=none:=I.hok.new nc
   have uf:H h'.objs.size=none:=I.hok.new nf
   have cP:c'≠P:=fP c' uc
   have fP':h'.objs.size≠P:=fP _ uf
   have cf:c'≠h'.objs.size:=Nat.ne_of_lt hlt
   have I2:=I1.track (a:=c') (o:=oc) (I.nw hex nc (by rw[C6 cP];exact uc)) (Heap.get?_push_of_some _ hoc)
   have I3:=I2.track (a:=h'.objs.size) (o:=fo) (I.nw hex nf (by rw[C6 cf.symm,C6 fP'];exact uf)) (Heap.get?_push_size _ (by rw[<-hfo];rfl))
   refine⟨.ref h'.objs.size,_,I3,rfl,k _ _ (fun b o hb e=>?_) uf ⟨_,c',ctv,oc,by rw[A6,hfo],by rw[C6 cf,A6],vs,t,hd,hv⟩ ⟨ps++ #[rawInt pos.line,rawInt pos.col,.ref c'],by rw[C6 fP'.symm,C6 cP.symm,A6],?_,.inr ⟨c',oc,?_,by rw[C6 cf,A6],vs,t,hd,hv⟩⟩ fun pos' q' hp ⟨ps2,z1,z2,z3⟩=>⟨ps++ #[rawInt pos.line,rawInt pos.col,.ref c'],by rw[C6 fP'.symm,C6 cP.symm,A6],?_,?_⟩⟩
   . rw[C6 (by rintro rfl;rw[uf] at e;cases e),C6 (by rintro rfl;rw[uc] at e;cases e),C6 hb];exact e
   . rw[Array.toList_append]
     exact B4t (a:= .none) (b:= .none) _ ht
   . rw[Array.toList_append]
     exact codeAmong_snoc _ ht hnf
   . rw[Array.toList_append]
     exact B4t (a:= .none) (b:= .none) _ ht
   . rw[hP] at z1
     cases z1
     rw[Array.toList_append]
     have e:codeAmong pos' (ps.toList++ [rawInt pos.line,rawInt pos.col,Value.ref c'])=codeAmong pos' ps.toList:=G7c hp _ ht
     rcases z3 with z3|⟨c2,oc2,z4,z5,z6⟩
     . exact .inl (e.trans z3)
     . exact .inr ⟨c2,oc2,e.trans z4,by rw[C6 (by rintro rfl;rw[uf] at z5;cases z5),C6 (by rintro rfl;rw[uc] at z5;cases z5),C6 (by rintro rfl;rw[hP] at z5;cases z5)];exact z5,z6⟩
 . refine kla_makeFunctionHit hcl I.ok.glob hg hc (L.code.keeps I.bk) hPo ht hf ⟨bm,ob,b1,b2,b3,nP _ _ b4,I.bk _ _ b4,b5,b6,b7⟩ fun ctv h' tk hk hsz=>?_
   generalize hfo:kla_obj "<lambda>" (X.env.qual++"<lambda>") params body scope clos ((X.mg "__name__").getD .none) c' ctv=fo
   have nf:s.heap.get? h'.objs.size=none:=Heap.get?_none_of_le hsz
   have uf:H h'.objs.size=none:=I.hok.new nf
   have I1:Inv X pins σ H {s with heap:=h'.push fo,toks:=tk}:=I.kept fun b o e=>Heap.get?_push_of_some _ (hk b o e)
   have I3:=I1.track (a:=h'.objs.size) (o:=fo) (I.nw hex nf uf) (Heap.get?_push_size _ (by rw[<-hfo];rfl))
   have ne:∀b o,H b=some o ->b≠h'.objs.size:=fun b o e z=>by rw[z,uf] at e;cases e
   show∃v H',Inv X pins σ H' {s with heap:=h'.push (kla_obj "<lambda>" (X.env.qual++"<lambda>") params body scope clos ((X.mg "__name__").getD .none) c' ctv),toks:=tk}/\RelV v (.ref h'.objs.size)/\Q v H'
   rw[hfo]
   refine⟨.ref h'.objs.size,upd H h'.objs.size (.frz fo (.own h'.objs.size)),I3,rfl,k _ _ (fun b o hb e=>by rw[C6 (ne b o e)];exact e) uf ⟨_,c',ctv,oc,by rw[A6,hfo],by rw[C6 (ne _ _ hc')];exact hc',ho⟩ ⟨ps,by rw[C6 (ne _ _ hP)];exact hP,ht,.inr ⟨c',oc,hf,by rw[C6 (ne _ _ hc')];exact hc',ho⟩⟩ fun pos' q' hp ⟨ps2,z1,z2,z3⟩=>⟨ps2,by rw[C6 (ne _ _ z1)];exact z1,z2,z3.imp id fun⟨c2,oc2,z4,z5,z6⟩=>⟨c2,oc2,z4,by rw[C6 (ne _ _ z5)];exact z5,z6⟩⟩⟩
noncomputable def V0 (cs:List Addr) (H:Hp):Hp:=fun b=>if b∈cs then none else H b
noncomputable def Z2 (cs:List Addr) (H H':Hp):Hp:=fun b=>if b∈cs then H b else H' b
section
variable{cs:List Addr}{H H' H2:Hp}{b:Addr}{P:Program}{w:World}{h h':Heap}{fs:List Addr}
theorem B4m(hb:b∈cs):V0 cs H b=none:=by unfold V0;rw[if_pos hb]
theorem V7(hb:b ∉ cs):V0 cs H b=H b:=by unfold V0;rw[if_neg hb]
theorem B1h(n:H b=none):V0 cs H b=none:=by
 unfold V0
 split
 . rfl
 . exact n
theorem D1m(hb:b∈cs):Z2 cs H H' b=H b:=by unfold Z2;rw[if_pos hb]
theorem V2(hb:b ∉ cs):Z2 cs H H' b=H' b:=by unfold Z2;rw[if_neg hb]
noncomputable def AllFrz (cs:List Addr) (H:Hp):Prop:=∀c∈cs,∃o,H c=some (.frz o (.own c))
theorem AllFrz.out{u:HO}(A:AllFrz cs H)(e:H b=some u)(hu:∀o,u≠ .frz o (.own b)):b ∉ cs:=fun hb=>by
 obtain⟨o,z⟩:=A b hb
 rw[e] at z
 exact hu o (Option.some.inj z)
theorem AllFrz.hide{u:HO}(A:AllFrz cs H)(e:H b=some u)(hu:∀o,u≠ .frz o (.own b)):V0 cs H b=some u:=by rw[V7 (A.out e hu)];exact e
theorem HOk.hide(x:HOk P w H h)(A:AllFrz cs H):HOk P w (V0 cs H) h:=fun a o e=>by
 by_cases ha:a∈cs
 . rw[B4m ha] at e;cases e
 . rw[V7 ha] at e
   exact(x a o e).stay (fun _ _ _ q=>q) (fun d q=>A.hide q fun o z=>nomatch z) fun d xs q=>A.hide q fun o z=>nomatch z
theorem Y0q(u:Un fs [] (V0 cs H) H' h h')(A:AllFrz cs H):Un fs [] H (Z2 cs H H') h h' where
 keep:=fun b o e n hb hx=>u.keep b o e (by unfold V0;split<;>first|rfl|exact n) hb hx
 slot:=fun b o e n hb hx=>u.slot b o e (by unfold V0;split<;>first|rfl|exact n) hb hx
 free:=fun b o e n hx=>by
   have hb:b ∉ cs:=fun z=>by
     obtain⟨o,q⟩:=A b z
     rw[n] at q;cases q
   rw[V2 hb]
   exact u.free b o e (by rw[V7 hb];exact n) hx
 there:=u.there
 tups:=fun b xs e=>by
   have hb:=A.out e fun o z=>nomatch z
   rw[V2 hb]
   exact u.tups b xs (by rw[V7 hb];exact e)
 frzs:=fun b o v e=>by
   by_cases hb:b∈cs
   . rw[D1m hb];exact e
   . rw[V2 hb];exact u.frzs b o v (by rw[V7 hb];exact e)
 tbls:=fun b ps e=>by
   have hb:=A.out e fun o z=>nomatch z
   rw[V2 hb]
   exact u.tbls b ps (by rw[V7 hb];exact e)
theorem J6k(u:Un fs [] (V0 cs H) H' h h')(A:AllFrz cs H)(x:HOk P w H h):∀c∈cs,H' c=none:=fun c hc=>by
 obtain⟨o,e⟩:=A c hc
 obtain⟨e1,_⟩:=x c _ e
 exact u.free c o e1 (B4m hc) (by simp)
theorem U4g(u:Un fs [] (V0 cs H) H' h h')(A:AllFrz cs H)(x:HOk P w H h)(x':HOk P w H' h')(hf:∀b∈fs,H b=none):HOk P w (Z2 cs H H') h':=fun a o e=>by
 have nn:=J6k u A x
 by_cases ha:a∈cs
 . rw[D1m ha] at e
   obtain⟨o',e'⟩:=A a ha
   rw[e] at e'
   cases e'
   obtain⟨e1,_⟩:=x a _ e
   have e2:=u.keep a o' e1 (B4m ha) (fun z=>by rw[hf a z] at e;cases e) (by simp)
   exact⟨e2,o',e2⟩
 . rw[V2 ha] at e
   refine(x' a o e).stay (fun _ _ _ q=>q) (fun d q=>?_) fun d xs q=>?_
   . rw[V2 fun z=>by rw[nn d z] at q;cases q];exact q
   . rw[V2 fun z=>by rw[nn d z] at q;cases q];exact q
theorem Y3n(u:Un fs [] H2 H' h h')(A:AllFrz cs H2)(ho:∀b,b ∉ cs ->H2 b=H b)(hn:∀b∈cs,H b=none)(x:HOk P w H2 h)(x':HOk P w H' h'):Un fs [] H (V0 cs H') h h':=by
 have kp:∀b o,b∈cs ->h.get? b=some o ->h'.get? b=some o:=fun b o hb e=>by
   obtain⟨o1,z⟩:=A b hb
   obtain⟨e1,_⟩:=x b _ z
   rw[e] at e1
   cases e1
   exact(x' b _ (u.frzs b _ _ z)).1
 have out:∀b v,H b=some v ->b ∉ cs:=fun b v e z=>by rw[hn b z] at e;cases e
 refine⟨fun b o e n hb hx=>?_,fun b o e n hb hx=>?_,fun b o e n hx=>?_,u.there,fun b xs e=>?_,fun b o v e=>?_,fun b ps e=>?_⟩
 . by_cases hc:b∈cs
   . exact kp b o hc e
   . exact u.keep b o e (by rw[ho b hc];exact n) hb hx
 . by_cases hc:b∈cs
   . exact⟨o.slots,kp b o hc e⟩
   . exact u.slot b o e (by rw[ho b hc];exact n) hb hx
 . by_cases hc:b∈cs
   . exact B4m hc
   . rw[V7 hc];exact u.free b o e (by rw[ho b hc];exact n) hx
 . rw[V7 (out b _ e)];exact u.tups b xs (by rw[ho b (out b _ e)];exact e)
 . rw[V7 (out b _ e)];exact u.frzs b o v (by rw[ho b (out b _ e)];exact e)
 . rw[V7 (out b _ e)];exact u.tbls b ps (by rw[ho b (out b _ e)];exact e)
end
noncomputable def U5r (H:Hp) (c:Addr) (v:V):Prop:=∃o u,H c=some (.frz o (.own c))/\o.data= .cell (some u)/\RelV v u
noncomputable def C0s (CX:CXT) (P:Program) (w:World) (K:Frag) (mg:Str ->Option Value) (base:Heap) (N:List Str) (qual:Str) (scope:Scope) (f:Addr) (cd:Value) (cl:List (Str×Addr)) (A:Around) (outer:List Env) (s:Shared) (H:Hp) (E:XK):Cx where
 prog:=P
 w:=w
 K:=K
 mg:=mg
 base:=base
 A:=A.deeper (envX qual scope s.heap.objs.size f cd cl)
 N:=N
 s₀:=s
 H₀:=H
 env:=envX qual scope s.heap.objs.size f cd cl
 outer:=outer
 stack:=envX qual scope s.heap.objs.size f cd cl::outer
 ex:=[]
 calm:=true
 fn:=fun _=>false
 pn:=[]
 xe:=fun e s'=>wpAny (model P w) (A.deeper (envX qual scope s.heap.objs.size f cd cl)) (leaving (envX qual scope s.heap.objs.size f cd cl) e) (fun _ s''=>CX outer H s E e s'') (fun e' s''=>CX outer H s E e' s'') s'
structure LamS(F:List Str)(sc:Scope):Prop where
 kind:sc.kind= .function
 co:sc.isCoroutine=false
 gen:sc.isGenerator=false
 nocell:∀y∈sc.names,y.2≠ .cell
 fr:∀y∈sc.names,y.2= .free ->y.1∈F
 at_:∀x∈F,sc.names.lookup x=some .free
 nd:F.Nodup
noncomputable def Y9q (f:Addr) (qual:Str) (params:Arguments) (body:Expr) (scope:Scope) (cl:List (Str×Addr)) (vs:List V) (H:Hp):Prop:=
 LamAt H f qual params body scope cl/\∀(i:Nat) (x:Str) (c:Addr),cl[i]?=some (x,c) ->∃v,vs[i]?=some v/\U5r H c v
theorem B5v:∀{cl:List (Str×Addr)} {i:Nat} {x:Str} {c:Addr},(cl.map (·.1)).Nodup ->cl[i]?=some (x,c) ->cl.lookup x=some c
 | [],i,x,c,_,h=>by cases i<;>cases h
 |(y,d)::r,0,x,c,_,h=>by cases h;simp[List.lookup]
 | (y,d)::r,i+1,x,c,nd,h=>by
   have nd':y ∉ r.map (·.1)/\(r.map (·.1)).Nodup:=List.nodup_cons.mp nd
   have hm:x∈r.map (·.1):=List.mem_map.mpr ⟨(x,c),List.mem_of_getElem? (by simpa using h),rfl⟩
   have ne:(x==y)=false:=beq_eq_false_iff_ne.mpr fun z=>nd'.1 (z▸hm)
   rw[List.lookup_cons,ne]
   exact B5v nd'.2 (by simpa using h)
theorem U5d:∀{cl:List (Str×Addr)} {x y:Str} {c:Addr},(cl.map (·.2)).Nodup ->(x,c)∈cl ->(y,c)∈cl ->x=y
 | p::r,x,y,c,nd,h1,h2=>by
   have nd':p.2 ∉ r.map (·.2)/\(r.map (·.2)).Nodup:=List.nodup_cons.mp nd
   rcases List.mem_cons.mp h1 with e1|h1<;>rcases List.mem_cons.mp h2 with e2|h2
   . rw[<-e1] at e2;cases e2;rfl
   . exact absurd (List.mem_map.mpr ⟨(y,c),h2,by rw[<-e1]⟩) nd'.1
   . exact absurd (List.mem_map.mpr ⟨(x,c),h1,by rw[<-e2]⟩) nd'.1
   . exact U5d nd'.2 h1 h2
theorem G1t{P:Program}{w:World}{K:Frag}{mg:Str ->Option Value}{base:Heap}{N:List Str}{qual:Str}{scope:Scope}{f:Addr}{cd:Value}{cl:List (Str×Addr)}{A:Around}{outer:List Env}{s:Shared}{H:Hp}{E:XK}:
   G2 (C0s (CX1 P w) P w K mg base N qual scope f cd cl A outer s H E) (fun C dd _ H'=>E C dd H'):=by
 intro pins σ H' s' a t C dd I F h
 refine C9p (X:=C0s (CX1 P w) P w K mg base N qual scope f cd cl A outer s H E) ⟨rfl,rfl,rfl⟩ I F fun s2 I2 F2=>?_
 obtain⟨na,T,oT,ts,e,ne,nT,eT,dT,h3⟩:=F2
 exact⟨a,t,C,dd,H',rfl,I2.os,I2.bare,I2.base,I2.hok,h,⟨na.old,na.un⟩,T,oT,ts,e,ne,⟨nT.old,nT.un⟩,eT,dT,h3⟩
section
variable{X:Cx}{j k:Nat}{f:Addr}{fd:FuncData}{ps:List Str}{sp:Sp}{ds:List Value}{EH:EK}{x:Str}{p pos:Pos}{e:Expr}{es:List Expr}{t:TA}{st:Stmt}
noncomputable def Y8z (sp:Sp) (cl:List (Str×Addr)) (js:List Nat) (EH:EK) (t:TA):TE:=fun σ H Q=>t σ H fun vs H1=>(∀c∈cl.map (·.2),H1 c=none) ->∀H2,(∀b,b ∉ cl.map (·.2) ->H2 b=H1 b) ->AllFrz (cl.map (·.2)) H2 ->
 (∀(i:Nat) (x:Str) (c:Addr) (j:Nat) (v:V),cl[i]?=some (x,c) ->js[i]?=some j ->σ[j]?=some (some v) ->U5r H2 c v) ->
 sp vs H2 (fun v H'=>(∀c∈cl.map (·.2),H' c=H2 c) ->Q v (V0 (cl.map (·.2)) H')) (fun C d H'=>(∀c∈cl.map (·.2),H' c=H2 c) ->EH C d σ (V0 (cl.map (·.2)) H'))
structure CellsZ(cl:List (Str×Addr))(js:List Nat)(XN:List Str)(env:Env):Prop where
 at_:∀(i:Nat) (x:Str) (c:Addr),cl[i]?=some (x,c) ->env.cells.lookup x=some c/\env.kindOf x=some .cell/\∀j,js[i]?=some j ->XN[j]?=some x
theorem U7j{cl:List (Str×Addr)}{js:List Nat}(D:Def X.K X.mg x ps st f fd)(F:FnOkG X.prog X.w X.K X.mg X.base (CX1 X.prog X.w) j f fd ps sp)(hgd:X.A.guards=some [])(hr:Room k X.A)(hx:G2 X EH)(Z:CellsZ cl js X.N X.env)(ha:PA X (e::es) t)(hj:j<=k:=by decide)(hfn:∀y,X.fn y=true:=by intro _;rfl)(hg:Gl X x:=by rfl)(hex:X.ex=[]:=by rfl)
   (hdb:(x==("__debug__":Str))=false:=by decide) (he:starEach (e::es) X.env=(false,eval e X.env)::starEach es X.env:=by rfl) (hpl:(backTo pos (starEach es X.env)).any (·.1)=false:=by rfl):PE X (.Call (.Name x p) (e::es) [] pos) (Y8z sp cl js EH t):=by
 intro pins s0 σ H0 Q I0 h0
 refine wpAny_Call_Name_kw (A1e I0 hg D.g ?_ hdb)
 refine PySem.W.callWith_K (h₀:=X.base) I0.ok.mod.kin D.F.kp (thn (ha pos pins s0 σ H0 _ I0 h0) fun us s ⟨vs,H,I,r,q⟩=>⟨I.kIn,?_⟩) he hpl
 have inn:∀c∈cl.map (·.2),∃x,X.env.cells.lookup x=some c:=fun c hc=>by
   obtain⟨⟨y,c2⟩,hm,rfl⟩:=List.mem_map.mp hc
   obtain⟨i,hi⟩:=List.mem_iff_getElem?.mp hm
   exact⟨y,(Z.at_ i y c2 hi).1⟩
 have hn:∀c∈cl.map (·.2),H c=none:=fun c hc=>by
   obtain⟨y,hy⟩:=inn c hc
   exact I.freeC y c hy
 have hc:∀c∈cl.map (·.2),∃o v,s.heap.get? c=some o/\o.data= .cell v:=fun c hc=>by
   obtain⟨y,hy⟩:=inn c hc
   obtain⟨v,o,h1,h2⟩:=I.cell y c hy
   exact⟨o,v,h1,h2⟩
 let H2:Hp:=fun b=>if b∈cl.map (·.2) then(s.heap.get? b).map fun o=> .frz o (.own b) else H b
 have h2i:∀c o,c∈cl.map (·.2) ->s.heap.get? c=some o ->H2 c=some (.frz o (.own c)):=fun c o hc e=>by
   show(if c∈cl.map (·.2) then _ else _)=_
   rw[if_pos hc,e]
   rfl
 have h2o:∀b,b ∉ cl.map (·.2) ->H2 b=H b:=fun b hb=>if_neg hb
 have A2:AllFrz (cl.map (·.2)) H2:=fun c hcc=>by
   obtain⟨o,v,h1,_⟩:=hc c hcc
   exact⟨o,h2i c o hcc h1⟩
 have out:∀b u,H b=some u ->b ∉ cl.map (·.2):=fun b u e z=>by rw[hn b z] at e;cases e
 have hok2:HOk X.prog X.w H2 s.heap:=fun b u e=>by
   by_cases hb:b∈cl.map (·.2)
   . obtain⟨o,v,h1,_⟩:=hc b hb
     rw[h2i b o hb h1] at e
     cases e
     exact⟨h1,o,h1⟩
   . rw[h2o b hb] at e
     exact(I.hok b u e).stay (fun _ _ _ q=>q) (fun d q=>by rw[h2o d (out d _ q)];exact q) fun d xs q=>by rw[h2o d (out d _ q)];exact q
 have ncell:∀b o,b∈cl.map (·.2) ->s.heap.get? b=some o ->∃v,o.data= .cell v:=fun b o hb e=>by
   obtain⟨o',v,h1,h2⟩:=hc b hb
   rw[e] at h1
   cases h1
   exact⟨v,h2⟩
 have e2 :Env0 X.prog X.w X.K X.mg X.base X.A X.stack s H2:=by
   have e0:=I.env0
   refine⟨e0.frames,e0.mod,fun b o z=>⟨(e0.bs b o z).1,?_⟩,e0.bsz,e0.funs,fun b hb=>?_,hok2,e0.bare⟩
   . rw[h2o b fun z2=>?_]
     . exact(e0.bs b o z).2
     . obtain⟨y,hy⟩:=inn b z2
       have:=Nat.le_trans I.ok.bsz (I.ok.cab y b (hfn y) hy)
       exact absurd (Nat.lt_of_lt_of_le (Heap.lt_size z) this) (Nat.lt_irrefl _)
   . rw[h2o b fun z2=>?_]
     . exact e0.frf b hb
     . obtain⟨y,hy⟩:=inn b z2
       rcases List.mem_cons.mp (I.stkSub b hb) with z3|z3
       . exact I.cne y b hy z3
       . obtain⟨_,o,ho,_⟩:=I.ok.funs.mem z3
         exact absurd (Nat.lt_of_lt_of_le (Heap.lt_size ho) (I.ok.cab y b (hfn y) hy)) (Nat.lt_irrefl _)
 have q2:=q hn H2 h2o A2 fun i y c j v h1 h2 h3=>by
   obtain⟨z1,z2,z3⟩:=Z.at_ i y c h1
   obtain⟨m,_,hl⟩:=I.loc
   obtain⟨u,r,l⟩:=hl j y v (z3 j h2) h3 (.inr (.inl z2))
   rcases l with⟨k,_⟩|⟨_,c',h4,o,h5,h6⟩
   . rw[z2] at k;cases k
   . rw[z1] at h4
     cases h4
     exact⟨o,u,h2i c o (List.mem_map.mpr ⟨(y,c),List.mem_of_getElem? h1,rfl⟩) h5,h6,r⟩
 have hl:us.length=ps.length:=by rw[<-r.length];exact F.len _ _ _ _ q2
 refine wpAny_call (codeAny_mono (F.run X.A X.stack s H2 ⟨us,[]⟩ us vs _ _ hgd (hr.mono hj) e2 (by have:=D.b s us I.kIn (by simpa using hl);simpa using this) r q2) fun r s' hq=>?_)
 have fin:∀{H':Hp},Un (frs X.stack) [] H2 H' s.heap s'.heap ->HOk X.prog X.w H' s'.heap ->Un (frs X.stack) [] H (V0 (cl.map (·.2)) H') s.heap s'.heap/\HOk X.prog X.w (V0 (cl.map (·.2)) H') s'.heap/\∀c∈cl.map (·.2),H' c=H2 c:=fun{H'} un hok=>by
   have same:∀c∈cl.map (·.2),H' c=H2 c:=fun c hcc=>by
     obtain⟨o,z⟩:=A2 c hcc
     rw[z]
     exact un.frzs c o _ z
   exact⟨Y3n un A2 h2o hn hok2 hok,hok.hide fun c hcc=>by rw[same c hcc];exact A2 c hcc,same⟩
 cases r with
 | error e=>
   obtain⟨a,t,C,dd,H',rfl,os,bare,un,hok,hE,⟨a1,a2⟩,T,oT,ts,z,ne,⟨t1,t2⟩,rest⟩:=hq
   obtain⟨r1,r2,r3⟩:=fin un hok
   exact Y2m hx hex I ⟨a,t,C,dd,_,rfl,os,bare,r1,r2,hE r3,⟨a1,B1h a2⟩,T,oT,ts,z,ne,⟨t1,B1h t2⟩,rest⟩
 | ok fl=>
   cases fl with
   | ret u=>
     obtain⟨v,H',os,bare,un,hok,rv,q3⟩:=hq
     obtain⟨r1,r2,r3⟩:=fin un hok
     exact I.after ⟨v,_,os,bare,r1,r2,rv,q3 r3⟩
   |next=>exact False.elim hq
   |brk=>exact False.elim hq
   |cont=>exact False.elim hq
end
theorem J8g{c P0:Addr}{P:Program}{w:World}{K:PySem.W.Frag}{mg mb:Str ->Option Value}{CX:CXT}{k:Nat}{fa a:Addr}{fd:FuncData}{x:Str}{sp:Sp}{s₁:Shared}{vs:List Value}{ns:List Int}
   (hC:CodeHd s₁.heap c P0) (hT:s₁.heap.get? P0=some (tabObj #[])) (hKP:K.lookup P0=none) (hbm:∃bm ob,mg "__builtins__"=some (.ref bm)/\bm≠builtinsNs/\s₁.heap.get? bm=some ob/\ob.cls= .type "module"/\ob.dict=some builtinsNs/\ob.data= .plain)
   (KX:K.In s₁.heap) (hns:s₁.heap.Ns mainGlobals mg) (hb:s₁.heap.Ns builtinsNs mb) (hbb:∀x:Str,x≠"__name__" ->mb x=bootBuiltins x) (hlim:s₁.heap.NoLimit) (hg:s₁.gens= #[])
   (ha:s₁.heap.get? a=some {cls:= .type "list",data:= .seq vs.toArray}) (hi:IntsAre vs ns) (hl:ns.length<=sizeLine) (hr:Room k callerA)
   (F:∀base:Heap,K.In base ->base.Ns mainGlobals mg ->LamB mg base c P0 ->FnOkG P w K mg base CX k fa fd [x] sp) (hbind:∀(s:Shared) (u:Value),BindsTo s fd ⟨[u],[]⟩ [(x,u)])
   (hsp:∀H:Hp,H P0=some (.tbl #[]) ->SqL K H a (ns.map V.int) ->sp [.ref a] H (fun v _=>v= .bl true) fun _ _ _=>False)
   (hCX:∀H e s',CX [] H s₁ (fun _ _ _=>False) e s' ->False):
   codeAny (model P w) callerA (.call (.ref fa) ⟨[.ref a],[]⟩) (fun r s'=>r= .ok (.ret (.bool true))/\OldK s₁.heap s'.heap/\s'.os=s₁.os/\AllBare s'.gens) s₁:=by
 have rv:=C8t hi
 have lenV:=hi.length
 have core :∀H:Hp,H P0=some (.tbl #[]) ->(∀b,H b=none\/b=P0\/∃o xs,H b=some (.frz o (.lst xs))) ->SqL K H a (ns.map V.int) ->HOk P w H s₁.heap ->(∀b,H b≠none ->b=P0\/b=a) ->(H a≠none ->K.lookup a=none) ->
     codeAny (model P w) callerA (.call (.ref fa) ⟨[.ref a],[]⟩) (fun r s'=>r= .ok (.ret (.bool true))/\OldK s₁.heap s'.heap/\s'.os=s₁.os/\AllBare s'.gens) s₁:=by
   intro H hPt hO hS hok hA hK
   have base_of:∀{b:Addr} {o:Obj},s₁.heap.get? b=some o ->H b=none ->(C5b s₁.heap H).get? b=some o:=fun e n=>U4v e n
   have noA:∀{b:Addr} {o:Obj} {es:Array DictEntry} {ep:Nat},s₁.heap.get? b=some o ->o.data= .dict es ep ->H b=none:=fun{b o es ep} e d=>by
     cases q:H b with
     |none=>rfl
     | some u=>
       rcases hA b (by rw[q];simp) with e'|e'
       . subst e'
         rw[hT] at e;cases e
         have d':Data.fields #[]=Data.dict es ep:=d
         cases d'
       . subst e'
         rw[ha] at e;cases e
         have d':Data.seq vs.toArray _=Data.dict es ep:=d
         cases d'
   have nsK:∀{b:Addr} {m:Str ->Option Value},s₁.heap.Ns b m ->(C5b s₁.heap H).Ns b m:=fun{b m} ⟨o,es,ep,e,d,r⟩=>⟨o,es,ep,base_of e (noA e d),d,r⟩
   have hKb:K.In (C5b s₁.heap H):=fun b o e=>base_of (KX b o e) (by
     cases q:H b with
     |none=>rfl
     | some u=>
       rcases hA b (by rw[q];simp) with e'|e'
       . subst e'
         rw[hKP] at e;cases e
       . subst e'
         rw[hK (by rw[q];simp)] at e;cases e)
   have noC:∀{b:Addr} {o:Obj},s₁.heap.get? b=some o ->o≠tabObj #[] ->(∀n,o≠{cls:= .type "list",data:= .seq vs.toArray n}) ->H b=none:=fun{b o} e n1 n2=>by
     cases q:H b with
     |none=>rfl
     | some u=>
       rcases hA b (by rw[q];simp) with e'|e'
       . subst e'
         rw[hT] at e;cases e
         exact absurd rfl n1
       . subst e'
         rw[ha] at e;cases e
         exact absurd rfl (n2 _)
   have hLB:LamB mg (C5b s₁.heap H) c P0:=by
     refine⟨?_,?_⟩
     . obtain⟨o,vs1,file,tf,flags,tg,inF,text,tt,e1,r1,r2⟩:=hC
       exact⟨o,vs1,file,tf,flags,tg,inF,text,tt,base_of e1 (noC e1 (fun z=>by rw[z] at r1;cases r1) fun n z=>by rw[z] at r1;exact absurd (Value.type.inj r1) (by decide)),r1,r2⟩
     . obtain⟨bm,ob,b1,b2,b3,b4,b5,b6⟩:=hbm
       refine⟨bm,ob,b1,b2,?_,base_of b3 (noC b3 (fun z=>by rw[z] at b4;cases b4) fun n z=>by rw[z] at b4;exact absurd (Value.type.inj b4) (by decide)),b4,b5,b6⟩
       rintro rfl
       obtain⟨o,es,ep,e,d,_⟩:=hns
       rw[b3] at e;cases e
       rw[b6] at d;cases d
   have hM:Mod K mg (C5b s₁.heap H):=⟨hKb,nsK hns,⟨mb,nsK hb,hbb⟩,let⟨mc,h1,h2⟩:=hlim;⟨mc,nsK h1,h2⟩⟩
   have e0:Env0 P w K mg (C5b s₁.heap H) callerA [] s₁ H:=⟨rfl,hM,fun b o e=>Y1c e,Nat.le_of_eq (J9r _ _),trivial,fun b hb=>absurd (show b∈([]:List Addr) from hb) (by simp),hok,.of_eq hg⟩
   refine codeAny_mono ((F _ hKb (nsK hns) hLB).run callerA [] s₁ H ⟨[.ref a],[]⟩ [.ref a] [.ref a] _ _ rfl hr e0 (hbind s₁ (.ref a)) (.cons rfl .nil) (hsp H hPt hS)) fun r s' h=>?_
   cases r with
   |error e=>exact(hCX H e s' h).elim
   | ok fl =>
     cases fl with
     |next=>exact False.elim h
     |brk=>exact False.elim h
     |cont=>exact False.elim h
     | ret u=>
       obtain⟨v,H',os,bare,un,hok',r',q⟩:=h
       have q':v= .bl true:=q
       subst q'
       obtain rfl:u=Value.bool true:=r'
       obtain⟨more,hm⟩:=un.tbls P0 _ hPt
       have hP':s'.heap.get? P0=some (tabObj (#[]++more)):=hok' P0 _ hm
       have kp:∀b o,b≠P0 ->s₁.heap.get? b=some o ->s'.heap.get? b=some o:=fun b o nb e=>?_
       refine⟨rfl,⟨fun b o e=>?_,fun b o e=>?_⟩,os,bare⟩
       . by_cases hb:b=P0
         . subst hb
           rw[hT] at e
           cases e
           exact .inr (.inl ⟨(hC.tab hT).isCodeTable,rfl, #[],more,rfl,hP'⟩)
         . exact .inl (kp b o hb e)
       . by_cases hb:b=P0
         . exact⟨_,by rw[hb];exact hP'⟩
         . exact⟨o,kp b o hb e⟩
       cases q:H b with
       |none=>exact un.keep b o e q (by intro z;exact absurd (show b∈([]:List Addr) from z) (by simp)) (by simp)
       | some u=>
         rcases hO b with z|z|⟨ob,xs,z⟩
         . rw[q] at z;cases z
         . exact absurd z nb
         . have z2:=un.frzs b ob _ z
           obtain⟨e1,_⟩:=hok b _ z
           obtain⟨e2,_⟩:=hok' b _ z2
           rw[e] at e1;cases e1
           exact e2
 have nPa:P0≠a:=fun z=>by rw[z,ha] at hT;cases hT
 cases hk:K.lookup a with
 | some o=>
   have e:=KX a o hk
   rw[ha] at e
   cases e
   refine core (fun b=>if b=P0 then some (.tbl #[]) else none) (if_pos rfl) (fun b=>?_) (.inr ⟨_,vs.toArray,_,hk,rfl,rfl,rfl,by rw[List.size_toArray,lenV];exact hl,by simpa using rv⟩) (fun b u z=>?_) (fun b z=>?_) fun z=>absurd (if_neg nPa.symm) z
   . by_cases hb:b=P0
     . exact .inr (.inl hb)
     . exact .inl (if_neg hb)
   . by_cases hb:b=P0
     . have z':=(if_pos hb).symm.trans z
       cases z'
       subst hb
       exact hT
     . have z':=(if_neg hb).symm.trans z
       cases z'
   . by_cases hb:b=P0
     . exact .inl hb
     . exact absurd (if_neg hb) z
 | none=>
   refine core (fun b=>if b=P0 then some (.tbl #[]) else if b=a then some (.frz {cls:= .type "list",data:= .seq vs.toArray} (.lst (ns.map V.int))) else none) (if_pos rfl) (fun b=>?_) (.inl (.inr ⟨{cls:= .type "list",data:= .seq vs.toArray},(if_neg nPa.symm).trans (if_pos rfl)⟩)) (fun b u z=>?_) (fun b z=>?_) fun _=>hk
   . by_cases hp:b=P0
     . exact .inr (.inl hp)
     . by_cases hb:b=a
       . exact .inr (.inr ⟨_,_,(if_neg hp).trans (if_pos hb)⟩)
       . exact .inl ((if_neg hp).trans (if_neg hb))
   . by_cases hp:b=P0
     . have z':=(if_pos hp).symm.trans z
       cases z'
       subst hp
       exact hT
     . by_cases hb:b=a
       . have z':=((if_neg hp).trans (if_pos hb)).symm.trans z
         cases z'
         subst hb
         exact⟨ha,by rw[List.length_map];exact hl,vs,_,rv,ha⟩
       . have z':=((if_neg hp).trans (if_neg hb)).symm.trans z
         cases z'
   . by_cases hp:b=P0
     . exact .inl hp
     . by_cases hb:b=a
       . exact .inr hb
       . exact absurd ((if_neg hp).trans (if_neg hb)) z
theorem walk_ofL{c P0:Addr}{l:PySem.W.OpenLaw}{n k:Nat}{q:Program}{loose:List Str}{XP:(Str ->Option Value) ->Heap ->Prop}{YP:World ->Heap ->Prop}{d:DefRec}{K:Params ->PySem.W.Frag}{CX:World ->CXT}{sp:World ->Sp}{x:Str}
   (hn:l.most=some n) (hn2:n<=sizeLine) (hdf:d.params.defaults=[]) (hr:Room k callerA)
   (hY:∀(w:World) (h:Heap),YP w h ->(K w.params).In h/\CodeHd h c P0/\h.get? P0=some (tabObj #[])) (hKP:∀p,(K p).lookup P0=none)
   (F:∀(w:World) (mg:Str ->Option Value) (fa:Addr) (h:Heap),(K w.params).In h ->h.Ns mainGlobals mg ->mg d.name=some (.ref fa) ->
     ∃ fd:FuncData,(∀(s:Shared) (u:Value),BindsTo s fd ⟨[u],[]⟩ [(x,u)])/\
       ∀base:Heap,(K w.params).In base ->base.Ns mainGlobals mg ->LamB mg base c P0 ->FnOkG l.prog w (K w.params) mg base (CX w) k fa fd [x] (sp w))
   (hsp:∀(w:World) (H:Hp) (a:Addr) (ns:List Int),ns.length<=n ->H P0=some (.tbl #[]) ->SqL (K w.params) H a (ns.map V.int) ->sp w [.ref a] H (fun v _=>v= .bl true) fun _ _ _=>False)
   (hCX:∀(w:World) (H:Hp) (s:Shared) (e:Value) (s':Shared),CX w [] H s (fun _ _ _=>False) e s' ->False):
   PySem.W.WalkO q loose XP YP l.row.toRowW d [] (fun f vs=>PySem.call f vs):=by
 refine Att.attach_call hn hdf fun w s₀ s₁ mg mb fa o pm cd doc a vs ns G Y ho hd hcd hmg hobj hints hlen hg=>?_
 obtain⟨KX,hC,hT⟩:=hY w _ Y
 obtain⟨fd,hb,hF⟩:=F w mg fa _ KX G.T.g hmg
 exact J8g hC hT (hKP _) G.T.bmain KX G.T.g G.T.b G.T.builtins G.T.nolimit hg hobj hints (Nat.le_trans hlen hn2) hr hF hb (fun H hO hS=>hsp w H a ns hlen hO hS) fun H e s'=>hCX w H s₁ e s'
section
variable{X:Cx}
end
noncomputable def Z0a (H H':Hp):Prop:=∀b o,(∀ps,o≠ .tbl ps) ->H b=some o ->H' b=some o
theorem SameT.keep{P:Addr}{ps:Array Value}{H H':Hp}(s:SameT P H H')(h:H P=some (.tbl ps)):Z0a H H':=fun b o n e=>s b o (fun z=>by rw[z,h] at e;exact n ps (Option.some.inj e).symm) e
theorem TabOk.same{P:Addr}{pos:Pos}{q:Str}{H H':Hp}(h:TabOk P pos q H)(s:∀b o,H b=some o ->H' b=some o):TabOk P pos q H':=by
 obtain⟨ps,e,t,c⟩:=h
 exact⟨ps,s _ _ e,t,c.imp id fun⟨c',oc,a,b,d⟩=>⟨c',oc,a,s _ _ b,d⟩⟩
theorem TabOk.at{P:Addr}{pos:Pos}{q:Str}{H H':Hp}(h:TabOk P pos q H)(s:∀b o,H b=some o ->(b=P\/∃oc,o= .frz oc (.own b)) ->H' b=some o):TabOk P pos q H':=by
 obtain⟨ps,e,t,c⟩:=h
 exact⟨ps,s _ _ e (.inl rfl),t,c.imp id fun⟨c',oc,a,b,d⟩=>⟨c',oc,a,s _ _ b (.inr ⟨oc,rfl⟩),d⟩⟩
theorem SqL.kept{K:Frag}{H H':Hp}{a:Addr}{xs:List V}(h:SqL K H a xs)(s:∀o,H a=some o ->(o= .lst xs\/∃oc,o= .frz oc (.lst xs)) ->H' a=some o):SqL K H' a xs:=by
 rcases h with(h|⟨o,h⟩)|h
 . exact .inl (.inl (s _ h (.inl rfl)))
 . exact .inl (.inr ⟨o,s _ h (.inr ⟨o,rfl⟩)⟩)
 . exact .inr h
theorem Fun.okEL{P:Program}{w:World}{K:Frag}{mg:Str ->Option Value}{base:Heap}{x qual:Str}{st:Stmt}{f c:Addr}{fd:FuncData}{N ps:List Str}{k:Nat}{sp:Sp}(F:Fun K x qual st f fd)(hc0:fd.code= .ref c)(S:FnScope N ps (A1 st))(len:∀vs H Q E,sp vs H Q E ->vs.length=ps.length)
   (hbody:∀(X:Cx) (A:Around) (outer:List Env) (s:Shared) (H:Hp) (vs:List V) (Q:VK) (E:XK),X=A0b (CX1 P w) P w K mg base N qual (A1 st) f (.ref c) A outer s H E ->X.A.guards=some [] ->Room k X.A ->G2 X (fun C dd _ H'=>E C dd H') ->sp vs H Q E ->
     ∃t,PSs (A0b (CX1 P w) P w K mg base N qual (A1 st) f (.ref c) A outer s H E) (B8 st) t/\t {nx:=fun _ H'=>Q .non H',rt:=Q} (A2t N vs) H):FnOkG P w K mg base (CX1 P w) (k+1) f fd ps sp:=by
 obtain⟨oc,od,kV,doc,pm,an,cdv,ct,osl,rfl,lk,hc⟩:=F.ex
 obtain rfl:cdv= .ref c:=hc0
 exact U6z lk hc S len fun A outer s H vs Q E hg hr h=>hbody _ A outer s H vs Q E rfl hg hr A5b h
theorem LamAt.kept{H H':Hp}{f:Addr}{qual:Str}{params:Arguments}{body:Expr}{scope:Scope}{cl:List (Str×Addr)}(h:LamAt H f qual params body scope cl)(s:∀b o,H b=some (.frz o (.own b)) ->H' b=some (.frz o (.own b))):LamAt H' f qual params body scope cl:=by
 obtain⟨pm,c',ctv,oc,e1,e2,r⟩:=h
 exact⟨pm,c',ctv,oc,s _ _ e1,s _ _ e2,r⟩
section
variable{X:Cx}{tg:Expr}
end
section
variable{X:Cx}
end
section
variable{prog:Program}{w:World}{A:Around}{E:Value ->Shared ->Prop}{s:Shared}
end
section
variable{X:Cx}{pos:Pos}
end
section
variable{X:Cx}{pos tpos pa pb:Pos}
end
section
variable{X:Cx}{N F:List Str}{js:List Nat}{scope:Scope}
end
section
variable{X:Cx}{tg:Expr}
end
section
variable{X:Cx}{pins:List (Addr×Obj)}{σ:St}{H:Hp}{s:Shared}
end
section
variable{X:Cx}{tg:Expr}
end
end L2
namespace TR
open PySem L2 PySem.W PyProof.Rows
structure OwnK(K:Frag):Prop where
 isi:nsIn K mainGlobals "isinstance"=some none
 int_:nsIn K mainGlobals "int"=some none
 bool_:nsIn K mainGlobals "bool"=some none
 str_:nsIn K mainGlobals "str"=some none
 list_:nsIn K mainGlobals "list"=some none
 tuple_:nsIn K mainGlobals "tuple"=some none
 dict_:nsIn K mainGlobals "dict"=some none
 len_:nsIn K mainGlobals "len"=some none
 range_:nsIn K mainGlobals "range"=some none
 min_:nsIn K mainGlobals "min"=some none
 max_:nsIn K mainGlobals "max"=some none
 abs_:nsIn K mainGlobals "abs"=some none
 any_:nsIn K mainGlobals "any"=some none
 all_:nsIn K mainGlobals "all"=some none
 sum_:nsIn K mainGlobals "sum"=some none
 repr_:nsIn K mainGlobals "repr"=some none
 enumerate_:nsIn K mainGlobals "enumerate"=some none
 reversed_:nsIn K mainGlobals "reversed"=some none
 zip_:nsIn K mainGlobals "zip"=some none
 sorted_:nsIn K mainGlobals "sorted"=some none
 divmod_:nsIn K mainGlobals "divmod"=some none
 set_:nsIn K mainGlobals "set"=some none
 ValueError_:nsIn K mainGlobals "ValueError"=some none
end TR
namespace L2
open PySem PySem.Spec PyProof.Rows PySem.W
structure DeedOk1(P:Program)(w:World)(K:Frag)(mg:Str ->Option Value)(base:Heap)(k:Nat)(f:Addr)(J:Hp ->Prop)(sp:V ->Hp ->VK ->XK ->Prop):Prop where
 fn:∀H h,J H ->HOk P w H h ->FnAt f h
 run:∀(A:Around) (outer:List Env) (s:Shared) (H:Hp) (y:V) (u:Value) (Q:VK) (E:XK),Room k A ->Env0 P w K mg base A outer s H ->J H ->RelV y u ->sp y H Q E ->codeAny (model P w) A (.call (.ref f) ⟨[u],[]⟩) (CR (CX1 P w) outer P w H s Q E) s
theorem U6j{P:Program}{w:World}{K:Frag}{mg:Str ->Option Value}{base:Heap}{k:Nat}{f:Addr}{qual:Str}{params:Arguments}{body:Expr}{scope:Scope}{cl:List (Str×Addr)}{vs:List V}{sp:V ->Hp ->VK ->XK ->Prop}{pr:Str}
   (S:LamS (cl.map (·.1)) scope) (hp:scope.names.lookup pr=some .local) (hF:cl.length=vs.length) (hnd:(cl.map (·.2)).Nodup)
   (hb0:∀(pm:Value) (c':Addr) (ctv:Value) (u:Value),bindArgs (kla_fn "<lambda>" qual params body scope cl pm (.ref c') ctv) ⟨[u],[]⟩=pure [(pr,u)])
   (hbody:∀(X:Cx) (cdv:Value) (A:Around) (outer:List Env) (s:Shared) (H:Hp) (y:V) (Q:VK) (E:XK),X=C0s (CX1 P w) P w K mg base (pr::cl.map (·.1)) qual scope f cdv cl A outer s (V0 (cl.map (·.2)) H) (fun C d H'=>(∀c∈cl.map (·.2),H' c=none) ->E C d (Z2 (cl.map (·.2)) H H')) ->Room k X.A ->
     G2 X (fun C dd _ H'=>(∀c∈cl.map (·.2),H' c=none) ->E C dd (Z2 (cl.map (·.2)) H H')) ->sp y H Q E ->AllFrz (cl.map (·.2)) H ->
     ∃t,PE (C0s (CX1 P w) P w K mg base (pr::cl.map (·.1)) qual scope f cdv cl A outer s (V0 (cl.map (·.2)) H) (fun C d H'=>(∀c∈cl.map (·.2),H' c=none) ->E C d (Z2 (cl.map (·.2)) H H'))) body t/\t (some y::vs.map some) (V0 (cl.map (·.2)) H) (fun v H'=>(∀c∈cl.map (·.2),H' c=none) ->Q v (Z2 (cl.map (·.2)) H H'))):
   DeedOk1 P w K mg base (k+1) f (Y9q f qual params body scope cl vs) sp:=by
 refine⟨fun H h ⟨⟨pm,c',ctv,oc,e,_⟩,_⟩ hok=>?_,fun A outer s H y u Q E hr e0 ⟨⟨pm,c',ctv,oc,e,ec,vs',t',hd,hv⟩,hk⟩ ru hsp=>?_⟩
 . obtain⟨e1,_⟩:=hok f _ e
   exact⟨_,_,_,_,e1⟩
 obtain⟨e1,_⟩:=e0.hok f _ e
 obtain⟨e2,_⟩:=e0.hok c' _ ec
 have lim:s.heap.NoLimit:=e0.mod.nolimit.keeps fun b o e=>(e0.bs b o e).1
 have af:AllFrz (cl.map (·.2)) H:=by
   intro c hc
   obtain⟨⟨x,c2⟩,hm,rfl⟩:=List.mem_map.mp hc
   obtain⟨i,hi⟩:=List.mem_iff_getElem?.mp hm
   obtain⟨v,_,o,u,h3,_⟩:=hk i x c2 hi
   exact⟨o,h3⟩
 refine kla_callFunE hr.depth e1 rfl S.co S.gen rfl ⟨c',oc,vs',t',rfl,e2,hd,hv⟩ ?_
 rw[hb0]
 refine wpAny_pure (wpAny_newFunctionEnv S.nocell (fun x hx=>by rw[List.mem_singleton.mp hx];exact hp) (fun h1 hns hsb=>?_) S.kind)
 have hk1:∀b o,s.heap.get? b=some o ->h1.get? b=some o:=fun b o e=>(hsb.2 b (Nat.ne_of_lt (Heap.lt_size e))).trans (Heap.get?_push_of_some _ e)
 refine⟨lim.keeps hk1,?_⟩
 obtain⟨t,ht,hq⟩:=hbody _ (.ref c') A outer s H y Q E rfl (hr.deeper _) G1t hsp af
 have hokH:HOk P w (V0 (cl.map (·.2)) H) s.heap:=e0.hok.hide af
 have look:∀x c,cl.lookup x=some c ->(x,c)∈cl:=fun x c z=>PySem.mem_of_lookup z
 have cell:∀x c,cl.lookup x=some c ->∃v,s.heap.IsCell c v:=fun x c z=>by
   obtain⟨i,hi⟩:=List.mem_iff_getElem?.mp (look x c z)
   obtain⟨v,_,o,u,h3,h4,_⟩:=hk i x c hi
   exact⟨_,o,(e0.hok c _ h3).1,h4⟩
 have incs:∀x c,cl.lookup x=some c ->c∈cl.map (·.2):=fun x c z=>List.mem_map.mpr ⟨(x,c),look x c z,rfl⟩
 generalize hX:C0s (CX1 P w) P w K mg base (pr::cl.map (·.1)) qual scope f (.ref c') cl A outer s (V0 (cl.map (·.2)) H) (fun C d H'=>(∀c∈cl.map (·.2),H' c=none) ->E C d (Z2 (cl.map (·.2)) H H'))=X at ht
 have I:Inv X [] (some y::vs.map some) (V0 (cl.map (·.2)) H) {s with heap:=h1,toks:=s.toks+1}:=by
   subst hX
   refine⟨⟨e0.mod,S.kind,rfl,rfl,Nat.le_refl _,fun x y c z1 z2=>U5d hnd (look x c z1) (look y c z2),fun x z=>?_,(fun _ _ z=>by cases z),fun _=>hr.hd,Around.frames_deeper e0.frames,.inr ⟨rfl,rfl⟩,(fun b z=>absurd (show b∈([]:List Addr) from z) (by simp)),fun b o z=>⟨(e0.bs b o z).1,?_⟩,e0.bsz,(fun b o _ z=>absurd (show b∈([]:List Addr) from z) (by simp)),(fun b z=>absurd (show b∈([]:List Addr) from z) (by simp)),e0.funs,fun b hb=>?_⟩,
     rfl,e0.bare,Un.kept hk1,⟨_,hns,fun i x v z1 z2 z3=>?_⟩,fun x c z=>?_,hokH.fresh (Nat.le_refl _),fun x c z=>B4m (incs x c z),(fun p hp=>absurd (show p∈([]:List (Addr×Obj)) from hp) (by simp)),hokH.kept hk1,?_⟩
   . have z:scope.names.lookup x=some .cell\/scope.names.lookup x=some .free:=z
     rcases z with z|z
     . exact absurd rfl (S.nocell _ (PySem.mem_of_lookup z))
     . have hx:=S.fr _ (PySem.mem_of_lookup z) rfl
       obtain⟨⟨y,c⟩,hm,rfl⟩:=List.mem_map.mp hx
       obtain⟨i,hi⟩:=List.mem_iff_getElem?.mp hm
       exact⟨c,B5v S.nd hi⟩
   . exact B1h (e0.bs b o z).2
   . exact B1h (e0.frf b hb)
   . have z1:(pr::cl.map (·.1))[i]?=some x:=z1
     rcases i with _|i
     . injection z1 with z1
       injection z2 with z2
       injection z2 with z2
       subst z1 z2
       exact⟨u,ru,.inl ⟨hp,by simp⟩⟩
     rw[List.getElem?_cons_succ] at z1 z2
     rw[List.getElem?_map] at z1 z2
     cases q:cl[i]? with
     |none=>rw[q] at z1;cases z1
     | some p=>
       rw[q] at z1
       cases z1
       obtain⟨v2,h2,o,u,h3,h4,h5⟩:=hk i p.1 p.2 q
       rw[h2] at z2
       cases z2
       refine⟨u,h5,.inr ⟨.inr (S.at_ _ (List.mem_map.mpr ⟨p,List.mem_of_getElem? q,rfl⟩)),p.2,B5v S.nd q,o,hk1 _ _ (e0.hok _ _ h3).1,h4⟩⟩
   . obtain⟨v,o,h3,h4⟩:=cell x c z
     exact⟨v,o,hk1 _ _ h3,h4⟩
   . show(some y::vs.map some).length=(pr::cl.map (·.1)).length
     rw[List.length_cons,List.length_cons,List.length_map,List.length_map,hF]
 have res:∀{H':Hp} {s':Shared},Un (frs outer) [] (V0 (cl.map (·.2)) H) H' s.heap s'.heap ->HOk P w H' s'.heap ->Un (frs outer) [] H (Z2 (cl.map (·.2)) H H') s.heap s'.heap/\HOk P w (Z2 (cl.map (·.2)) H H') s'.heap/\∀c∈cl.map (·.2),H' c=none:=
   fun u x=>⟨Y0q u af,U4g u af e0.hok x e0.frf,J6k u af e0.hok⟩
 refine kla_codeExpr ?_
 have hA:X.A=A.deeper (envX qual scope s.heap.objs.size f (.ref c') cl):=by rw[<-hX];rfl
 have:=ht [] _ _ _ _ I hq
 subst hX
 refine wpAny_mono this (fun u s' ⟨v,H',I',r,q⟩=>?_) fun e s' z=>wpAny_mono z (fun _ s2 z2=>?_) fun e' s2 z2=>?_
 . obtain⟨r1,r2,r3⟩:=res I'.base I'.hok
   exact⟨v,_,I'.os,I'.bare,r1,r2,r,q r3⟩
 . obtain⟨a,t,C,dd,H',rfl,os,bare,un,hok,hE,⟨a1,a2⟩,T,oT,ts,z,ne,⟨t1,t2⟩,rest⟩:=z2
   obtain⟨r1,r2,r3⟩:=res un hok
   have nc:∀b,s.heap.get? b=none ->b ∉ cl.map (·.2):=fun b z hb=>by
     obtain⟨o,q⟩:=af b hb
     rw[(e0.hok b _ q).1] at z
     cases z
   exact⟨a,t,C,dd,_,rfl,os,bare,r1,r2,hE r3,⟨a1,by rw[V2 (nc a a1)];exact a2⟩,T,oT,ts,z,ne,⟨t1,by rw[V2 (nc T t1)];exact t2⟩,rest⟩
 . obtain⟨a,t,C,dd,H',rfl,os,bare,un,hok,hE,⟨a1,a2⟩,T,oT,ts,z,ne,⟨t1,t2⟩,rest⟩:=z2
   obtain⟨r1,r2,r3⟩:=res un hok
   have nc:∀b,s.heap.get? b=none ->b ∉ cl.map (·.2):=fun b z hb=>by
     obtain⟨o,q⟩:=af b hb
     rw[(e0.hok b _ q).1] at z
     cases z
   exact⟨a,t,C,dd,_,rfl,os,bare,r1,r2,hE r3,⟨a1,by rw[V2 (nc a a1)];exact a2⟩,T,oT,ts,z,ne,⟨t1,by rw[V2 (nc T t1)];exact t2⟩,rest⟩
section
variable{X:Cx}{j k:Nat}{f:Addr}{EH:EK}{x y:Str}{p p1 pos:Pos}
noncomputable def U7r (P:Program) (w:World) (K:Frag) (mg:Str ->Option Value) (base:Heap) (k i i1:Nat) (EH:EK):TE:=fun σ H Q=>∃f v J spd,σ[i]?=some (some (.ref f))/\σ[i1]?=some (some v)/\DeedOk1 P w K mg base k f J spd/\J H/\spd v H Q (fun C d H'=>EH C d σ H')
theorem U7q{i i1:Nat}(hN:X.N[i]?=some x)(hv:Vis X.env.scope x)(hN1:X.N[i1]?=some y)(hv1:Vis X.env.scope y)(hr:Room k X.A)(hx:G2 X EH)(hex:X.ex=[]:=by rfl)(hd:(x==("__debug__":Str))=false:=by decide)(hcd:(x==("__classdict__":Str))=false:=by decide)(hd1:(y==("__debug__":Str))=false:=by decide)(hcd1:(y==("__classdict__":Str))=false:=by decide)
   (he:starEach [.Name y p1] X.env=(false,eval (.Name y p1) X.env)::starEach [] X.env:=by rfl) (hpl:(backTo pos (starEach [] X.env)).any (·.1)=false:=by rfl):
   PE X (.Call (.Name x p) [.Name y p1] [] pos) (U7r X.prog X.w X.K X.mg X.base k i i1 EH):=by
 intro pins s σ H Q I ⟨f,v,J,spd,e,e1,D,hJ,h⟩
 refine wpAny_Call_Name_kw (thn (G5k (pos:=p) hN hv hd hcd pins s σ H (fun v H'=>v= .ref f/\H'=H) I ⟨.ref f,e,rfl,rfl⟩) fun u s1 hh_=>?_)
 obtain⟨v1,H1,I1,r,ev,eH⟩:=hh_
 subst ev eH
 obtain rfl:u=Value.ref f:=r
 have pa:PA X [.Name y p1] _:=A0 (G5k (pos:=p1) hN1 hv1 hd1 hcd1) A8
 refine callWith_F (D.fn _ _ hJ I1.hok) (thn (pa pos pins s1 σ H1 (fun vs H'=>vs=[v]/\H'=H1) I1 ⟨v,e1,rfl,rfl⟩) fun us s2 ⟨vs,H2,I2,rs,evs,eH2⟩=>⟨?_,?_⟩) he hpl
 . subst evs eH2
   exact D.fn _ _ hJ I2.hok
 subst evs eH2
 obtain⟨u,rfl,ru⟩:∃u,us=[u]/\RelV v u:=by
   cases rs with
   |cons a b=>cases b with|nil=>exact⟨_,rfl,a⟩
 refine wpAny_call (codeAny_mono (D.run X.A X.stack s2 H2 v u Q _ hr I2.env0 hJ ru h) fun r s' hq=>?_)
 cases r with
 |error e=>exact Y2m hx hex I2 hq
 | ok fl=>
   cases fl with
   |ret u=>exact I2.after hq
   |next=>exact False.elim hq
   |brk=>exact False.elim hq
   |cont=>exact False.elim hq
end
end L2
namespace TR
open PySem L2 PySem.W PyProof.Rows
seal PE PS PSs PA PT PW PG PGs PI PO
noncomputable def top (i:Nat):Stmt:=PySem.Challenge.pw_tenreckon_k11_settled.main.body.getD i (.Pass ⟨0,0,0,0⟩)
noncomputable abbrev D1j:Stmt:=(top 19)
section
variable{P:Program}{w:World}{K:Frag}{mg:Str ->Option Value}{base:Heap}
noncomputable def Z5f (K:Frag):Sp:=fun vs H Q _=>∃v lo hi,vs=[v,.int lo,.int hi]/\((G0q lo hi v/\Q (.bl true) H)\/(G5x K H lo hi v/\Q (.bl false) H))
theorem Z5g:FnScope ["thing","least","most"] ["thing","least","most"] (A1 D1j):=scK
theorem U5x(D:Def K mg "is_between" ["thing","least","most"] D1j f fd)(O:Own mg)(T:Kit K):FnOk P w K mg base (CX1 P w) 1 f fd ["thing","least","most"] (Z5f K):=by
 refine FnOk.up (D.F.ok Z5g (fun vs H Q E h=>?_) (fun cdv A outer s H vs Q E hr h=>?_))
 . obtain⟨v,lo,hi,rfl,_⟩:=h
   rfl
 . obtain ⟨v,lo,hi,rfl,h⟩:=h
   refine⟨_,(A7 (J9 (PW.pt (G1h (A2y (Y0 (D0n O.isi (pv 0) (pty O.int_ boot_int)))) (C1d (Y0 (D0n O.isi (pv 0) (pty O.bool_ boot_bool)))))) (B3 (C4 A3h)) D4)
     (B3 (C4 (B2x (G3 J5r (pv 0) (pv 1) (C8 _)) (A2r (G3 U4f (pv 0) (pv 2) (C8 _))))))),?_⟩
   rcases h with⟨⟨i,rfl,h1,h2⟩,k⟩|⟨⟨t,b1,b2,ty,k1,k2,bad⟩,k⟩
   . refine⟨_,rfl,_,_,_,_,true,rfl,rfl,J5w i,T.int_int,_,rfl,U1 ?_⟩
     refine⟨_,rfl,_,_,_,_,false,rfl,rfl,J5w i,T.int_bool,_,rfl,U1 ?_⟩
     refine⟨_,rfl,_,rfl,_,_,rfl,rfl,_,rfl,A1w h1 ?_⟩
     refine⟨_,rfl,_,rfl,_,_,rfl,rfl,?_⟩
     show Q (.bl (decide (i<=hi))) H
     rw[decide_eq_true h2]
     exact k
   . refine⟨_,rfl,_,_,_,_,b1,rfl,rfl,ty,k1,_,rfl,?_⟩
     cases b1 with
     |false=>exact Y6 (Y6 k)
     | true=>
       refine U1 ⟨_,rfl,_,_,_,_,b2,rfl,rfl,ty,k2,_,rfl,?_⟩
       cases b2 with
       |true=>exact Y6 k
       | false=>
         obtain⟨i,rfl,out⟩:=bad.resolve_left (by decide)
         refine U1 ⟨_,rfl,_,rfl,_,_,rfl,rfl,_,rfl,Y3 (fun h1=>?_) (fun h1=>?_)⟩
         . refine⟨_,rfl,_,rfl,_,_,rfl,rfl,?_⟩
           show Q (.bl (decide (i<=hi))) H
           rw[decide_eq_false (by omega:¬i<=hi)]
           exact k
         . exact k
end
structure Err(K:Frag)(mg:Str ->Option Value)(x:Str)(CB:Addr):Prop where
 g:mg x=some (.ref CB)
 q:excIn K CB [.type "ValueError",.type "Exception",.type "BaseException",.type "object"] "ValueError.__new__"=true
noncomputable def C5h (lo hi:Int):Prop:=lo.natAbs.log2<1920/\hi.natAbs.log2<1920/\(Str.ofString (toString lo)).length<=100/\(Str.ofString (toString hi)).length<=100
noncomputable abbrev A2n:Stmt:=(top 46)
section
variable{P:Program}{w:World}{K:Frag}{mg:Str ->Option Value}{base:Heap}
noncomputable def C9e (K:Frag) (CB:Addr):Sp:=fun vs H Q E=>∃v lo hi,vs=[v,.int lo,.int hi]/\C5h lo hi/\((G0q lo hi v/\Q v H)\/(G5x K H lo hi v/\E (.ref CB) none H))
theorem J9p:FnScope ["thing","least","most"] ["thing","least","most"] (A1 A2n):=scK
theorem G7d{f f1 CB:Addr}(D:Def K mg "bounded" ["thing","least","most"] A2n f fd)(D1:Def K mg "is_between" ["thing","least","most"] D1j f1 fd1)(O:Own mg)(T:Kit K)(B:Err K mg "BadContext" CB):
   FnOk P w K mg base (CX1 P w) 2 f fd ["thing","least","most"] (C9e K CB):=by
 have G1:=U5x (P:=P) (w:=w) (base:=base) D1 O T
 refine D.F.okE J9p (fun vs H Q E h=>?_) (fun X cdv A outer s H vs Q E hX hr hx h=>?_)
 . obtain⟨v,lo,hi,rfl,_⟩:=h
   rfl
 . subst hX
   obtain⟨v,lo,hi,rfl,⟨l1,l2,l3,l4⟩,h⟩:=h
   refine⟨_,(A7 (J9 (A2y (Y0 (G0 D1 G1 hr hx (A0 (pv 0) (A0 (pv 1) (A0 (pv 2) A8))))))
     (B3 (A2q (by rfl) B.g B.q PySem.F.excBase_ValueError hr.hd hx (A0 (J6u (.cons .lit (.cons (.int (pv 1)) (.cons .lit (.cons (.int (pv 2)) .nil))))) A8))) D4)
     (B3 (C4 (pv 0)))),?_⟩
   rcases h with⟨g,k⟩|⟨bad,k⟩
   . exact⟨_,rfl,_,rfl,_,rfl,_,_,_,rfl,.inl ⟨g,_,rfl,U1 ⟨_,rfl,k⟩⟩⟩
   . have a0:Str.empty.length=0:=rfl
     have a1:(Str.ofString "not a whole number from ").length=24:=by decide+kernel
     have a2:(Str.ofString " to ").length=4:=by decide+kernel
     have sz:∀{n:Nat},n<=1000 ->n<=sizeLine:=fun h=>Nat.le_of_lt (Y5 h)
     refine⟨_,rfl,_,rfl,_,rfl,_,_,_,rfl,.inr ⟨bad,_,rfl,Y6 ?_⟩⟩
     exact⟨_,rfl,sz (by rw[strLen_append];omega),_,rfl,_,rfl,l1,_,rfl,sz (by rw[strLen_append,strLen_append];omega),_,rfl,sz (by rw[strLen_append,strLen_append,strLen_append];omega),_,rfl,_,rfl,l2,_,rfl,sz (by rw[strLen_append,strLen_append,strLen_append,strLen_append];omega),sz (by rw[strLen_append,strLen_append,strLen_append,strLen_append];omega),sz (by show 1<=1000;decide),k⟩
end
noncomputable abbrev A2z:Stmt:=(top 20)
section
variable{P:Program}{w:World}{K:Frag}{mg:Str ->Option Value}{base:Heap}
noncomputable def U0a (K:Frag) (CB:Addr):Sp:=fun vs H Q E=>∃v lo hi,vs=[v,.int lo,.int hi]/\C5h lo hi/\
 ((G0q lo hi v/\Q .non H)\/(G5x K H lo hi v/\E (.ref CB) none H))
theorem J8c:FnScope ["thing","least","most"] ["thing","least","most"] (A1 A2z):=scK
theorem G6n{f f1 CB:Addr}(D:Def K mg "need_between" ["thing","least","most"] A2z f fd)(D1:Def K mg "is_between" ["thing","least","most"] D1j f1 fd1)(O:Own mg)(T:Kit K)(B:Err K mg "BadNumber" CB):
   FnOk P w K mg base (CX1 P w) 2 f fd ["thing","least","most"] (U0a K CB):=by
 have G1:=U5x (P:=P) (w:=w) (base:=base) D1 O T
 refine D.F.okE J8c (fun vs H Q E h=>?_) (fun X cdv A outer s H vs Q E hX hr hx h=>?_)
 . obtain⟨v,lo,hi,rfl,_⟩:=h
   rfl
 . subst hX
   obtain⟨v,lo,hi,rfl,⟨l1,l2,l3,l4⟩,h⟩:=h
   refine⟨_,(B3 (J9 (A2y (Y0 (G0 D1 G1 hr hx (A0 (pv 0) (A0 (pv 1) (A0 (pv 2) A8))))))
     (B3 (A2q (by rfl) B.g B.q PySem.F.excBase_ValueError hr.hd hx (A0 (J6u (.cons .lit (.cons (.int (pv 1)) (.cons .lit (.cons (.int (pv 2)) .nil))))) A8))) D4)),?_⟩
   rcases h with⟨g,k⟩|⟨bad,k⟩
   . exact⟨_,rfl,_,rfl,_,rfl,_,_,_,rfl,.inl ⟨g,_,rfl,U1 k⟩⟩
   . have a0:Str.empty.length=0:=rfl
     have a1:(Str.ofString "not a whole number from ").length=24:=by decide+kernel
     have a2:(Str.ofString " to ").length=4:=by decide+kernel
     have sz:∀{n:Nat},n<=1000 ->n<=sizeLine:=fun h=>Nat.le_of_lt (Y5 h)
     refine⟨_,rfl,_,rfl,_,rfl,_,_,_,rfl,.inr ⟨bad,_,rfl,Y6 ?_⟩⟩
     exact⟨_,rfl,sz (by rw[strLen_append];omega),_,rfl,_,rfl,l1,_,rfl,sz (by rw[strLen_append,strLen_append];omega),_,rfl,sz (by rw[strLen_append,strLen_append,strLen_append];omega),_,rfl,_,rfl,l2,_,rfl,sz (by rw[strLen_append,strLen_append,strLen_append,strLen_append];omega),sz (by rw[strLen_append,strLen_append,strLen_append,strLen_append];omega),sz (by show 1<=1000;decide),k⟩
end
noncomputable abbrev C9a:Stmt:=(D8 (top 14) 0)
noncomputable abbrev C1p:Stmt:=(top 16)
noncomputable abbrev B2t:Stmt:=(top 18)
structure Num(K:Frag)(mg:Str ->Option Value)(CN:Addr):Prop where
 g:mg "Number"=some (.ref CN)
 cl:Cls K CN
 n1:NoAttr K CN "kind"
 n2:NoAttr K CN "sign"
 n3:NoAttr K CN "figures"
 n4:NoAttr K CN "power"
 ca:findIn K (.ref CN) "__class__"=some (some (.builtin "object.__class__"))
 sn:specialIn K (.builtin "object.__class__") "__get__"=some (some (.builtin "getset_descriptor.__get__"))
 tk:takesIn K (.builtin "object.__class__")=some true
 ob:mroIn K CN (.type "object")=some true
 self:kitOne K (.ref CN) (.ref CN)=some true
noncomputable def C5f (k s f p:V):List (Str×V):=V4 "power" p (V4 "figures" f (V4 "sign" s (V4 "kind" k [])))
theorem e12:¬(("kind":Str)="sign"):=by decide+kernel
theorem e13:¬(("kind":Str)="figures"):=by decide+kernel
theorem e14:¬(("kind":Str)="power"):=by decide+kernel
theorem e23:¬(("sign":Str)="figures"):=by decide+kernel
theorem e24:¬(("sign":Str)="power"):=by decide+kernel
theorem e34:¬(("figures":Str)="power"):=by decide+kernel
theorem Z8q(k s f p:V):(C5f k s f p).lookup ("kind":Str)=some k:=by unfold C5f;rw[D6,if_neg e14,D6,if_neg e13,D6,if_neg e12,D6,if_pos rfl]
theorem num2(k s f p:V):(C5f k s f p).lookup ("sign":Str)=some s:=by unfold C5f;rw[D6,if_neg e24,D6,if_neg e23,D6,if_pos rfl]
theorem Y9e(k s f p:V):(C5f k s f p).lookup ("figures":Str)=some f:=by unfold C5f;rw[D6,if_neg e34,D6,if_pos rfl]
theorem Y9a(k s f p:V):(C5f k s f p).lookup ("power":Str)=some p:=by unfold C5f;rw[D6,if_pos rfl]
noncomputable def NumAt (CN:Addr) (H:Hp) (n:Addr) (k s f p:V):Prop:=∃dx,H n=some (.ins CN dx (C5f k s f p))
theorem NumAt.same{CN:Addr}{H H':Hp}{n:Addr}{k s f p:V}(h:NumAt CN H n k s f p)(e:Same H H'):NumAt CN H' n k s f p:=by
 obtain⟨dx,z⟩:=h
 exact⟨dx,e _ _ z⟩
theorem Num.ty{K:Frag}{mg:Str ->Option Value}{CN:Addr}(N:Num K mg CN){H:Hp}{n:Addr}{k s f p:V}(h:NumAt CN H n k s f p):TyE K H (.ref n) (.ref CN):=by
 obtain⟨dx,z⟩:=h
 exact .of (.ins z N.cl N.ca N.sn N.tk N.ob)
section
variable{P:Program}{w:World}{K:Frag}{mg:Str ->Option Value}{base:Heap}
noncomputable def D0u (CN:Addr):Sp:=fun vs H Q _=>∃(p dx:Addr) (k s f pw:V),vs=[.ref p,k,s,f,pw]/\H p=some (.ins CN dx [])/\∀H',H' p=some (.ins CN dx (C5f k s f pw)) ->(∀b o,H b=some o ->b≠p ->H' b=some o) ->Q .non H'
theorem Y8c:FnScope ["self","kind","sign","figures","power"] ["self","kind","sign","figures","power"] (A1 C9a):=scK
theorem Y1k{f CN:Addr}(F:Fun K "__init__" "Number.__init__" C9a f fd)(N:Num K mg CN):FnOk P w K mg base CX0 1 f fd ["self","kind","sign","figures","power"] (D0u CN):=by
 refine F.ok Y8c (fun vs H Q E h=>?_) (fun cdv A outer s H vs Q E hr h=>?_)
 . obtain⟨p,dx,a,b,c,d,rfl,_⟩:=h
   rfl
 . obtain⟨p,dx,a,b,c,d,rfl,hp,k⟩:=h
   refine⟨_,A7 (Z5 (pv 0) (pv 1) rfl) (A7 (Z5 (pv 0) (pv 2) rfl) (A7 (Z5 (pv 0) (pv 3) rfl) (B3 (Z5 (pv 0) (pv 4) rfl)))),?_⟩
   have l:∀(fs:List (Str×V)) (f:Str) (v:V) (n:Nat),fs.length<=n ->(V4 f v fs).length<=n+1:=fun fs f v n h=>Nat.le_trans (A1g f v fs) (Nat.succ_le_succ h)
   refine⟨_,rfl,_,rfl,p,CN,dx,[],rfl,hp,N.cl,N.n1,(by show 0<1000;decide),?_⟩
   refine⟨_,rfl,_,rfl,p,CN,dx,_,rfl,A6,N.cl,N.n2,Nat.lt_of_le_of_lt (l _ _ _ 0 (Nat.le_refl _)) (by decide),?_⟩
   refine⟨_,rfl,_,rfl,p,CN,dx,_,rfl,A6,N.cl,N.n3,Nat.lt_of_le_of_lt (l _ _ _ 1 (l _ _ _ 0 (Nat.le_refl _))) (by decide),?_⟩
   refine⟨_,rfl,_,rfl,p,CN,dx,_,rfl,A6,N.cl,N.n4,Nat.lt_of_le_of_lt (l _ _ _ 2 (l _ _ _ 1 (l _ _ _ 0 (Nat.le_refl _)))) (by decide),?_⟩
   refine k _ A6 fun b o e hb=>?_
   rw[C6 hb,C6 hb,C6 hb,C6 hb]
   exact e
structure MakeN(P:Program)(w:World)(K:Frag)(mg:Str ->Option Value)(base:Heap)(CN fI:Addr)(fdI:FuncData):Prop where
 m:Mk K CN fI
 g:FnOk P w K mg base CX0 1 fI fdI ["self","kind","sign","figures","power"] (D0u CN)
 b:Binds K fdI ["self","kind","sign","figures","power"] []
theorem made{CN:Addr}{H:Hp}{Q:VK}{k s f p:V}(h:∀n H',H n=none ->Same H H' ->NumAt CN H' n k s f p ->Q (.ref n) H'):
   ∀x dx,H x=none ->H dx=none ->dx≠x ->D0u CN (.ref x::([k,s,f,p]++ [])) (upd (upd H dx (.own x)) x (.ins CN dx [])) (fun v H2=>v= .non/\Q (.ref x) H2) E0:=by
 intro x dx nx nd ne
 refine⟨x,dx,k,s,f,p,rfl,A6,fun H' e kp=>⟨rfl,h x H' nx (fun b o z=>?_) ⟨dx,e⟩⟩⟩
 refine kp b o ?_ (D5 z nx)
 rw[C6 (D5 z nx),C6 (D5 z nd)]
 exact z
noncomputable def U7y (K:Frag) (CN:Addr) (H:Hp) (v:V):Prop:=∃t,TyE K H v t/\kitOne K t (.ref CN)=some false
noncomputable def Y3e (K:Frag) (CN CB:Addr):Sp:=fun vs H Q E=>∃v,vs=[v]/\((∃n k s f p,v= .ref n/\NumAt CN H n k s f p/\Q v H)\/(U7y K CN H v/\E (.ref CB) none H))
theorem Y1u:FnScope ["thing"] ["thing"] (A1 B2t):=scK
theorem G0s{f CN CB:Addr}(D:Def K mg "need_number" ["thing"] B2t f fd)(O:Own mg)(T:Kit K)(B:Err K mg "BadNumber" CB)(N:Num K mg CN):FnOk P w K mg base (CX1 P w) 1 f fd ["thing"] (Y3e K CN CB):=by
 refine D.F.okE Y1u (fun vs H Q E h=>?_) (fun X cdv A outer s H vs Q E hX hr hx h=>?_)
 . obtain⟨v,rfl,_⟩:=h
   rfl
 . subst hX
   obtain⟨v,rfl,h⟩:=h
   refine⟨_,(A7 (J9 (A2y (Y0 (D0n O.isi (pv 0) (Y3g N.g)))) (B3 (A2q (by rfl) B.g B.q PySem.F.excBase_ValueError hr.hd hx (A0 C5 A8))) D4)
     (B3 (C4 (pv 0)))),?_⟩
   rcases h with⟨n,a,b,c,d,rfl,hn,k⟩|⟨⟨t,ty,k1⟩,k⟩
   . exact⟨_,rfl,_,_,_,_,true,rfl,rfl,N.ty hn,N.self,_,rfl,U1 ⟨_,rfl,k⟩⟩
   . exact⟨_,rfl,_,_,_,t,false,rfl,rfl,ty,k1,_,rfl,Y6 ⟨Nat.le_of_lt (Y5 (by show 1<=1000;decide)),k⟩⟩
noncomputable def U4z (K:Frag) (CN CB:Addr):Sp:=fun vs H Q E=>∃v,vs=[v]/\((∃n k s f p,v= .ref n/\NumAt CN H n k s f p/\∀t,H t=none ->Q (.ref t) (upd H t (.tup [k,s,f,p])))\/(U7y K CN H v/\E (.ref CB) none H))
theorem Y9f:FnScope ["number"] ["number"] (A1 C1p):=scK
theorem Y3d{f f1 CN CB:Addr}(D:Def K mg "told" ["number"] C1p f fd)(dA:Def K mg "need_number" ["thing"] B2t f1 fd1)(O:Own mg)(T:Kit K)(B:Err K mg "BadNumber" CB)(N:Num K mg CN):
   FnOk P w K mg base (CX1 P w) 2 f fd ["number"] (U4z K CN CB):=by
 have G_need_number:=G0s (P:=P) (w:=w) (base:=base) dA O T B N
 refine D.F.okE Y9f (fun vs H Q E h=>?_) (fun X cdv A outer s H vs Q E hX hr hx h=>?_)
 . obtain⟨v,rfl,_⟩:=h
   rfl
 . subst hX
   obtain⟨v,rfl,h⟩:=h
   refine⟨_,(A7 (A1b (G0 dA G_need_number hr hx (A0 (pv 0) A8)))
     (B3 (C4 (Y9 (A0 (U7 (pv 0) rfl) (A0 (U7 (pv 0) rfl) (A0 (U7 (pv 0) rfl) (A0 (U7 (pv 0) rfl) A8)))))))),?_⟩
   rcases h with⟨n,a,b,c,d,rfl,hn,k⟩|⟨bad,k⟩
   . refine⟨_,rfl,_,rfl,.inl ⟨n,a,b,c,d,rfl,hn,?_⟩⟩
     obtain⟨dx,e⟩:=hn
     exact⟨_,rfl,n,CN,dx,_,_,rfl,e,N.cl,N.n1,Z8q _ _ _ _,_,rfl,n,CN,dx,_,_,rfl,e,N.cl,N.n2,num2 _ _ _ _,_,rfl,n,CN,dx,_,_,rfl,e,N.cl,N.n3,Y9e _ _ _ _,_,rfl,n,CN,dx,_,_,rfl,e,N.cl,N.n4,Y9a _ _ _ _,
       Nat.le_of_lt (Y5 (by show 4<=1000;decide)),k⟩
   . exact⟨_,rfl,_,rfl,.inr ⟨bad,k⟩⟩
end
noncomputable abbrev G5u:Stmt:=(top 15)
section
variable{P:Program}{w:World}{K:Frag}{mg:Str ->Option Value}{base:Heap}
theorem b01:C5h 0 1:=by unfold C5h;decide+kernel
noncomputable def Y7a (K:Frag) (CN CB:Addr):Sp:=fun vs H Q E=>∃x,vs=[x]/\((G0q 0 1 x/\∀n H',H n=none ->Same H H' ->NumAt CN H' n (.str "end") x (.int 0) (.int 0) ->Q (.ref n) H')\/(G5x K H 0 1 x/\E (.ref CB) none H))
theorem Z6j:FnScope ["sign"] ["sign"] (A1 G5u):=scK
theorem Z0e{f f1 f2 fI CN CB:Addr}{fd fd1 fd2 fdI:FuncData}(D:Def K mg "end" ["sign"] G5u f fd)(dA:Def K mg "need_between" ["thing","least","most"] A2z f1 fd1)(D2:Def K mg "is_between" ["thing","least","most"] D1j f2 fd2)
   (O:Own mg) (T:Kit K) (B:Err K mg "BadNumber" CB) (N:Num K mg CN) (M:MakeN P w K mg base CN fI fdI):FnOk P w K mg base (CX1 P w) 3 f fd ["sign"] (Y7a K CN CB):=by
 have G_need_between:=G6n (P:=P) (w:=w) (base:=base) dA D2 O T B
 refine D.F.okE Z6j (fun vs H Q E h=>?_) (fun X cdv A outer s H vs Q E hX hr hx h=>?_)
 . obtain⟨x,rfl,_⟩:=h
   rfl
 . subst hX
   obtain⟨x,rfl,h⟩:=h
   refine⟨_,(A7 (A1b (G0 dA G_need_between hr hx (A0 (pv 0) (A0 A3 (A0 A3 A8)))))
     (B3 (C4 (Y1e M.m M.g hr rfl N.g M.b .nil Z6c (A0 C5 (A0 (pv 0) (A0 A3 (A0 A3 A8)))))))),?_⟩
   rcases h with⟨⟨i1,rfl,l1,u1⟩,k⟩|⟨bad,k⟩
   . refine⟨_,rfl,_,_,_,rfl,b01,.inl ⟨⟨i1,rfl,l1,u1⟩,?_⟩⟩
     exact⟨_,rfl,made k⟩
   . exact⟨_,rfl,_,_,_,rfl,b01,.inr ⟨bad,k⟩⟩
end
noncomputable abbrev C0r:Stmt:=(top 17)
section
variable{P:Program}{w:World}{K:Frag}{mg:Str ->Option Value}{base:Heap}
noncomputable def U6h (CN:Addr):Sp:=fun vs H Q _=>∃n k s f p,vs=[.ref n]/\NumAt CN H n k s (.int f) (.int p)/\f.natAbs<2^300/\Q (.int (p+((Str.ofString (toString f)).length:Nat)-1)) H
theorem Y8a:FnScope ["number"] ["number"] (A1 C0r):=scK
theorem Y0s{f CN:Addr}(D:Def K mg "lead_of" ["number"] C0r f fd)(O:Own mg)(N:Num K mg CN):FnOk P w K mg base (CX1 P w) 1 f fd ["number"] (U6h CN):=by
 refine D.F.okE Y8a (fun vs H Q E h=>?_) (fun X cdv A outer s H vs Q E hX hr hx h=>?_)
 . obtain⟨n,a,b,c,d,rfl,_⟩:=h
   rfl
 . subst hX
   obtain⟨n,a,b,fg,pw,rfl,⟨dx,e⟩,hf,k⟩:=h
   refine⟨_,(B3 (C4 (B7 U2 (B7 G8 (U7 (pv 0) rfl) (U9 Y2 (by rfl) O.len_ PySem.boot_len (A0 (J0 V5 (by rfl) O.str_ boot_str (A0 (U7 (pv 0) rfl) A8)) A8))) A3))),?_⟩
   have lg:fg.natAbs.log2<1920:=Nat.lt_trans (A3b hf (by decide)) (by decide)
   exact⟨_,rfl,n,CN,dx,_,_,rfl,e,N.cl,N.n4,Y9a _ _ _ _,_,rfl,n,CN,dx,_,_,rfl,e,N.cl,N.n3,Y9e _ _ _ _,_,rfl,lg,_,rfl,int_text_fits lg,_,_,rfl,rfl,_,_,rfl,rfl,k⟩
end
noncomputable abbrev Z8:Stmt:=(top 1)
noncomputable abbrev A2x:Stmt:=(top 2)
theorem D0r{x k:Nat}(h:x<2^k)(hk:k<=1048576):Builtin.Int.intBits (x:Int)<=2^20:=by
 unfold Builtin.Int.intBits
 split
 . exact Nat.zero_le _
 . have z:(x:Int).natAbs≠0:=by
     intro z
     rename_i hz
     exact hz (by simpa using z)
   have:(x:Int).natAbs.log2<k:=(Nat.log2_lt z).mpr h
   have e:(2:Nat)^20=1048576:=by decide
   omega
theorem C1c{b s j n:Nat}(hb:b<2^s)(hj:j<=n)(hn:n*s<1048576):Builtin.Int.intBits ((b^j:Nat):Int)<=2^20:=by
 refine D0r (k:=n*s+1) ?_ hn
 have a:b^j<=(2^s)^j:=Nat.pow_le_pow_left (Nat.le_of_lt hb) j
 have c:(2^s)^j<=2^(n*s):=by
   rw[<-Nat.pow_mul,Nat.mul_comm n s]
   exact Nat.pow_le_pow_right (by decide) (Nat.mul_le_mul_left s hj)
 have d:2^(n*s)<2^(n*s+1):=Nat.pow_lt_pow_right (by decide) (by omega)
 exact Nat.lt_of_le_of_lt a (Nat.lt_of_le_of_lt c d)
theorem B5q{b s i j n:Nat}(hb:b<2^s)(hi:i<=n)(hj:j<=n)(hn:n*s<1048576):IntMulOk ((b^i:Nat):Int) ((b^j:Nat):Int):=IntMulOk.of_bits (C1c hb hi hn) (C1c hb hj hn)
section
variable{P:Program}{w:World}{K:Frag}{mg:Str ->Option Value}{base:Heap}
noncomputable def B9a:Sp:=fun vs H Q _=>∃b n s:Nat,vs=[.int (b:Int),.int (n:Int)]/\b<2^s/\n*s<1048576/\Q (.int ((b^n:Nat):Int)) H
theorem scProductOf:FnScope ["whole","count","product"] ["whole","count"] (A1 Z8):=scK
theorem D0v(D:Def K mg "product_of" ["whole","count"] Z8 f fd):FnOk P w K mg base (CX1 P w) 1 f fd ["whole","count"] B9a:=by
 refine FnOk.up (D.F.ok scProductOf (fun vs H Q E h=>?_) (fun cdv A outer s H vs Q E hr h=>?_))
 . obtain⟨b,n,z,rfl,_⟩:=h
   rfl
 . obtain ⟨b,n,z,rfl,hb,hn,k⟩:=h
   refine⟨_,(A7 (D3 (i:=2) scProductOf.nd rfl (Or.inl rfl) A3)
     (A7 (B4s PassesOwn.never (D0 C2b (pv 1) A3 (C8 _)) (A7 (J9 (D0 U0 (B7 G5 (pv 1) A3) A3 (C8 _)) (B3 (D3 (i:=2) scProductOf.nd rfl (Or.inl rfl) (B7 G7 (pv 2) (pv 0)))) D4)
     (A7 (D3 (i:=0) scProductOf.nd rfl (Or.inl rfl) (B7 G7 (pv 0) (pv 0)))
     (B3 (D3 (i:=1) scProductOf.nd rfl (Or.inl rfl) (B7 D9 (pv 1) A3))))))
     (B3 (C4 (pv 2))))),?_⟩
   have d2:(0:Int)<2/\(2:Int).natAbs.log2<9000:=⟨by decide,by decide+kernel⟩
   refine B4q (fun σ H2=>H2=H/\∃i m c:Nat,m+i*c=n/\σ=[some (.int ((b^i:Nat):Int)),some (.int (c:Int)),some (.int ((b^m:Nat):Int))]) (fun σ _=>match σ with| [_,some (.int c),_]=>c.toNat|_=>0) ?_ ?_ ?_
   . exact⟨rfl,1,0,n,by omega,by rw[Nat.pow_one];rfl⟩
   . rintro σ H2 ⟨rfl,i,m,c,hc,rfl⟩
     refine⟨_,rfl,_,_,rfl,rfl,_,rfl,Y3 (fun h0=>?_) (fun h0=>?_)⟩
     . have c1:1<=c:=by
         have:(0:Int)<c:=h0
         omega
       have hi:i<=n:=Nat.le_trans (Nat.le_mul_of_pos_right i c1) (by omega)
       have hm:m<=n:=by omega
       have sq:((b^i:Nat):Int)*((b^i:Nat):Int)=((b^(2*i):Nat):Int):=by rw[Nat.two_mul,Nat.pow_add];rfl
       have lt:((c:Int)/2).toNat<(c:Int).toNat:=by omega
       refine⟨_,rfl,_,_,rfl,rfl,d2.1,rfl,_,rfl,Y3 (fun ho=>?_) (fun he=>?_)⟩
       . have ho:(c:Int) % 2=1:=by injection ho
         have mu:((b^m:Nat):Int)*((b^i:Nat):Int)=((b^(m+i):Nat):Int):=by rw[Nat.pow_add];rfl
         refine⟨_,rfl,_,rfl,_,_,rfl,rfl,B5q hb hm hi hn,_,rfl,_,rfl,_,_,rfl,rfl,B5q hb hi hi hn,_,rfl,_,_,rfl,rfl,d2,⟨rfl,2*i,m+i,c/2,?_,?_⟩,lt⟩
         . have e:i*c=i*(2*(c/2)+1):=congrArg (i* ·) (by omega)
           rw[Nat.mul_add,Nat.mul_one, <-Nat.mul_assoc,Nat.mul_comm i 2] at e
           omega
         . show [some (V.int (((b^i:Nat):Int)*((b^i:Nat):Int))),some (V.int ((c:Int)/2)),some (V.int (((b^m:Nat):Int)*((b^i:Nat):Int)))]=_
           rw[sq,mu]
           rfl
       . have he:¬(c:Int) % 2=1:=fun z=>he (congrArg V.int z)
         refine⟨_,rfl,_,rfl,_,_,rfl,rfl,B5q hb hi hi hn,_,rfl,_,_,rfl,rfl,d2,⟨rfl,2*i,m,c/2,?_,?_⟩,lt⟩
         . have e:i*c=i*(2*(c/2)):=congrArg (i* ·) (by omega)
           rw[<-Nat.mul_assoc,Nat.mul_comm i 2] at e
           omega
         . show [some (V.int (((b^i:Nat):Int)*((b^i:Nat):Int))),some (V.int ((c:Int)/2)),some (V.int ((b^m:Nat):Int))]=_
           rw[sq]
           rfl
     . have c0:c=0:=by
         have:¬(0:Int)<c:=h0
         omega
       subst c0
       have hm:m=n:=by omega
       subst hm
       exact⟨_,rfl,k⟩
   . rintro σ H2 Q1 Q2 hQ ⟨v,e,i,j,e1,e2,b,e3,q⟩
     exact⟨v,e,i,j,e1,e2,b,e3,hQ _ _ q⟩
noncomputable def B4v:Sp:=fun vs H Q _=>∃n:Nat,vs=[.int (n:Int)]/\n<=4000/\Q (.int ((10^n:Nat):Int)) H
theorem Y0d:FnScope ["count"] ["count"] (A1 A2x):=scK
theorem U5z(D:Def K mg "ten_to" ["count"] A2x f fd)(dA:Def K mg "product_of" ["whole","count"] Z8 f1 fd1)(dB:FnOk P w K mg base (CX1 P w) 1 f1 fd1 ["whole","count"] B9a):FnOk P w K mg base (CX1 P w) 2 f fd ["count"] B4v:=by
 refine FnOk.up (D.F.ok Y0d (fun vs H Q E h=>?_) (fun cdv A outer s H vs Q E hr h=>?_))
 . obtain⟨n,rfl,_⟩:=h
   rfl
 . obtain⟨n,rfl,hn,k⟩:=h
   have hx:G2 (A0b CX0 P w K mg base ["count"] "ten_to" (A1 A2x) f cdv A outer s H E).nox EKF:=Y7
   refine⟨_,(B3 (C4 (G0 dA dB hr hx (A0 A3 (A0 (pv 0) A8))))),?_⟩
   exact⟨_,rfl,10,n,4,rfl,by decide,by omega,k⟩
end
inductive Kd where
 |plain|end_|none
noncomputable def Kd.str:Kd ->Str
 | .plain=>"plain"
 | .end_=>"end"
 | .none=>"none"
structure Nm where
 k:Kd
 s:Int
 f:Int
 p:Int
noncomputable def Nm.vs (x:Nm):List V:=[.str x.k.str,.int x.s,.int x.f,.int x.p]
noncomputable def NumIs (CN:Addr) (H:Hp) (n:Addr) (x:Nm):Prop:=NumAt CN H n (.str x.k.str) (.int x.s) (.int x.f) (.int x.p)
theorem NumIs.same{CN:Addr}{H H':Hp}{n:Addr}{x:Nm}(h:NumIs CN H n x)(e:Same H H'):NumIs CN H' n x:=NumAt.same h e
noncomputable def B0 (n:Int):Int:=((10^n.toNat:Nat):Int)
theorem J1(n:Int):0<B0 n:=Int.natCast_pos.mpr (Nat.pow_pos (by decide))
section
variable{P:Program}{w:World}{K:Frag}{mg:Str ->Option Value}{base:Heap}
theorem J9q{d:Int}(h:d<=4000):Builtin.Int.intBits (B0 d)<=2^20:=C1c (b:=10) (s:=4) (n:=4000) (by decide) (by omega) (by decide)
end
section
variable{P:Program}{w:World}{K:Frag}{mg:Str ->Option Value}{base:Heap}
end
noncomputable def Z7 (left low:Int):Int:=(if decide (0<left)=true then 1 else 0)+(if decide (low<=2*left)=true then 1 else 0)+(if decide (low<2*left)=true then 1 else 0)
theorem Y7z(s:Int):(if(0:Int)>s then 0 else s)=((s.toNat:Nat):Int):=by
 by_cases h:(0:Int)>s
 . rw[if_pos h];omega
 . rw[if_neg h];omega
noncomputable def A7t (t b s:Int):Prop:=b*B0 (-s)<=t*B0 s/\t*B0 s<10*(b*B0 (-s))
theorem C0m{s r:Int}(h:s<=r):B0 r*B0 (-s)=B0 s*B0 (-r)*B0 (r-s):=by
 have ad:∀{a b c:Int},0<=a ->0<=b ->c=a+b ->B0 c=B0 a*B0 b:=fun ha hb e=>by
   subst e
   unfold B0
   rw[Int.toNat_add ha hb,Nat.pow_add]
   exact Int.natCast_mul _ _
 have z:∀{a:Int},a<=0 ->B0 a=1:=fun h=>by
   unfold B0
   rw[Int.toNat_of_nonpos h]
   rfl
 rcases Int.le_total 0 s with hs|hs
 . rw[z (a:= -s) (by omega),z (a:= -r) (by omega),Int.mul_one,Int.mul_one]
   exact ad hs (by omega) (by omega)
 . rcases Int.le_total 0 r with hr|hr
   . rw[z hs,z (a:= -r) (by omega),Int.one_mul,Int.one_mul]
     exact(ad hr (by omega) (by omega)).symm
   . rw[z hr,z hs,Int.one_mul,Int.one_mul]
     exact ad (by omega) (by omega) (by omega)
theorem J7d{d:Int}(h:1<=d):10<=B0 d:=by
 unfold B0
 have:10^1<=10^d.toNat:=Nat.pow_le_pow_right (by decide) (by omega)
 omega
theorem U8{a b:Int}(h:a<=b):B0 a<=B0 b:=by
 unfold B0
 exact Int.ofNat_le.mpr (Nat.pow_le_pow_right (by decide) (by omega))
theorem J6h{t b s r:Int}(hb:0<b)(h1:A7t t b s)(h2:A7t t b r):r<=s:=by
 apply Classical.byContradiction
 intro h
 have hs:s<=r:=by omega
 have c:=C0m hs
 have g:=J7d (d:=r-s) (by omega)
 have p1:=J1 (-s)
 have p2:=J1 (-r)
 have l1:0<b*B0 (-s):=Int.mul_pos hb p1
 have l2:0<b*B0 (-r):=Int.mul_pos hb p2
 have e:t*B0 r*(b*B0 (-s))=t*B0 s*(b*B0 (-r))*B0 (r-s):=by
   calc t*B0 r*(b*B0 (-s))=t*b*(B0 r*B0 (-s)):=by ac_rfl
     _=t*b*(B0 s*B0 (-r)*B0 (r-s)):=by rw[c]
     _=t*B0 s*(b*B0 (-r))*B0 (r-s):=by ac_rfl
 have a1:t*B0 r*(b*B0 (-s))<10*(b*B0 (-r))*(b*B0 (-s)):=Int.mul_lt_mul_of_pos_right h2.2 l1
 have hp:0<t*B0 s:=Int.lt_of_lt_of_le l1 h1.1
 have a2:t*B0 s*(b*B0 (-r))*10<=t*B0 s*(b*B0 (-r))*B0 (r-s):=Int.mul_le_mul_of_nonneg_left g (Int.le_of_lt (Int.mul_pos hp l2))
 have a3:b*B0 (-s)*(b*B0 (-r))<=t*B0 s*(b*B0 (-r)):=Int.mul_le_mul_of_nonneg_right h1.1 (Int.le_of_lt l2)
 have e2:10*(b*B0 (-r))*(b*B0 (-s))=b*B0 (-s)*(b*B0 (-r))*10:=by ac_rfl
 have a4:b*B0 (-s)*(b*B0 (-r))*10<=t*B0 s*(b*B0 (-r))*10:=Int.mul_le_mul_of_nonneg_right a3 (by decide)
 rw[e] at a1
 rw[e2] at a1
 exact absurd (Int.lt_of_lt_of_le a1 (Int.le_trans a4 a2)) (Int.lt_irrefl _)
theorem J6s{t b s r:Int}(hb:0<b)(h1:A7t t b s)(h2:A7t t b r):s=r:=Int.le_antisymm (J6h hb h2 h1) (J6h hb h1 h2)
noncomputable def Sz (t:Int):Prop:=1<=t/\t<B0 1000
theorem J5u(n:Nat):10^n<=2^(4*n):=by
 rw[Nat.pow_mul]
 exact Nat.pow_le_pow_left (by decide) n
theorem G1x(n:Nat):10^(3*n)<=2^(10*n):=by
 rw[Nat.pow_mul,Nat.pow_mul]
 exact Nat.pow_le_pow_left (by decide) n
theorem Sz.nat{t:Int}(h:Sz t):∃n:Nat,t=(n:Int)/\1<=n/\n<10^1000:=by
 obtain⟨n,rfl⟩:=Int.eq_ofNat_of_zero_le (show 0<=t by have:=h.1;omega)
 exact⟨n,rfl,Int.ofNat_le.mp h.1,Int.ofNat_lt.mp h.2⟩
theorem D1w{t s:Int}(ht:Sz t)(h:s<=1500):∃n:Nat,t*B0 s=(n:Int)/\n<10^2502:=by
 obtain⟨n,rfl,_,hn⟩:=ht.nat
 refine⟨n*10^s.toNat,rfl,?_⟩
 have a:10^s.toNat<=10^1502:=Nat.pow_le_pow_right (by decide) (by omega)
 calc n*10^s.toNat<=n*10^1502:=Nat.mul_le_mul_left n a
   _<10^1000*10^1502:=Nat.mul_lt_mul_of_pos_right hn (Nat.pow_pos (by decide))
   _=10^2502:=by rw[<-Nat.pow_add]
theorem G0h{n:Nat}(h:n<10^2502):Builtin.Int.intBits (n:Int)<=2^20:=D0r (k:=4*2502) (Nat.lt_of_lt_of_le h (J5u 2502)) (by decide)
theorem Y1y{t:Int}(h:Sz t):Builtin.Int.intBits t<=2^20:=by
 obtain⟨n,rfl,_,hn⟩:=h.nat
 exact D0r (k:=4*1000) (Nat.lt_of_lt_of_le hn (J5u 1000)) (by decide)
theorem B5x{t s:Int}(ht:Sz t)(h:s<=1500):IntMulOk t (B0 s):=IntMulOk.of_bits (Y1y ht) (J9q (by omega))
theorem U6f{b s:Int}(hb:Sz b)(h:s<=1500):(b*B0 s).natAbs.log2<9000:=by
 obtain⟨n,e,hn⟩:=D1w hb h
 rw[e]
 have:n<2^8340:=Nat.lt_of_lt_of_le hn (G1x 834)
 exact Nat.lt_trans (A3b (i:=(n:Int)) (k:=8340) (by rw[Int.natAbs_natCast];exact this) (by decide)) (by decide)
noncomputable def whI (t b s:Int):Int:=t*B0 s/(b*B0 (-s))
noncomputable def ptI (t b s:Int):Int:=Z7 (t*B0 s-whI t b s*(b*B0 (-s))) (b*B0 (-s))
theorem D1u{t b s:Int}(hb:0<b):0<=t*B0 s-whI t b s*(b*B0 (-s))/\t*B0 s-whI t b s*(b*B0 (-s))<b*B0 (-s):=by
 have l:=Int.mul_pos hb (J1 (-s))
 have e:=Int.emod_add_mul_ediv (t*B0 s) (b*B0 (-s))
 have a:=Int.emod_nonneg (t*B0 s) (Int.ne_of_gt l)
 have c:=Int.emod_lt_of_pos (t*B0 s) l
 have e2:whI t b s*(b*B0 (-s))=b*B0 (-s)*(t*B0 s/(b*B0 (-s))):=Int.mul_comm _ _
 omega
theorem Y6y{t b s:Int}(ht:Sz t)(hb:Sz b)(h1: -1500<=s)(h2:s<=1500):IntMulOk (whI t b s) (b*B0 (-s)):=by
 obtain⟨n,e,hn⟩:=D1w hb (s:= -s) (by omega)
 obtain⟨k,e',hk⟩:=D1w ht h2
 unfold whI
 rw[e,e']
 exact IntMulOk.of_bits (G0h (Nat.lt_of_le_of_lt (Nat.div_le_self k n) hk)) (G0h hn)
noncomputable abbrev A5d:Stmt:=(D8 (top 5) 0)
structure RatC(K:Frag)(mg:Str ->Option Value)(CR CE:Addr):Prop where
 g:mg "Ratio"=some (.ref CR)
 ge:mg "Exact"=some (.ref CE)
 cl:Cls K CR
 n_top:NoAttr K CR "top"
 n_bottom:NoAttr K CR "bottom"
 n_power:NoAttr K CR "power"
 ca:findIn K (.ref CR) "__class__"=some (some (.builtin "object.__class__"))
 sn:specialIn K (.builtin "object.__class__") "__get__"=some (some (.builtin "getset_descriptor.__get__"))
 tk:takesIn K (.builtin "object.__class__")=some true
 ob:mroIn K CR (.type "object")=some true
 up:kitOne K (.ref CR) (.ref CE)=some true
noncomputable def D1f (t b n:V):List (Str×V):=V4 "power" n (V4 "bottom" b (V4 "top" t []))
theorem C1z(t b n:V)(x:Str):(D1f t b n).lookup x=if x="power" then some n else if x="bottom" then some b else if x="top" then some t else none:=by
 unfold D1f
 rw[D6,D6,D6]
 rfl
theorem J5s(t b n:V):(D1f t b n).lookup ("top":Str)=some t:=by rw[C1z,if_neg (by decide+kernel),if_neg (by decide+kernel),if_pos rfl]
theorem C1j(t b n:V):(D1f t b n).lookup ("bottom":Str)=some b:=by rw[C1z,if_neg (by decide+kernel),if_pos rfl]
theorem C8x(t b n:V):(D1f t b n).lookup ("power":Str)=some n:=by rw[C1z,if_pos rfl]
theorem B4j(t b n:V):(D1f t b n).lookup ("first":Str)=none:=by rw[C1z,if_neg (by decide+kernel),if_neg (by decide+kernel),if_neg (by decide+kernel)]
theorem C9c(t b n:V):(D1f t b n).lookup ("at":Str)=none:=by rw[C1z,if_neg (by decide+kernel),if_neg (by decide+kernel),if_neg (by decide+kernel)]
noncomputable def RatAt (CR:Addr) (H:Hp) (x:Addr) (t b n:Int):Prop:=∃dx,H x=some (.ins CR dx (D1f (.int t) (.int b) (.int n)))
theorem RatAt.same{CR:Addr}{H H':Hp}{x:Addr}{t b n:Int}(h:RatAt CR H x t b n)(s:Same H H'):RatAt CR H' x t b n:=by
 obtain⟨dx,e⟩:=h
 exact⟨dx,s _ _ e⟩
section
variable{P:Program}{w:World}{K:Frag}{mg:Str ->Option Value}{base:Heap}
noncomputable def D1k (CR:Addr):Sp:=fun vs H Q _=>∃(p dx:Addr) (t b n:V),vs=[.ref p,t,b,n]/\H p=some (.ins CR dx [])/\∀H',H' p=some (.ins CR dx (D1f t b n)) ->Exc p H H' ->Q .non H'
theorem Y2r:FnScope ["self","top","bottom","power"] ["self","top","bottom","power"] (A1 A5d):=scK
theorem U5e{f CR CE:Addr}{dV:Value}(F:FunD K "__init__" "Ratio.__init__" A5d dV f fd)(R:RatC K mg CR CE):FnOk P w K mg base (CX1 P w) 1 f fd ["self","top","bottom","power"] (D1k CR):=by
 refine F.okE Y2r (fun vs H Q E h=>?_) (fun X cdv A outer s H vs Q E hX hr hx h=>?_)
 . obtain⟨p,dx,a,b,c,rfl,_⟩:=h
   rfl
 . subst hX
   obtain⟨p,dx,a,b,c,rfl,hp,k⟩:=h
   refine⟨_,(A7 (Z5 (pv 0) (pv 1) rfl)
     (A7 (Z5 (pv 0) (pv 2) rfl)
     (B3 (Z5 (pv 0) (pv 3) rfl)))),?_⟩
   have l:∀(fs:List (Str×V)) (f:Str) (v:V) (n:Nat),fs.length<=n ->(V4 f v fs).length<=n+1:=fun fs f v n h=>Nat.le_trans (A1g f v fs) (Nat.succ_le_succ h)
   refine⟨_,rfl,_,rfl,p,CR,dx,[],rfl,hp,R.cl,R.n_top,(by show 0<1000;decide),?_⟩
   refine⟨_,rfl,_,rfl,p,CR,dx,_,rfl,A6,R.cl,R.n_bottom,Nat.lt_of_le_of_lt (l _ _ _ 0 (Nat.le_refl _)) (by decide),?_⟩
   refine⟨_,rfl,_,rfl,p,CR,dx,_,rfl,A6,R.cl,R.n_power,Nat.lt_of_le_of_lt (l _ _ _ 1 (l _ _ _ 0 (Nat.le_refl _))) (by decide),?_⟩
   refine k _ A6 fun b o e hb=>?_
   rw[C6 hb,C6 hb,C6 hb]
   exact e
noncomputable def G1m (CR:Addr):Sp:=fun vs H Q _=>∃x t b n,vs=[.ref x]/\RatAt CR H x t b n/\Sz t/\Sz b/\∀f H',Same H H' ->A7t t b (n-f) ->Q (.int f) H'
noncomputable def U5j (CR:Addr):Sp:=fun vs H Q _=>∃x t b n p,vs=[.ref x,.int p]/\RatAt CR H x t b n/\Sz t/\Sz b/\ -1500<=n-p/\n-p<=1500/\
 ∀q H',Same H H' ->H q=none ->H' q=some (.tup [.int (whI t b (n-p)),.int (ptI t b (n-p))]) ->Q (.ref q) H'
structure MakeR(P:Program)(w:World)(K:Frag)(mg:Str ->Option Value)(base:Heap)(CR fI:Addr)(fdI:FuncData)(d0:Value)(gP:List Value ->List Value ->List Value)(vP:List V ->List V ->List V):Prop where
 m:Mk K CR fI
 g:FnOk P w K mg base (CX1 P w) 1 fI fdI ["self","top","bottom","power"] (D1k CR)
 b3:Binds K fdI ["self","top","bottom","power"] []
 b2:Binds K fdI ["self","top","bottom","power"] [d0]
 r0:RelV (.int 0) d0
 kP:KBinds K fdI ["self","top","bottom","power"] ["power"] gP vP
 eP:∀x a b c,vP [x,a,b] [c]=[x,a,b,c]
structure RatM(P:Program)(w:World)(K:Frag)(mg:Str ->Option Value)(base:Heap)(CR f1 f2:Addr)(fd1 fd2:FuncData):Prop where
 m1:Meth K CR "first" f1
 g1:FnOk P w K mg base (CX1 P w) 4 f1 fd1 ["self"] (G1m CR)
 b1:Binds K fd1 ["self"] []
 m2:Meth K CR "at" f2
 g2:FnOk P w K mg base (CX1 P w) 3 f2 fd2 ["self","power"] (U5j CR)
 b2:Binds K fd2 ["self","power"] []
theorem Z4f{CR x dx:Addr}{H:Hp}{Q:VK}{E:XK}{t b n:Int}(n1:H x=none)(n2:H dx=none)(ne:dx≠x)(k:∀H',Same H H' ->RatAt CR H' x t b n ->Q .non H'):
   D1k CR [.ref x,.int t,.int b,.int n] (upd (upd H dx (.own x)) x (.ins CR dx [])) Q E:=
 ⟨x,dx,_,_,_,rfl,A6,fun H' e s=>k H' (fun c o z=>s c o (by rw[C6 (D5 z n1),C6 (D5 z n2)];exact z) (D5 z n1)) ⟨dx,e⟩⟩
end
noncomputable abbrev A4v:Stmt:=(top 6)
section
variable{P:Program}{w:World}{K:Frag}{mg:Str ->Option Value}{base:Heap}
noncomputable def G0c:Sp:=fun vs H Q _=>∃l m:Int,vs=[.int (2*l),.int m]/\0<=l/\0<m/\Q (.int (Z7 l m)) H
theorem U5b:FnScope ["size","middle"] ["size","middle"] (A1 A4v):=scK
theorem Y0z{m:Int}(hm:0<m):Z7 0 m=0:=by
 unfold Z7
 rw[decide_eq_false (by omega:¬(0:Int)<0),decide_eq_false (by omega:¬m<=2*0),decide_eq_false (by omega:¬m<2*0)]
 rfl
theorem Y2e{l m:Int}(hl:0<l)(h:2*l<m):Z7 l m=1:=by
 unfold Z7
 rw[decide_eq_true hl,decide_eq_false (by omega:¬m<=2*l),decide_eq_false (by omega:¬m<2*l)]
 rfl
theorem Y1j{l m:Int}(hl:0<l)(h:2*l=m):Z7 l m=2:=by
 unfold Z7
 rw[decide_eq_true hl,decide_eq_true (by omega:m<=2*l),decide_eq_false (by omega:¬m<2*l)]
 rfl
theorem Y2y{l m:Int}(hl:0<l)(h:m<2*l):Z7 l m=3:=by
 unfold Z7
 rw[decide_eq_true hl,decide_eq_true (by omega:m<=2*l),decide_eq_true h]
 rfl
theorem J9n(D:Def K mg "part_of" ["size","middle"] A4v f fd):FnOk P w K mg base (CX1 P w) 1 f fd ["size","middle"] G0c:=by
 refine FnOk.up (D.F.ok U5b (fun vs H Q E h=>?_) (fun cdv A outer s H vs Q E hr h=>?_))
 . obtain⟨l,m,rfl,_⟩:=h
   rfl
 . obtain ⟨l,m,rfl,hl,hm,k⟩:=h
   refine⟨_,(A7 (J9 (D0 U0 (pv 0) A3 (C8 _)) (B3 (C4 A3)) D4)
     (A7 (J9 (D0 C0c (pv 0) (pv 1) (C8 _)) (B3 (C4 A3)) D4)
     (B3 (C4 (A2s (D0 U0 (pv 0) (pv 1) (C8 _)) A3 A3))))),?_⟩
   refine⟨_,rfl,rfl,_,rfl,Y3 (fun h0=>?_) (fun h0=>?_)⟩
   . have e:l=0:=by
       have:2*l=0:=by injection h0
       omega
     subst e
     rw[Y0z hm] at k
     exact k
   . have hl':0<l:=by
       apply Classical.byContradiction
       intro z
       exact h0 (by rw[show l=0 by omega];rfl)
     refine⟨_,rfl,_,rfl,_,_,rfl,rfl,_,rfl,Y3 (fun h1=>?_) (fun h1=>?_)⟩
     . rw[Y2e hl' h1] at k
       exact k
     . refine⟨_,rfl,_,rfl,rfl,_,rfl,Y3 (fun h2=>?_) (fun h2=>?_)⟩
       . rw[Y1j hl' (by injection h2)] at k
         exact k
       . rw[Y2y hl' (by
           have:2*l≠m:=fun z=>h2 (by rw[z])
           omega)] at k
         exact k
end
noncomputable abbrev A8h:Stmt:=(top 7)
theorem G5v(k:Nat):10^(k*301029995/10^9)<=2^k:=by
 have hm:k*301029995/10^9*28738<=k*8651:=by
   have:k*301029995/10^9*10^9<=k*301029995:=Nat.div_mul_le_self _ _
   omega
 generalize k*301029995/10^9=m at hm
 have c:(10:Nat)^8651<=2^28738:=by decide+kernel
 have a:(10^m)^8651<=(2^k)^8651:=by
   calc (10^m)^8651=(10^8651)^m:=by rw[<-Nat.pow_mul, <-Nat.pow_mul,Nat.mul_comm]
     _<=(2^28738)^m:=Nat.pow_le_pow_left c m
     _=2^(m*28738):=by rw[<-Nat.pow_mul,Nat.mul_comm]
     _<=2^(k*8651):=Nat.pow_le_pow_right (by decide) hm
     _=(2^k)^8651:=by rw[<-Nat.pow_mul]
 exact(Nat.pow_le_pow_iff_left (by decide)).mp a
section
variable{P:Program}{w:World}{K:Frag}{mg:Str ->Option Value}{base:Heap}
noncomputable def J6x:Sp:=fun vs H Q _=>∃n:Nat,vs=[.int (n:Int)]/\1<=n/\n<10^3000/\∀L:Nat,10^L<=n ->n<10^(L+1) ->Q (.int (L:Int)) H
theorem scWLead:FnScope ["whole","lead","beyond"] ["whole"] (A1 A8h):=scK
theorem U8e(D:Def K mg "whole_lead" ["whole"] A8h f fd)(dA:Def K mg "ten_to" ["count"] A2x f1 fd1)(dB:FnOk P w K mg base (CX1 P w) 2 f1 fd1 ["count"] B4v):FnOk P w K mg base (CX1 P w) 3 f fd ["whole"] J6x:=by
 refine FnOk.up (D.F.ok scWLead (fun vs H Q E h=>?_) (fun cdv A outer s H vs Q E hr h=>?_))
 . obtain⟨n,rfl,_⟩:=h
   rfl
 . obtain ⟨n,rfl,n1,n2,k⟩:=h
   have hx:G2 (A0b CX0 P w K mg base ["whole","lead","beyond"] "whole_lead" (A1 A8h) f cdv A outer s H E).nox EKF:=Y7
   refine⟨_,(A7 (C7 (D3 (i:=1) scWLead.nd rfl (Or.inl rfl) (B7 D9 (B7 G7 (B7 U2 (Y9k PySem.F.plainAttrs_int PySem.F.slot_int_bit_length PySem.F.type_int_bit_length C5c (pv 0)) A3) A3) (B7 U6w A3 A3))))
     (A7 (C7 (D3 (i:=2) scWLead.nd rfl (Or.inl rfl) (G0 dA dB hr hx (A0 (B7 G8 (pv 1) A3) A8))))
     (A7 (C7 (B4s PassesOwn.never (D0 U4f (pv 2) (pv 0) (C8 _)) (A7 (C0u (i:=1) scWLead.nd rfl (Or.inl rfl) A3 D0x)
     (B3 (D3 (i:=2) scWLead.nd rfl (Or.inl rfl) (B7 G7 (pv 2) A3))))))
     (B3 (C4 (pv 1)))))),?_⟩
   have mC:∀z n:Int, -(2^64)<n ->n<2^64 ->IntMulOk z n:=fun z n a b=>CMul.ok (.inr ⟨a,b⟩)
   have pw:Z5q 10 9:=⟨by decide,by decide,by decide⟩
   have l3:∀{L:Nat},10^L<=n ->L<3000:=fun hL=>(Nat.pow_lt_pow_iff_right (by decide:1<10)).mp (Nat.lt_of_le_of_lt hL n2)
   refine⟨fun σ H'=>H'=H/\∃L:Nat,10^L<=n/\σ=[some (.int (n:Int)),some (.int (L:Int)),none],?_,?_⟩
   . refine⟨_,rfl,rfl,_,rfl,rfl,_,_,rfl,rfl,_,_,rfl,rfl,mC _ _ (by decide) (by decide),_,_,rfl,rfl,pw,_,_,rfl,rfl,⟨by decide,by decide+kernel⟩,rfl,n.log2*301029995/10^9,?_,?_⟩
     . exact Nat.le_trans (G5v _) (Nat.log2_self_le (by omega))
     . have e:(Builtin.Int.intBits (n:Int):Nat)=n.log2+1:=by
         unfold Builtin.Int.intBits
         rw[if_neg (by simp;omega)]
         rfl
       show [some (V.int (n:Int)),some (V.int ((((Builtin.Int.intBits (n:Int):Nat):Int)-1)*301029995/(10^Int.toNat 9:Int))),none]=_
       rw[e,show((n.log2+1:Nat):Int)-1=(n.log2:Int) by omega]
       rfl
   rintro σ H' ⟨rfl,L0,hL0,rfl⟩
   refine⟨fun σ H2=>H2=H'/\∃L:Nat,10^L<=n/\σ=[some (.int (n:Int)),some (.int (L:Int)),some (.int ((10^(L+1):Nat):Int))],?_,?_⟩
   . have:=l3 hL0
     exact⟨_,rfl,_,_,rfl,rfl,L0+1,rfl,by omega,rfl,L0,hL0,rfl⟩
   rintro σ H2 ⟨rfl,L1,hL1,rfl⟩
   refine⟨fun σ H3=>H3=H2/\∃L:Nat,10^L<=n/\n<10^(L+1)/\σ=[some (.int (n:Int)),some (.int (L:Int)),some (.int ((10^(L+1):Nat):Int))],?_,?_⟩
   . refine B4q (fun σ H3=>H3=H2/\∃L:Nat,10^L<=n/\σ=[some (.int (n:Int)),some (.int (L:Int)),some (.int ((10^(L+1):Nat):Int))]) (fun σ _=>match σ with| [_,some (.int c),_]=>n-c.toNat|_=>0) ?_ ?_ ?_
     . exact⟨rfl,L1,hL1,rfl⟩
     . rintro σ H3 ⟨rfl,L,hL,rfl⟩
       refine⟨_,rfl,_,rfl,_,_,rfl,rfl,_,rfl,Y3 (fun hle=>?_) (fun hgt=>?_)⟩
       . have hle:10^(L+1)<=n:=Int.ofNat_le.mp hle
         refine⟨_,rfl,_,_,rfl,rfl,_,rfl,_,_,rfl,rfl,mC _ _ (by decide) (by decide),⟨rfl,L+1,hle,?_⟩,?_⟩
         . show [some (V.int (n:Int)),some (V.int ((L:Int)+1)),some (V.int (((10^(L+1):Nat):Int)*10))]=_
           rw[show((10^(L+1):Nat):Int)*10=((10^(L+1+1):Nat):Int) by rw[Nat.pow_succ 10 (L+1)];rfl]
           rfl
         have lt:L+1<10^(L+1):=Nat.lt_pow_self (by decide)
         show n-((L:Int)+1).toNat<n-(L:Int).toNat
         omega
       . have hgt:¬10^(L+1)<=n:=fun z=>hgt (Int.ofNat_le.mpr z)
         exact⟨rfl,L,hL,by omega,rfl⟩
     . rintro σ H2 Q1 Q2 hQ ⟨v,e,v2,e4,i2,j2,e5,e6,b,e7,q⟩
       exact⟨v,e,v2,e4,i2,j2,e5,e6,b,e7,hQ _ _ q⟩
   rintro σ H3 ⟨rfl,L,h1,h2,rfl⟩
   exact⟨_,rfl,k L h1 h2⟩
end
noncomputable abbrev C0z:Stmt:=(D8 (top 5) 2)
noncomputable abbrev A3a:Stmt:=(D8 (top 5) 1)
section
variable{P:Program}{w:World}{K:Frag}{mg:Str ->Option Value}{base:Heap}
theorem scRAt:FnScope ["self","power","shift","top","bottom","whole"] ["self","power"] (A1 C0z):=scK
theorem Y8q{f f1 f2 CR CE:Addr}(F:Fun K "at" "Ratio.at" C0z f fd)(dA:Def K mg "ten_to" ["count"] A2x f1 fd1)(dB:FnOk P w K mg base (CX1 P w) 2 f1 fd1 ["count"] B4v)
   (dC:Def K mg "part_of" ["size","middle"] A4v f2 fd2) (dD:FnOk P w K mg base (CX1 P w) 1 f2 fd2 ["size","middle"] G0c) (R:RatC K mg CR CE) (O:Own mg):FnOk P w K mg base (CX1 P w) 3 f fd ["self","power"] (U5j CR):=by
 refine FnOk.up (F.ok scRAt (fun vs H Q E h=>?_) (fun cdv A outer s H vs Q E hr h=>?_))
 . obtain⟨x,t,b,n,p,rfl,_⟩:=h
   rfl
 . obtain⟨x,t,b,n,p,rfl,⟨dx,e⟩,ht,hb,h1,h2,k⟩:=h
   have hx:G2 (A0b CX0 P w K mg base ["self","power","shift","top","bottom","whole"] "Ratio.at" (A1 C0z) f cdv A outer s H E).nox EKF:=Y7
   refine⟨_,(A7 (D3 (i:=2) scRAt.nd rfl (Or.inl rfl) (B7 U2 (U7 (pv 0) rfl) (pv 1)))
     (A7 (D3 (i:=3) scRAt.nd rfl (Or.inl rfl) (B7 G7 (U7 (pv 0) rfl) (G0 dA dB hr hx (A0 (U9 (A0a rfl) (by rfl) O.max_ boot_max (A0 (pv 2) (A0 A3 A8))) A8))))
     (A7 (D3 (i:=4) scRAt.nd rfl (Or.inl rfl) (B7 G7 (U7 (pv 0) rfl) (G0 dA dB hr hx (A0 (U9 (A0a rfl) (by rfl) O.max_ boot_max (A0 (G0r C0k (pv 2)) (A0 A3 A8))) A8))))
     (A7 (D3 (i:=5) scRAt.nd rfl (Or.inl rfl) (B7 D9 (pv 3) (pv 4)))
     (B3 (C4 (Y9 (A0 (pv 5) (A0 (G0 dC dD hr hx (A0 (B7 G7 A3 (B7 U2 (pv 3) (B7 G7 (pv 5) (pv 4)))) (A0 (pv 4) A8))) A8))))))))),?_⟩
   have z2:2<=sizeLine:=C9 (by decide)
   have mC':∀z n:Int, -(2^64)<n ->n<2^64 ->IntMulOk n z:=fun z n a b=>CMul.ok (.inl ⟨a,b⟩)
   have hb0:0<b:=by have:=hb.1;omega
   refine⟨_,rfl,x,CR,dx,_,_,rfl,e,R.cl,R.n_power,C8x _ _ _,_,rfl,_,_,rfl,rfl,?_⟩
   refine⟨_,rfl,x,CR,dx,_,_,rfl,e,R.cl,R.n_top,J5s _ _ _,_,rfl,_,_,rfl,(n-p).toNat,congrArg (fun z=>[V.int z]) (Y7z (n-p)),by omega,_,_,rfl,rfl,B5x ht h2,?_⟩
   refine⟨_,rfl,x,CR,dx,_,_,rfl,e,R.cl,R.n_bottom,C1j _ _ _,_,rfl,_,rfl,_,_,rfl,(-(n-p)).toNat,congrArg (fun z=>[V.int z]) (Y7z (-(n-p))),by omega,_,_,rfl,rfl,B5x hb (by omega),?_⟩
   have lp:0<b*B0 (-(n-p)):=Int.mul_pos hb0 (J1 _)
   have ll:(b*B0 (-(n-p))).natAbs.log2<9000:=U6f hb (by omega)
   refine⟨_,rfl,_,rfl,_,_,rfl,rfl,⟨lp,ll⟩,?_⟩
   have lf:=D1u (t:=t) (s:=n-p) hb0
   refine⟨_,rfl,_,rfl,_,rfl,_,rfl,_,_,rfl,rfl,Y6y ht hb h1 h2,_,_,rfl,rfl,_,_,rfl,rfl,mC' _ _ (by decide) (by decide),_,rfl,_,_,rfl,lf.1,lp,z2,fun q nq=>k q _ (Same.upd nq) nq A6⟩
end
theorem Y8r{t b L M u v:Nat}(h:L+u=M+v)(t2:t<10^(L+1))(b1:10^M<=b):t*10^u<10*(b*10^v):=by
 have p:0<10^u:=Nat.pow_pos (by decide)
 calc t*10^u<10^(L+1)*10^u:=Nat.mul_lt_mul_of_pos_right t2 p
   _=10*(10^M*10^v):=by rw[<-Nat.pow_add, <-Nat.pow_add, <-h,show L+1+u=(L+u)+1 by omega,Nat.pow_succ,Nat.mul_comm]
   _<=10*(b*10^v):=Nat.mul_le_mul_left 10 (Nat.mul_le_mul_right _ b1)
theorem Y9p{t b L M u v:Nat}(h:L+u=M+1+v)(t1:10^L<=t)(b2:b<10^(M+1)):b*10^v<=t*10^u:=by
 calc b*10^v<=10^(M+1)*10^v:=Nat.mul_le_mul_right _ (Nat.le_of_lt b2)
   _=10^L*10^u:=by rw[<-Nat.pow_add, <-Nat.pow_add,h]
   _<=t*10^u:=Nat.mul_le_mul_right _ t1
theorem C9g{t b L M:Nat}(t1:10^L<=t)(t2:t<10^(L+1))(b1:10^M<=b)(b2:b<10^(M+1))(h:(b:Int)*B0 (-((M:Int)-L))<=(t:Int)*B0 ((M:Int)-L)):A7t t b ((M:Int)-L):=by
 refine⟨h,?_⟩
 unfold B0
 have:=Y8r (t:=t) (b:=b) (L:=L) (M:=M) (u:=((M:Int)-L).toNat) (v:=(-((M:Int)-L)).toNat) (by omega) t2 b1
 exact Int.ofNat_lt.mpr this
theorem C1v{t b L M:Nat}(t1:10^L<=t)(t2:t<10^(L+1))(b1:10^M<=b)(b2:b<10^(M+1))(h:(t:Int)*B0 ((M:Int)-L)<(b:Int)*B0 (-((M:Int)-L))):A7t t b ((M:Int)-L+1):=by
 refine⟨?_,?_⟩
 . unfold B0
   have:=Y9p (t:=t) (b:=b) (L:=L) (M:=M) (u:=((M:Int)-L+1).toNat) (v:=(-((M:Int)-L+1)).toNat) (by omega) t1 b2
   exact Int.ofNat_le.mpr this
 . have hb:0<(b:Int):=by
     have:0<10^M:=Nat.pow_pos (by decide)
     omega
   generalize (M:Int)-L=s at h
   have c:=C0m (s:=s) (r:=s+1) (by omega)
   have e1:B0 (s+1-s)=10:=by rw[show s+1-s=1 by omega];rfl
   rw[e1] at c
   have l:=Int.mul_pos hb (J1 (-s))
   have l':=Int.mul_pos hb (J1 (-(s+1)))
   have e:(t:Int)*B0 (s+1)*((b:Int)*B0 (-s))=(t:Int)*B0 s*((b:Int)*B0 (-(s+1)))*10:=by
     calc (t:Int)*B0 (s+1)*((b:Int)*B0 (-s))=t*b*(B0 (s+1)*B0 (-s)):=by ac_rfl
       _=t*b*(B0 s*B0 (-(s+1))*10):=by rw[c]
       _=(t:Int)*B0 s*((b:Int)*B0 (-(s+1)))*10:=by ac_rfl
   have a:(t:Int)*B0 s*((b:Int)*B0 (-(s+1)))<(b:Int)*B0 (-s)*((b:Int)*B0 (-(s+1))):=Int.mul_lt_mul_of_pos_right h l'
   have a2:(t:Int)*B0 (s+1)*((b:Int)*B0 (-s))<10*((b:Int)*B0 (-(s+1)))*((b:Int)*B0 (-s)):=by
     rw[e,show 10*((b:Int)*B0 (-(s+1)))*((b:Int)*B0 (-s))=(b:Int)*B0 (-s)*((b:Int)*B0 (-(s+1)))*10 by ac_rfl]
     exact Int.mul_lt_mul_of_pos_right a (by decide)
   exact Int.lt_of_mul_lt_mul_right a2 (Int.le_of_lt l)
section
variable{P:Program}{w:World}{K:Frag}{mg:Str ->Option Value}{base:Heap}
theorem scRFirst:FnScope ["self","guess"] ["self"] (A1 A3a):=scK
theorem J9m{f f1 f2 CR CE:Addr}(F:Fun K "first" "Ratio.first" A3a f fd)(dA:Def K mg "whole_lead" ["whole"] A8h f1 fd1)(dB:FnOk P w K mg base (CX1 P w) 3 f1 fd1 ["whole"] J6x)
   (MA:Meth K CR "at" f2) (GA:FnOk P w K mg base (CX1 P w) 3 f2 fd2 ["self","power"] (U5j CR)) (BA:Binds K fd2 ["self","power"] []) (R:RatC K mg CR CE):FnOk P w K mg base (CX1 P w) 4 f fd ["self"] (G1m CR):=by
 refine FnOk.up (F.ok scRFirst (fun vs H Q E h=>?_) (fun cdv A outer s H vs Q E hr h=>?_))
 . obtain⟨x,t,b,n,rfl,_⟩:=h
   rfl
 . obtain⟨x,t,b,n,rfl,ra,ht,hb,k⟩:=h
   have hx:G2 (A0b CX0 P w K mg base ["self","guess"] "Ratio.first" (A1 A3a) f cdv A outer s H E).nox EKF:=Y7
   refine⟨_,(A7 (D3 (i:=1) scRFirst.nd rfl (Or.inl rfl) (B7 G8 (B7 U2 (G0 dA dB hr hx (A0 (U7 (pv 0) rfl) A8)) (G0 dA dB hr hx (A0 (U7 (pv 0) rfl) A8))) (U7 (pv 0) rfl)))
     (B3 (C4 (A2s (D0 C2b (U5 V1 (C1y (pv 0) R.cl MA GA hr BA .nil hx (A0 (pv 1) A8)) A3 (fun _ _=>rfl)) A3 (C8 _)) (pv 1) (B7 U2 (pv 1) A3))))),?_⟩
   obtain⟨tn,rfl,ta,tb⟩:=ht.nat
   obtain⟨bn,rfl,ba,bb⟩:=hb.nat
   obtain⟨dx,e⟩:=id ra
   have p30:(10:Nat)^1000<10^3000:=Nat.pow_lt_pow_right (by decide) (by decide)
   have p30':∀{L m:Nat},10^L<=m ->m<10^1000 ->L<1000:=fun h1 h2=>(Nat.pow_lt_pow_iff_right (by decide:1<10)).mp (Nat.lt_of_le_of_lt h1 h2)
   refine⟨_,rfl,x,CR,dx,_,_,rfl,e,R.cl,R.n_top,J5s _ _ _,tn,rfl,ta,Nat.lt_trans tb p30,fun L L1 L2=>?_⟩
   refine⟨_,rfl,x,CR,dx,_,_,rfl,e,R.cl,R.n_bottom,C1j _ _ _,bn,rfl,ba,Nat.lt_trans bb p30,fun M' M1 M2=>?_⟩
   have l30:=p30' L1 tb
   have m30:=p30' M1 bb
   refine⟨_,_,rfl,rfl,_,rfl,x,CR,dx,_,_,rfl,e,R.cl,R.n_power,C8x _ _ _,_,_,rfl,rfl,?_⟩
   have es:n-((L:Int)-M'+n)=(M':Int)-L:=by omega
   refine⟨_,rfl,x,dx,_,rfl,e,C9c _ _ _,_,rfl,x,tn,bn,n,_,rfl,ra,ht,hb,by omega,by omega,fun q H1 s1 nq hq=>?_⟩
   rw[es] at hq
   refine⟨q,_,0,_,rfl,rfl,SqT.of hq,D7 (j:=0) rfl,_,_,rfl,rfl,_,rfl,?_⟩
   have lp:0<(bn:Int)*B0 (-((M':Int)-L)):=Int.mul_pos (by omega) (J1 _)
   refine Y3 (fun hg=>?_) (fun hg=>?_)
   . have hle:(bn:Int)*B0 (-((M':Int)-L))<=(tn:Int)*B0 ((M':Int)-L):=by
       have:=(Int.le_ediv_iff_mul_le lp).mp (show(1:Int)<=(tn:Int)*B0 ((M':Int)-L)/((bn:Int)*B0 (-((M':Int)-L))) from hg)
       omega
     refine⟨_,rfl,k _ H1 s1 ?_⟩
     rw[es]
     exact C9g L1 L2 M1 M2 hle
   . have hlt:(tn:Int)*B0 ((M':Int)-L)<(bn:Int)*B0 (-((M':Int)-L)):=by
       apply Classical.byContradiction
       intro z
       exact hg ((Int.le_ediv_iff_mul_le lp).mpr (by omega))
     refine⟨_,rfl,_,_,rfl,rfl,k _ H1 s1 ?_⟩
     rw[show n-((L:Int)-M'+n-1)=(M':Int)-L+1 by omega]
     exact C1v L1 L2 M1 M2 hlt
end
inductive Wy where
 |down
 |up
 |floor
 |ceiling
 |halfUp
 |halfDown
 |halfEven
 |fiveUp
noncomputable def Wy.name:Wy ->Str
 | .down=>"down"
 | .up=>"up"
 | .floor=>"floor"
 | .ceiling=>"ceiling"
 | .halfUp=>"half up"
 | .halfDown=>"half down"
 | .halfEven=>"half even"
 | .fiveUp=>"five up"
noncomputable def Wy.cls:Wy ->Str
 | .down=>"Down"
 | .up=>"Up"
 | .floor=>"Floor"
 | .ceiling=>"Ceiling"
 | .halfUp=>"HalfUp"
 | .halfDown=>"HalfDown"
 | .halfEven=>"HalfEven"
 | .fiveUp=>"FiveUp"
theorem Wy.inj{a b:Wy}(h:a.name=b.name):a=b:=by
 cases a<;>cases b<;>first|rfl|exact absurd h (by decide+kernel)
structure WayC(K:Frag)(mg:Str ->Option Value)(x:Str)(C CW:Addr):Prop where
 g:mg x=some (.ref C)
 cl:Cls K C
 mk0:Mk0 K C
 ca:findIn K (.ref C) "__class__"=some (some (.builtin "object.__class__"))
 sn:specialIn K (.builtin "object.__class__") "__get__"=some (some (.builtin "getset_descriptor.__get__"))
 tk:takesIn K (.builtin "object.__class__")=some true
 ob:mroIn K C (.type "object")=some true
 up:kitOne K (.ref C) (.ref CW)=some true
section
variable{P:Program}{w:World}{K:Frag}{mg:Str ->Option Value}{base:Heap}
noncomputable def A5f (s:Str):Sp:=fun vs H Q _=>∃p,vs=[.ref p]/\Q (.str s) H
noncomputable def Z4x (P:Program) (w:World) (K:Frag) (mg:Str ->Option Value) (base:Heap) (C:Addr) (s:Str):Prop:=Has P w K mg base C "name" 1 ["self"] (A5f s)
noncomputable abbrev sN0:Stmt:=(D8 (top 34) 0)
theorem Z9u:FnScope ["self"] ["self"] (A1 sN0):=scK
theorem Z4s(F:Fun K "name" "Down.name" sN0 f fd):FnOk P w K mg base (CX1 P w) 1 f fd ["self"] (A5f "down"):=by
 refine FnOk.up (F.ok Z9u (fun vs H Q E h=>?_) (fun cdv A outer s H vs Q E hr h=>?_))
 . obtain⟨p,rfl,_⟩:=h
   rfl
 . obtain⟨p,rfl,k⟩:=h
   exact⟨_,B3 (C4 C5),k⟩
noncomputable abbrev sN1:Stmt:=(D8 (top 35) 0)
theorem Z8r:FnScope ["self"] ["self"] (A1 sN1):=scK
theorem Z5x(F:Fun K "name" "Up.name" sN1 f fd):FnOk P w K mg base (CX1 P w) 1 f fd ["self"] (A5f "up"):=by
 refine FnOk.up (F.ok Z8r (fun vs H Q E h=>?_) (fun cdv A outer s H vs Q E hr h=>?_))
 . obtain⟨p,rfl,_⟩:=h
   rfl
 . obtain⟨p,rfl,k⟩:=h
   exact⟨_,B3 (C4 C5),k⟩
noncomputable abbrev sN2:Stmt:=(D8 (top 36) 0)
theorem Z9f:FnScope ["self"] ["self"] (A1 sN2):=scK
theorem Z3z(F:Fun K "name" "Floor.name" sN2 f fd):FnOk P w K mg base (CX1 P w) 1 f fd ["self"] (A5f "floor"):=by
 refine FnOk.up (F.ok Z9f (fun vs H Q E h=>?_) (fun cdv A outer s H vs Q E hr h=>?_))
 . obtain⟨p,rfl,_⟩:=h
   rfl
 . obtain⟨p,rfl,k⟩:=h
   exact⟨_,B3 (C4 C5),k⟩
noncomputable abbrev sN3:Stmt:=(D8 (top 37) 0)
theorem scN3:FnScope ["self"] ["self"] (A1 sN3):=scK
theorem Z5j(F:Fun K "name" "Ceiling.name" sN3 f fd):FnOk P w K mg base (CX1 P w) 1 f fd ["self"] (A5f "ceiling"):=by
 refine FnOk.up (F.ok scN3 (fun vs H Q E h=>?_) (fun cdv A outer s H vs Q E hr h=>?_))
 . obtain⟨p,rfl,_⟩:=h
   rfl
 . obtain⟨p,rfl,k⟩:=h
   exact⟨_,B3 (C4 C5),k⟩
noncomputable abbrev sN4:Stmt:=(D8 (top 38) 0)
theorem scN4:FnScope ["self"] ["self"] (A1 sN4):=scK
theorem Z3w(F:Fun K "name" "HalfUp.name" sN4 f fd):FnOk P w K mg base (CX1 P w) 1 f fd ["self"] (A5f "half up"):=by
 refine FnOk.up (F.ok scN4 (fun vs H Q E h=>?_) (fun cdv A outer s H vs Q E hr h=>?_))
 . obtain⟨p,rfl,_⟩:=h
   rfl
 . obtain⟨p,rfl,k⟩:=h
   exact⟨_,B3 (C4 C5),k⟩
noncomputable abbrev sN5:Stmt:=(D8 (top 39) 0)
theorem Z9w:FnScope ["self"] ["self"] (A1 sN5):=scK
theorem Z5c(F:Fun K "name" "HalfDown.name" sN5 f fd):FnOk P w K mg base (CX1 P w) 1 f fd ["self"] (A5f "half down"):=by
 refine FnOk.up (F.ok Z9w (fun vs H Q E h=>?_) (fun cdv A outer s H vs Q E hr h=>?_))
 . obtain⟨p,rfl,_⟩:=h
   rfl
 . obtain⟨p,rfl,k⟩:=h
   exact⟨_,B3 (C4 C5),k⟩
noncomputable abbrev sN6:Stmt:=(D8 (top 40) 0)
theorem scN6:FnScope ["self"] ["self"] (A1 sN6):=scK
theorem Z4e(F:Fun K "name" "HalfEven.name" sN6 f fd):FnOk P w K mg base (CX1 P w) 1 f fd ["self"] (A5f "half even"):=by
 refine FnOk.up (F.ok scN6 (fun vs H Q E h=>?_) (fun cdv A outer s H vs Q E hr h=>?_))
 . obtain⟨p,rfl,_⟩:=h
   rfl
 . obtain⟨p,rfl,k⟩:=h
   exact⟨_,B3 (C4 C5),k⟩
noncomputable abbrev sN7:Stmt:=(D8 (top 41) 0)
theorem scN7:FnScope ["self"] ["self"] (A1 sN7):=scK
theorem Z3m(F:Fun K "name" "FiveUp.name" sN7 f fd):FnOk P w K mg base (CX1 P w) 1 f fd ["self"] (A5f "five up"):=by
 refine FnOk.up (F.ok scN7 (fun vs H Q E h=>?_) (fun cdv A outer s H vs Q E hr h=>?_))
 . obtain⟨p,rfl,_⟩:=h
   rfl
 . obtain⟨p,rfl,k⟩:=h
   exact⟨_,B3 (C4 C5),k⟩
noncomputable def Y6v (K:Frag) (H:Hp) (v:V):Prop:=∃t b,TyE K H v t/\kitOne K t (.type "str")=some b/\(b=false\/∃z,v= .str z/\∀y:Wy,z≠y.name)
theorem A8d{C:Addr}{σ:L2.St}{H:Hp}{Q:VK}(k:∀p dx H',H p=none ->Same H H' ->H' p=some (.ins C dx []) ->Q (.ref p) H'):Y9j C σ H Q:=fun x dx n1 n2 ne=>
 k x dx _ n1 ((Same.upd n2).trans (Same.upd (by rw[C6 (Ne.symm ne)];exact n1))) A6
noncomputable abbrev A8k:Stmt:=(top 42)
noncomputable def D0q (K:Frag) (CB:Addr) (cw:Wy ->Addr):Sp:=fun vs H Q E=>∃v,vs=[v]/\((∃y:Wy,v= .str y.name/\∀p dx H',H p=none ->Same H H' ->H' p=some (.ins (cw y) dx []) ->Q (.ref p) H')\/(Y6v K H v/\E (.ref CB) none H))
theorem Y3p:FnScope ["name"] ["name"] (A1 A8k):=scK
theorem U6n{f CB CW:Addr}{cw:Wy ->Addr}(D:Def K mg "way_of" ["name"] A8k f fd)(O:Own mg)(T:Kit K)(B:Err K mg "BadContext" CB)(W:∀y:Wy,WayC K mg y.cls (cw y) CW):
   FnOk P w K mg base (CX1 P w) 1 f fd ["name"] (D0q K CB cw):=by
 refine D.F.okE Y3p (fun vs H Q E h=>?_) (fun X cdv A outer s H vs Q E hX hr hx h=>?_)
 . obtain⟨v,rfl,_⟩:=h
   rfl
 . subst hX
   obtain⟨v,rfl,h⟩:=h
   refine⟨_,(A7 (J9 (A2y (Y0 (D0n O.isi (pv 0) (pty O.str_ boot_str)))) (B3 (A2q (by rfl) B.g B.q PySem.F.excBase_ValueError hr.hd hx (A0 C5 A8))) D4)
     (A7 (J9 (D0 U0 (pv 0) C5 (C8 _)) (B3 (C4 (A7z (W .down).mk0 rfl (W .down).g))) D4)
     (A7 (J9 (D0 U0 (pv 0) C5 (C8 _)) (B3 (C4 (A7z (W .up).mk0 rfl (W .up).g))) D4)
     (A7 (J9 (D0 U0 (pv 0) C5 (C8 _)) (B3 (C4 (A7z (W .floor).mk0 rfl (W .floor).g))) D4)
     (A7 (J9 (D0 U0 (pv 0) C5 (C8 _)) (B3 (C4 (A7z (W .ceiling).mk0 rfl (W .ceiling).g))) D4)
     (A7 (J9 (D0 U0 (pv 0) C5 (C8 _)) (B3 (C4 (A7z (W .halfUp).mk0 rfl (W .halfUp).g))) D4)
     (A7 (J9 (D0 U0 (pv 0) C5 (C8 _)) (B3 (C4 (A7z (W .halfDown).mk0 rfl (W .halfDown).g))) D4)
     (A7 (J9 (D0 U0 (pv 0) C5 (C8 _)) (B3 (C4 (A7z (W .halfEven).mk0 rfl (W .halfEven).g))) D4)
     (A7 (J9 (D0 U0 (pv 0) C5 (C8 _)) (B3 (C4 (A7z (W .fiveUp).mk0 rfl (W .fiveUp).g))) D4)
     (B3 (A2q (by rfl) B.g B.q PySem.F.excBase_ValueError hr.hd hx (A0 C5 A8)))))))))))),?_⟩
   have z1:1<=sizeLine:=C9 (by decide)
   rcases h with⟨y,rfl,k⟩|⟨⟨t,b,ty,kk,bad⟩,k⟩
   . refine⟨_,rfl,_,_,_,_,true,rfl,rfl,G0g _,T.str_str,_,rfl,U1 ?_⟩
     refine⟨_,rfl,rfl,_,rfl,Y3 (fun e=>?_) (fun n0=>?_)⟩
     . have q:y= .down:=Wy.inj (V.str.inj (e:V.str y.name=V.str (Wy.name .down)))
       subst q
       exact A8d k
     refine⟨_,rfl,rfl,_,rfl,Y3 (fun e=>?_) (fun n1=>?_)⟩
     . have q:y= .up:=Wy.inj (V.str.inj (e:V.str y.name=V.str (Wy.name .up)))
       subst q
       exact A8d k
     refine⟨_,rfl,rfl,_,rfl,Y3 (fun e=>?_) (fun n2=>?_)⟩
     . have q:y= .floor:=Wy.inj (V.str.inj (e:V.str y.name=V.str (Wy.name .floor)))
       subst q
       exact A8d k
     refine⟨_,rfl,rfl,_,rfl,Y3 (fun e=>?_) (fun n3=>?_)⟩
     . have q:y= .ceiling:=Wy.inj (V.str.inj (e:V.str y.name=V.str (Wy.name .ceiling)))
       subst q
       exact A8d k
     refine⟨_,rfl,rfl,_,rfl,Y3 (fun e=>?_) (fun n4=>?_)⟩
     . have q:y= .halfUp:=Wy.inj (V.str.inj (e:V.str y.name=V.str (Wy.name .halfUp)))
       subst q
       exact A8d k
     refine⟨_,rfl,rfl,_,rfl,Y3 (fun e=>?_) (fun n5=>?_)⟩
     . have q:y= .halfDown:=Wy.inj (V.str.inj (e:V.str y.name=V.str (Wy.name .halfDown)))
       subst q
       exact A8d k
     refine⟨_,rfl,rfl,_,rfl,Y3 (fun e=>?_) (fun n6=>?_)⟩
     . have q:y= .halfEven:=Wy.inj (V.str.inj (e:V.str y.name=V.str (Wy.name .halfEven)))
       subst q
       exact A8d k
     refine⟨_,rfl,rfl,_,rfl,Y3 (fun e=>?_) (fun n7=>?_)⟩
     . have q:y= .fiveUp:=Wy.inj (V.str.inj (e:V.str y.name=V.str (Wy.name .fiveUp)))
       subst q
       exact A8d k
     cases y with
     |down=>exact absurd rfl n0
     |up=>exact absurd rfl n1
     |floor=>exact absurd rfl n2
     |ceiling=>exact absurd rfl n3
     |halfUp=>exact absurd rfl n4
     |halfDown=>exact absurd rfl n5
     |halfEven=>exact absurd rfl n6
     |fiveUp=>exact absurd rfl n7
   . refine⟨_,rfl,_,_,_,_,b,rfl,rfl,ty,kk,_,rfl,?_⟩
     cases b with
     |false=>exact Y6 ⟨z1,k⟩
     | true=>
       obtain⟨z,rfl,nz⟩:=bad.resolve_left (by decide)
       refine U1 ?_
       refine⟨_,rfl,rfl,_,rfl,Y3 (fun e=>absurd (V.str.inj e) (nz .down)) (fun n0=>?_)⟩
       refine⟨_,rfl,rfl,_,rfl,Y3 (fun e=>absurd (V.str.inj e) (nz .up)) (fun n1=>?_)⟩
       refine⟨_,rfl,rfl,_,rfl,Y3 (fun e=>absurd (V.str.inj e) (nz .floor)) (fun n2=>?_)⟩
       refine⟨_,rfl,rfl,_,rfl,Y3 (fun e=>absurd (V.str.inj e) (nz .ceiling)) (fun n3=>?_)⟩
       refine⟨_,rfl,rfl,_,rfl,Y3 (fun e=>absurd (V.str.inj e) (nz .halfUp)) (fun n4=>?_)⟩
       refine⟨_,rfl,rfl,_,rfl,Y3 (fun e=>absurd (V.str.inj e) (nz .halfDown)) (fun n5=>?_)⟩
       refine⟨_,rfl,rfl,_,rfl,Y3 (fun e=>absurd (V.str.inj e) (nz .halfEven)) (fun n6=>?_)⟩
       refine⟨_,rfl,rfl,_,rfl,Y3 (fun e=>absurd (V.str.inj e) (nz .fiveUp)) (fun n7=>?_)⟩
       exact⟨z1,k⟩
end
noncomputable def sigS:List Str:=["void","split","burst","sunk","faint","off","cut"]
noncomputable def B5t:List V:=sigS.map V.str
structure SigK(K:Frag)(mg:Str ->Option Value)(aS:Addr):Prop where
 g:mg "SIGNALS"=some (.ref aS)
 ty:∃o,K.lookup aS=some o/\o.cls= .type "tuple"
 sq:∀H,SqT K H aS B5t
noncomputable abbrev A8a:Stmt:=(top 47)
section
variable{P:Program}{w:World}{K:Frag}{mg:Str ->Option Value}{base:Heap}
noncomputable def Z8f (K:Frag) (H:Hp) (x:V):Prop:=∃t b,TyE K H x t/\kitOne K t (.type "str")=some b/\(b=false\/∃z,x= .str z/\z ∉ sigS)
noncomputable def G5w (K:Frag) (H:Hp) (v:V):Prop:=(∃t,TyE K H v t/\kitOne K t (.type "list")=some false)\/(∃(p:Addr) (zs:List Str) (x:V) (r:List V),v= .ref p/\H p=some (.lst (zs.map V.str++x::r))/\(∀z∈zs,z∈sigS)/\Z8f K H x)
noncomputable def D1g (K:Frag) (CB:Addr):Sp:=fun vs H Q E=>∃v,vs=[v]/\((∃(p:Addr) (zs:List Str),v= .ref p/\H p=some (.lst (zs.map V.str))/\(∀z∈zs,z∈sigS)/\Q .non H)\/(G5w K H v/\E (.ref CB) none H))
theorem scNeedS:FnScope ["names","name"] ["names"] (A1 A8a):=scK
theorem U6k{f CB aS:Addr}(D:Def K mg "need_signals" ["names"] A8a f fd)(O:Own mg)(T:Kit K)(B:Err K mg "BadContext" CB)(SG:SigK K mg aS):FnOk P w K mg base (CX1 P w) 1 f fd ["names"] (D1g K CB):=by
 refine D.F.okE scNeedS (fun vs H Q E h=>?_) (fun X cdv A outer s H vs Q E hX hr hx h=>?_)
 . obtain⟨v,rfl,_⟩:=h
   rfl
 . subst hX
   obtain⟨v,rfl,h⟩:=h
   refine⟨_,(A7 (J9 (A2y (Y0 (D0n O.isi (pv 0) (pty O.list_ boot_list)))) (B3 (A2q (by rfl) B.g B.q PySem.F.excBase_ValueError hr.hd hx (A0 C5 A8))) D4)
     (B3 (G5t PassesOwn.leaving rfl (B9x (pv 0)) (V6 (i:=1) scNeedS.nd rfl (Or.inl rfl)) (B3 (J9 (PW.pt (G1h (A2y (Y0 (D0n O.isi (pv 1) (pty O.str_ boot_str)))) (C1d (D0 D1a (pv 1) (Y3g SG.g) (by rfl))))) (B3 (A2q (by rfl) B.g B.q PySem.F.excBase_ValueError hr.hd hx (A0 C5 A8))) D4))))),?_⟩
   have z1:1<=sizeLine:=C9 (by decide)
   rcases h with⟨p,zs,rfl,hp,hz,k⟩|⟨(⟨t,ty,kk⟩|⟨p,zs,x,r,rfl,hp,hz,t,b,ty,kk,bad⟩),k⟩
   . refine⟨_,rfl,_,_,_,_,true,rfl,rfl,Y6s hp,T.list_list,_,rfl,U1 ?_⟩
     refine⟨_,rfl,p,rfl,⟨_,SqL.of hp⟩,C1q (xs:=zs.map V.str) (fun i σ H'=>H'=H/\∃v,σ=[some (.ref p),v]) ⟨rfl,none,rfl⟩ ?_ ?_ ?_⟩
     . rintro i σ H' _ ⟨rfl,_⟩
       exact SqL.of hp
     . rintro i x σ H' hi ⟨rfl,v,rfl⟩
       obtain⟨z,hzm,rfl⟩:=List.mem_map.mp (List.mem_of_getElem? hi)
       refine⟨_,rfl,_,_,_,_,true,rfl,rfl,G0g _,T.str_str,_,rfl,U1 ?_⟩
       refine⟨_,rfl,aS,B5t,rfl,.inr (SG.sq _),rfl,flat_strs _,_,rfl,?_⟩
       have e:inV (.str z) B5t=true:=by
         show inV (.str z) (sigS.map V.str)=true
         rw[A1a]
         simpa using hz z hzm
       rw[e]
       exact U1 ⟨rfl,_,rfl⟩
     . rintro σ H' ⟨rfl,v,rfl⟩
       exact k
   . exact⟨_,rfl,_,_,_,_,false,rfl,rfl,ty,kk,_,rfl,Y6 ⟨z1,k⟩⟩
   . refine ⟨_,rfl,_,_,_,_,true,rfl,rfl,Y6s hp,T.list_list,_,rfl,U1 ?_⟩
     refine⟨_,rfl,p,rfl,⟨_,SqL.of hp⟩,C1q (xs:=zs.map V.str++x::r) (fun i σ H'=>H'=H/\i<=zs.length/\∃v,σ=[some (.ref p),v]) ⟨rfl,Nat.zero_le _,none,rfl⟩ ?_ ?_ ?_⟩
     . rintro i σ H' _ ⟨rfl,_⟩
       exact SqL.of hp
     . rintro i y σ H' hi ⟨rfl,hl,v,rfl⟩
       by_cases hlt:i<zs.length
       . rw[List.getElem?_append_left (by simpa using hlt)] at hi
         obtain⟨z,hzm,rfl⟩:=List.mem_map.mp (List.mem_of_getElem? hi)
         refine⟨_,rfl,_,_,_,_,true,rfl,rfl,G0g _,T.str_str,_,rfl,U1 ?_⟩
         refine⟨_,rfl,aS,B5t,rfl,.inr (SG.sq _),rfl,flat_strs _,_,rfl,?_⟩
         have e:inV (.str z) B5t=true:=by
           show inV (.str z) (sigS.map V.str)=true
           rw[A1a]
           simpa using hz z hzm
         rw[e]
         exact U1 ⟨rfl,by omega,_,rfl⟩
       . have e:i=zs.length:=by omega
         subst e
         rw[List.getElem?_append_right (by simp)] at hi
         simp at hi
         subst hi
         refine⟨_,rfl,_,_,_,_,b,rfl,rfl,ty,kk,_,rfl,?_⟩
         cases b with
         |false=>exact Y6 (Y6 ⟨z1,k⟩)
         | true=>
           obtain⟨z,rfl,nz⟩:=bad.resolve_left (by decide)
           refine U1 ⟨_,rfl,aS,B5t,rfl,.inr (SG.sq _),rfl,flat_strs _,_,rfl,?_⟩
           have e:inV (.str z) B5t=false:=by
             show inV (.str z) (sigS.map V.str)=false
             rw[A1a]
             simpa using nz
           rw[e]
           exact Y6 ⟨z1,k⟩
     . rintro σ H' ⟨rfl,hl,_⟩
       exfalso
       rw[List.length_append,List.length_map,List.length_cons] at hl
       omega
end
noncomputable abbrev A7x:Stmt:=(top 48)
section
variable{P:Program}{w:World}{K:Frag}{mg:Str ->Option Value}{base:Heap}
noncomputable def V9 (zs:List Str):List Str:=sigS.filter fun z=>zs.contains z
noncomputable def D1q (K:Frag):Sp:=fun vs H Q _=>∃(p:Addr) (zs:List Str),vs=[.ref p]/\SqL K H p (zs.map V.str)/\∀l H',Same H H' ->H l=none ->H' l=some (.lst ((V9 zs).map V.str)) ->Q (.ref l) H'
theorem Y0g:FnScope ["names"] ["names"] (A1 A7x):=scK
theorem U6p{f aS:Addr}(D:Def K mg "in_order" ["names"] A7x f fd)(SG:SigK K mg aS):FnOk P w K mg base (CX1 P w) 1 f fd ["names"] (D1q K):=by
 refine FnOk.up (D.F.ok Y0g (fun vs H Q E h=>?_) (fun cdv A outer s H vs Q E hr h=>?_))
 . obtain⟨p,zs,rfl,_⟩:=h
   rfl
 . obtain⟨p,zs,rfl,hp,k⟩:=h
   refine⟨_,(B3 (C4 (C0q (N:=["name"]) (F:=["names"]) (js:=[0]) (CompScopeF.of1 ⟨rfl,by decide+kernel,by decide+kernel,by decide+kernel,by decide+kernel⟩ (by rfl) (by rfl) ⟨_,by rfl⟩ (by rfl) (by rfl)) (.inl hr.hd) rfl (U5q (Y3g SG.g)) rfl (fun C s₀ H₀ ex pn h=>V6 (i:=0) (by decide+kernel:(["name","names"]:List Str).Nodup) rfl (Or.inl rfl)) (fun C s₀ H₀ ex pn h=>(D0 (A4w (K:=K) rfl) (pv 0) (pv 1) (by rfl))) (fun C s₀ H₀ ex pn h=>(pv 0))))),?_⟩
   refine U7s (zs:=sigS) (f:=fun z=>zs.contains z) (σf:=[some (.ref p)]) SG.sq (by decide) (fun z H' Qb sm q=>?_) (fun z H' Qv q=>⟨_,rfl,q⟩) (fun D H' sm nd e=>k D H' sm nd e) rfl
   refine⟨_,rfl,_,rfl,p,_,rfl,.inl (sm.seq hp),rfl,flat_strs _,_,rfl,?_⟩
   show Qb (inV (.str z) (zs.map V.str)) H'
   rw[A1a]
   exact q
end
structure CtxC(K:Frag)(mg:Str ->Option Value)(CC:Addr):Prop where
 g:mg "Context"=some (.ref CC)
 cl:Cls K CC
 n_room:NoAttr K CC "room"
 n_rule:NoAttr K CC "rule"
 n_least:NoAttr K CC "least"
 n_most:NoAttr K CC "most"
 n_risen:NoAttr K CC "risen"
 n_trapped:NoAttr K CC "trapped"
noncomputable def A0u (r s l m a b:V):List (Str×V):=V4 "trapped" b (V4 "risen" a (V4 "most" m (V4 "least" l (V4 "rule" s (V4 "room" r [])))))
theorem A0r(r s l m a b:V)(n:Str):(A0u r s l m a b).lookup n=if n="trapped" then some b else if n="risen" then some a else if n="most" then some m else if n="least" then some l else if n="rule" then some s else if n="room" then some r else none:=by
 unfold A0u
 rw[D6,D6,D6,D6,D6,D6]
 rfl
theorem A8m(r s l m a b:V):(A0u r s l m a b).lookup ("room":Str)=some r:=by rw[A0r,if_neg (by decide+kernel),if_neg (by decide+kernel),if_neg (by decide+kernel),if_neg (by decide+kernel),if_neg (by decide+kernel),if_pos rfl]
theorem U5t(r s l m a b:V):(A0u r s l m a b).lookup ("rule":Str)=some s:=by rw[A0r,if_neg (by decide+kernel),if_neg (by decide+kernel),if_neg (by decide+kernel),if_neg (by decide+kernel),if_pos rfl]
theorem C9n(r s l m a b:V):(A0u r s l m a b).lookup ("least":Str)=some l:=by rw[A0r,if_neg (by decide+kernel),if_neg (by decide+kernel),if_neg (by decide+kernel),if_pos rfl]
theorem G1e(r s l m a b:V):(A0u r s l m a b).lookup ("most":Str)=some m:=by rw[A0r,if_neg (by decide+kernel),if_neg (by decide+kernel),if_pos rfl]
theorem C9q(r s l m a b:V):(A0u r s l m a b).lookup ("risen":Str)=some a:=by rw[A0r,if_neg (by decide+kernel),if_pos rfl]
theorem B9b(r s l m a b:V):(A0u r s l m a b).lookup ("trapped":Str)=some b:=by rw[A0r,if_pos rfl]
theorem C1f(r s l m a b:V):(A0u r s l m a b).lookup ("way":Str)=none:=by rw[A0r,if_neg (by decide+kernel),if_neg (by decide+kernel),if_neg (by decide+kernel),if_neg (by decide+kernel),if_neg (by decide+kernel),if_neg (by decide+kernel)]
theorem C5d(r s l m a b:V):(A0u r s l m a b).lookup ("lowest":Str)=none:=by rw[A0r,if_neg (by decide+kernel),if_neg (by decide+kernel),if_neg (by decide+kernel),if_neg (by decide+kernel),if_neg (by decide+kernel),if_neg (by decide+kernel)]
theorem D0p(r s l m a b:V):(A0u r s l m a b).lookup ("flags":Str)=none:=by rw[A0r,if_neg (by decide+kernel),if_neg (by decide+kernel),if_neg (by decide+kernel),if_neg (by decide+kernel),if_neg (by decide+kernel),if_neg (by decide+kernel)]
theorem D1r(r s l m a b:V):(A0u r s l m a b).lookup ("clear":Str)=none:=by rw[A0r,if_neg (by decide+kernel),if_neg (by decide+kernel),if_neg (by decide+kernel),if_neg (by decide+kernel),if_neg (by decide+kernel),if_neg (by decide+kernel)]
theorem G1v(r s l m a b:V):(A0u r s l m a b).lookup ("trap":Str)=none:=by rw[A0r,if_neg (by decide+kernel),if_neg (by decide+kernel),if_neg (by decide+kernel),if_neg (by decide+kernel),if_neg (by decide+kernel),if_neg (by decide+kernel)]
theorem D1b(r s l m a b:V):(A0u r s l m a b).lookup ("traps":Str)=none:=by rw[A0r,if_neg (by decide+kernel),if_neg (by decide+kernel),if_neg (by decide+kernel),if_neg (by decide+kernel),if_neg (by decide+kernel),if_neg (by decide+kernel)]
theorem B2d(r s l m a b:V):(A0u r s l m a b).lookup ("raised":Str)=none:=by rw[A0r,if_neg (by decide+kernel),if_neg (by decide+kernel),if_neg (by decide+kernel),if_neg (by decide+kernel),if_neg (by decide+kernel),if_neg (by decide+kernel)]
structure CtxAt(CC:Addr)(H:Hp)(c:Addr)(r:Int)(y:Wy)(l m:Int)(a b:Addr)(xs ys:List V):Prop where
 ins:∃dx,H c=some (.ins CC dx (A0u (.int r) (.str y.name) (.int l) (.int m) (.ref a) (.ref b)))
 ha:H a=some (.lst xs)
 hb:H b=some (.lst ys)
theorem CtxAt.same{CC:Addr}{H H':Hp}{c:Addr}{r:Int}{y:Wy}{l m:Int}{a b:Addr}{xs ys:List V}(h:CtxAt CC H c r y l m a b xs ys)(e:Same H H'):CtxAt CC H' c r y l m a b xs ys:=by
 obtain⟨⟨dx,z⟩,z1,z2⟩:=h
 exact⟨⟨dx,e _ _ z⟩,e _ _ z1,e _ _ z2⟩
section
variable{P:Program}{w:World}{K:Frag}{mg:Str ->Option Value}{base:Heap}
noncomputable abbrev A0c:Stmt:=(D8 (top 45) 0)
noncomputable abbrev B1m:Stmt:=(D8 (top 45) 1)
noncomputable abbrev B1j:Stmt:=(D8 (top 45) 2)
noncomputable abbrev A2k:Stmt:=(D8 (top 45) 3)
noncomputable abbrev A2j:Stmt:=(D8 (top 45) 6)
noncomputable def G5j (l:Int) (v:V):Prop:=(v= .non/\l= -60)\/(v= .int l/\ -60<=l/\l<=0)
noncomputable def Y9u (K:Frag) (S:Hp ->Prop) (v1 v2 v3 v4:V):Prop:=(∀H',S H' ->G5x K H' 1 24 v1)\/(G0q 1 24 v1/\((∀H',S H' ->Y6v K H' v2)\/((∃y:Wy,v2= .str y.name)/\((v3≠ .non/\∀H',S H' ->G5x K H' (-60) 0 v3)\/((∃l,G5j l v3)/\∀H',S H' ->G5x K H' 0 60 v4)))))
theorem Exc.none{p a:Addr}{H H':Hp}{o:HO}(x:Exc p H H')(hp:H' p=some o)(n:H' a=none):H a=none:=by
 cases q:H a with
 |none=>rfl
 | some u=>
   have:=x a u q (fun e=>by rw[e,hp] at n;cases n)
   rw[n] at this
   cases this
noncomputable def B5u (K:Frag) (CC CB:Addr):Sp:=fun vs H Q E=>∃p dx v1 v2 v3 v4,vs=[.ref p,v1,v2,v3,v4]/\H p=some (.ins CC dx [])/\
 ((∃r y l m,v1= .int r/\1<=r/\r<=24/\v2= .str (Wy.name y)/\G5j l v3/\v4= .int m/\0<=m/\m<=60/\∀a b H',Exc p H H' ->H a=none ->H b=none ->CtxAt CC H' p r y l m a b [] [] ->Q .non H')\/
  (Y9u K (Exc p H) v1 v2 v3 v4/\∀H',Exc p H H' ->E (.ref CB) none H'))
theorem J8z:FnScope ["self","room","way","least","most"] ["self","room","way","least","most"] (A1 A0c):=scK
theorem U7c:C5h 1 24:=by unfold C5h;decide+kernel
theorem G6x:C5h (-60) 0:=by unfold C5h;decide+kernel
theorem U4s:C5h 0 60:=by unfold C5h;decide+kernel
theorem G7a{f fB fW CC CB CW:Addr}{dV:Value}{cw:Wy ->Addr}{fd fdB fdW:FuncData}(F:FunD K "__init__" "Context.__init__" A0c dV f fd)(dA:Def K mg "bounded" ["thing","least","most"] A2n fB fdB)(dC:Def K mg "way_of" ["name"] A8k fW fdW)
   (dB:FnOk P w K mg base (CX1 P w) 2 fB fdB ["thing","least","most"] (C9e K CB)) (dD:FnOk P w K mg base (CX1 P w) 1 fW fdW ["name"] (D0q K CB cw)) (C:CtxC K mg CC)
   (W:∀y:Wy,WayC K mg y.cls (cw y) CW) (N:∀y:Wy,Z4x P w K mg base (cw y) y.name):FnOk P w K mg base (CX1 P w) 3 f fd ["self","room","way","least","most"] (B5u K CC CB):=by
 refine F.okE J8z (fun vs H Q E h=>?_) (fun X cdv A outer s H vs Q E hX hr hx h=>?_)
 . obtain⟨p,dx,v1,v2,v3,v4,rfl,_⟩:=h
   rfl
 . subst hX
   obtain⟨p,dx,v1,v2,v3,v4,rfl,hp,h⟩:=h
   obtain⟨y,hy⟩:∃y:Wy,∀z:Wy,v2= .str z.name ->z=y:=by
     by_cases q:∃z:Wy,v2= .str z.name
     . obtain⟨z,rfl⟩:=q
       exact⟨z,fun u e=>Wy.inj (V.str.inj e.symm)⟩
     . exact⟨.down,fun z e=>absurd ⟨z,e⟩ q⟩
   obtain⟨fN,fdN,mN,gN,bN⟩:=N y
   refine⟨_,(A7 (Z5 (pv 0) (G0 dA dB hr hx (A0 (pv 1) (A0 A3 (A0 A3 A8)))) rfl)
     (A7 (Z5 (pv 0) (A4z (G0 dC dD hr hx (A0 (pv 2) A8)) (W y).cl mN gN hr bN .nil hx) rfl)
     (A7 (C7 (Z5 (pv 0) (A2s (D0 Y8j (pv 3) Y8n (C8 _)) (G0r C0k A3) (G0 dA dB hr hx (A0 (pv 3) (A0 (G0r C0k A3) (A0 A3 A8))))) rfl))
     (A7 (Z5 (pv 0) (G0 dA dB hr hx (A0 (pv 4) (A0 A3 (A0 A3 A8)))) rfl)
     (A7 (Z5 (pv 0) (U4 A8) rfl)
     (B3 (Z5 (pv 0) (U4 A8) rfl))))))),?_⟩
   have lz:∀(fs:List (Str×V)) (f:Str) (v:V) (n:Nat),fs.length<=n ->(V4 f v fs).length<=n+1:=fun fs f v n h=>Nat.le_trans (A1g f v fs) (Nat.succ_le_succ h)
   have q0:(([]:List (Str×V))).length<=0:=Nat.le_refl _
   have z0:0<=sizeLine:=Nat.zero_le _
   rcases h with⟨r,y',l,m,rfl,r1,r2,rfl,hl,rfl,m1,m2,k⟩|⟨bad,k⟩
   . obtain rfl:=hy _ rfl
     refine⟨_,rfl,_,_,_,rfl,U7c,.inl ⟨⟨r,rfl,r1,r2⟩,?_⟩⟩
     refine⟨_,rfl,p,CC,dx,[],rfl,hp,C.cl,C.n_room,by show 0<1000;decide,?_⟩
     refine⟨_,rfl,_,rfl,.inl ⟨_,rfl,fun q dq H2 nq s2 eq=>⟨q,dq,[],rfl,eq,rfl,_,rfl,?_⟩⟩⟩
     have hp2:=s2 _ _ (A6 (H:=H) (a:=p) (o:= .ins CC dx (V4 "room" (.int r) [])))
     have x2:Exc p H H2:=(Exc.upd (H:=H) (o:= .ins CC dx (V4 "room" (.int r) []))).trans (.of s2)
     refine⟨_,rfl,p,CC,dx,_,rfl,hp2,C.cl,C.n_rule,Nat.lt_of_le_of_lt (lz _ _ _ 0 q0) (by decide),?_⟩
     refine⟨fun σ' H'=>σ'=[some (.ref p),some (.int r),some (.str y'.name),some v3,some (.int m)]/\Exc p H H'/\H' p=some (.ins CC dx (V4 "least" (.int l) (V4 "rule" (.str y'.name) (V4 "room" (.int r) [])))),?_,?_⟩
     . refine⟨_,rfl,rfl,_,rfl,?_⟩
       rcases hl with⟨rfl,rfl⟩|⟨rfl,l1,l2⟩
       . refine A1w rfl ⟨_,rfl,?_⟩
         exact⟨_,rfl,p,CC,dx,_,rfl,A6,C.cl,C.n_least,Nat.lt_of_le_of_lt (lz _ _ _ 1 (lz _ _ _ 0 q0)) (by decide),rfl,(x2.trans Exc.upd).trans Exc.upd,A6⟩
       . refine V3 (by intro z;cases z) ⟨_,rfl,_,rfl,_,_,_,rfl,G6x,.inl ⟨⟨l,rfl,l1,l2⟩,?_⟩⟩
         exact⟨_,rfl,p,CC,dx,_,rfl,A6,C.cl,C.n_least,Nat.lt_of_le_of_lt (lz _ _ _ 1 (lz _ _ _ 0 q0)) (by decide),rfl,(x2.trans Exc.upd).trans Exc.upd,A6⟩
     rintro σ' H4 ⟨rfl,x4,hp4⟩
     refine⟨_,rfl,_,_,_,rfl,U4s,.inl ⟨⟨m,rfl,m1,m2⟩,?_⟩⟩
     refine⟨_,rfl,p,CC,dx,_,rfl,hp4,C.cl,C.n_most,Nat.lt_of_le_of_lt (lz _ _ _ 2 (lz _ _ _ 1 (lz _ _ _ 0 q0))) (by decide),?_⟩
     refine⟨z0,fun a na=>?_⟩
     refine⟨_,rfl,p,CC,dx,_,rfl,Same.upd na _ _ A6,C.cl,C.n_risen,Nat.lt_of_le_of_lt (lz _ _ _ 3 (lz _ _ _ 2 (lz _ _ _ 1 (lz _ _ _ 0 q0)))) (by decide),?_⟩
     refine⟨z0,fun b nb=>?_⟩
     refine⟨_,rfl,p,CC,dx,_,rfl,Same.upd nb _ _ A6,C.cl,C.n_trapped,Nat.lt_of_le_of_lt (lz _ _ _ 4 (lz _ _ _ 3 (lz _ _ _ 2 (lz _ _ _ 1 (lz _ _ _ 0 q0))))) (by decide),?_⟩
     have x5:=x4.trans (Exc.upd (H:=H4) (o:= .ins CC dx (V4 "most" (.int m) (V4 "least" (.int l) (V4 "rule" (.str y'.name) (V4 "room" (.int r) []))))))
     have nap:a≠p:=fun e=>by rw[e,A6] at na;cases na
     have nbp:b≠p:=fun e=>by rw[e,A6] at nb;cases nb
     have x6:=(x5.trans (.of (Same.upd (o:= .lst []) na))).trans (Exc.upd (o:= .ins CC dx (V4 "risen" (.ref a) (V4 "most" (.int m) (V4 "least" (.int l) (V4 "rule" (.str y'.name) (V4 "room" (.int r) [])))))))
     have x7:=(x6.trans (.of (Same.upd (o:= .lst []) nb))).trans (Exc.upd (o:= .ins CC dx (A0u (.int r) (.str y'.name) (.int l) (.int m) (.ref a) (.ref b))))
     refine k a b _ x7 (x5.none A6 na) (x6.none A6 nb) ⟨⟨dx,A6⟩,?_,?_⟩
     . rw[C6 nap]
       refine Same.upd nb _ _ ?_
       rw[C6 nap]
       exact A6
     . rw[C6 nbp]
       exact A6
   . rcases bad with b1|⟨⟨r,rfl,r1,r2⟩,bad⟩
     . exact⟨_,rfl,_,_,_,rfl,U7c,.inr ⟨b1 _ (Exc.refl p H),k _ (Exc.refl p H)⟩⟩
     refine⟨_,rfl,_,_,_,rfl,U7c,.inl ⟨⟨r,rfl,r1,r2⟩,?_⟩⟩
     refine⟨_,rfl,p,CC,dx,[],rfl,hp,C.cl,C.n_room,by show 0<1000;decide,?_⟩
     have x1:Exc p H (upd H p (.ins CC dx (V4 "room" (.int r) []))):=Exc.upd
     rcases bad with b2|⟨⟨y',rfl⟩,bad⟩
     . exact⟨_,rfl,_,rfl,.inr ⟨b2 _ x1,k _ x1⟩⟩
     obtain rfl:=hy _ rfl
     refine⟨_,rfl,_,rfl,.inl ⟨_,rfl,fun q dq H2 nq s2 eq=>⟨q,dq,[],rfl,eq,rfl,_,rfl,?_⟩⟩⟩
     have hp2:=s2 _ _ (A6 (H:=H) (a:=p) (o:= .ins CC dx (V4 "room" (.int r) [])))
     have x2:Exc p H H2:=x1.trans (.of s2)
     refine⟨_,rfl,p,CC,dx,_,rfl,hp2,C.cl,C.n_rule,Nat.lt_of_le_of_lt (lz _ _ _ 0 q0) (by decide),?_⟩
     rcases bad with⟨n3,b3⟩|⟨⟨l,hl⟩,b4⟩
     . refine⟨fun _ _=>False,?_,fun _ _ z=>z.elim⟩
       refine⟨_,rfl,rfl,_,rfl,V3 n3 ?_⟩
       exact⟨_,rfl,_,rfl,_,_,_,rfl,G6x,.inr ⟨b3 _ (x2.trans Exc.upd),k _ (x2.trans Exc.upd)⟩⟩
     refine⟨fun σ' H'=>σ'=[some (.ref p),some (.int r),some (.str y'.name),some v3,some v4]/\Exc p H H',?_,?_⟩
     . refine⟨_,rfl,rfl,_,rfl,?_⟩
       rcases hl with⟨rfl,rfl⟩|⟨rfl,l1,l2⟩
       . refine A1w rfl ⟨_,rfl,?_⟩
         exact⟨_,rfl,p,CC,dx,_,rfl,A6,C.cl,C.n_least,Nat.lt_of_le_of_lt (lz _ _ _ 1 (lz _ _ _ 0 q0)) (by decide),rfl,(x2.trans Exc.upd).trans Exc.upd⟩
       . refine V3 (by intro z;cases z) ⟨_,rfl,_,rfl,_,_,_,rfl,G6x,.inl ⟨⟨l,rfl,l1,l2⟩,?_⟩⟩
         exact⟨_,rfl,p,CC,dx,_,rfl,A6,C.cl,C.n_least,Nat.lt_of_le_of_lt (lz _ _ _ 1 (lz _ _ _ 0 q0)) (by decide),rfl,(x2.trans Exc.upd).trans Exc.upd⟩
     rintro σ' H4 ⟨rfl,x4⟩
     exact⟨_,rfl,_,_,_,rfl,U4s,.inr ⟨b4 _ x4,k _ x4⟩⟩
end
section
variable{P:Program}{w:World}{K:Frag}{mg:Str ->Option Value}{base:Heap}
noncomputable def C0b (CC:Addr) (cw:Wy ->Addr):Sp:=fun vs H Q _=>∃c r y l m a b xs ys,vs=[.ref c]/\CtxAt CC H c r y l m a b xs ys/\∀p dx H',H p=none ->Same H H' ->H' p=some (.ins (cw y) dx []) ->Q (.ref p) H'
theorem U4n:FnScope ["self"] ["self"] (A1 B1m):=scK
theorem U0c{f fW CC CB:Addr}{cw:Wy ->Addr}{fd fdW:FuncData}(F:Fun K "way" "Context.way" B1m f fd)(dA:Def K mg "way_of" ["name"] A8k fW fdW)(dB:FnOk P w K mg base (CX1 P w) 1 fW fdW ["name"] (D0q K CB cw))(C:CtxC K mg CC):
   FnOk P w K mg base (CX1 P w) 2 f fd ["self"] (C0b CC cw):=by
 refine F.okE U4n (fun vs H Q E h=>?_) (fun X cdv A outer s H vs Q E hX hr hx h=>?_)
 . obtain⟨c,r,y,l,m,a,b,xs,ys,rfl,_⟩:=h
   rfl
 . subst hX
   obtain⟨c,r,y,l,m,a,b,xs,ys,rfl,⟨⟨dx,e⟩,_,_⟩,k⟩:=h
   refine⟨_,(B3 (C4 (G0 dA dB hr hx (A0 (U7 (pv 0) rfl) A8)))),?_⟩
   exact⟨_,rfl,c,CC,dx,_,_,rfl,e,C.cl,C.n_rule,U5t _ _ _ _ _ _,_,rfl,.inl ⟨y,rfl,k⟩⟩
noncomputable def C0a (CC:Addr):Sp:=fun vs H Q _=>∃c r y l m a b xs ys,vs=[.ref c]/\CtxAt CC H c r y l m a b xs ys/\Q (.int (l-r+1)) H
theorem U4r:FnScope ["self"] ["self"] (A1 B1j):=scK
theorem J9a{f CC:Addr}(F:Fun K "lowest" "Context.lowest" B1j f fd)(C:CtxC K mg CC):FnOk P w K mg base (CX1 P w) 1 f fd ["self"] (C0a CC):=by
 refine FnOk.up (F.ok U4r (fun vs H Q E h=>?_) (fun cdv A outer s H vs Q E hr h=>?_))
 . obtain⟨c,r,y,l,m,a,b,xs,ys,rfl,_⟩:=h
   rfl
 . obtain⟨c,r,y,l,m,a,b,xs,ys,rfl,⟨⟨dx,e⟩,_,_⟩,k⟩:=h
   refine⟨_,(B3 (C4 (B7 G8 (B7 U2 (U7 (pv 0) rfl) (U7 (pv 0) rfl)) A3))),?_⟩
   exact⟨_,rfl,c,CC,dx,_,_,rfl,e,C.cl,C.n_least,C9n _ _ _ _ _ _,_,rfl,c,CC,dx,_,_,rfl,e,C.cl,C.n_room,A8m _ _ _ _ _ _,_,_,rfl,rfl,_,_,rfl,rfl,k⟩
noncomputable def B3a (CC:Addr):Sp:=fun vs H Q _=>∃c r y l m a b xs ys,vs=[.ref c]/\CtxAt CC H c r y l m a b xs ys/\∀p,H p=none ->Q (.ref p) (upd H p (.lst xs))
theorem G7h:FnScope ["self"] ["self"] (A1 A2k):=scK
theorem D9w{f CC:Addr}(F:Fun K "flags" "Context.flags" A2k f fd)(C:CtxC K mg CC)(O:Own mg):FnOk P w K mg base (CX1 P w) 1 f fd ["self"] (B3a CC):=by
 refine FnOk.up (F.ok G7h (fun vs H Q E h=>?_) (fun cdv A outer s H vs Q E hr h=>?_))
 . obtain⟨c,r,y,l,m,a,b,xs,ys,rfl,_⟩:=h
   rfl
 . obtain⟨c,r,y,l,m,a,b,xs,ys,rfl,⟨⟨dx,e⟩,ha,_⟩,k⟩:=h
   refine⟨_,(B3 (C4 (J0 A4x (by rfl) O.list_ boot_list (A0 (U7 (pv 0) rfl) A8)))),?_⟩
   exact⟨_,rfl,c,CC,dx,_,_,rfl,e,C.cl,C.n_risen,C9q _ _ _ _ _ _,a,xs,rfl,.inl (SqL.of ha),k⟩
structure MakeC(P:Program)(w:World)(K:Frag)(mg:Str ->Option Value)(base:Heap)(CC CB fI:Addr)(fdI:FuncData):Prop where
 m:Mk K CC fI
 g:FnOk P w K mg base (CX1 P w) 3 fI fdI ["self","room","way","least","most"] (B5u K CC CB)
theorem Y1f{C x dx:Addr}{H H':Hp}(n1:H x=none)(n2:H dx=none)(ne:dx≠x)(e:Exc x (upd (upd H dx (.own x)) x (.ins C dx [])) H'):Same H H':=fun b o h=>
 e b o (by rw[C6 (D5 h n1),C6 (D5 h n2)];exact h) (D5 h n1)
theorem Z3u{CC CB x dx:Addr}{H:Hp}{Q:VK}{E:XK}{v1 v2 v3 v4:V}{r:Int}{y:Wy}{l m:Int}(n1:H x=none)(n2:H dx=none)(ne:dx≠x)(h1:v1= .int r)(r1:1<=r)(r2:r<=24)(h2:v2= .str y.name)(h3:G5j l v3)(h4:v4= .int m)(m1:0<=m)(m2:m<=60)
   (k:∀a b H',Same H H' ->CtxAt CC H' x r y l m a b [] [] ->Q .non H'):B5u K CC CB [.ref x,v1,v2,v3,v4] (upd (upd H dx (.own x)) x (.ins CC dx [])) Q E:=
 ⟨x,dx,v1,v2,v3,v4,rfl,A6,.inl ⟨r,y,l,m,h1,r1,r2,h2,h3,h4,m1,m2,fun a b H' e _ _ c=>k a b H' (Y1f n1 n2 ne e) c⟩⟩
end
noncomputable abbrev A4h:Stmt:=(D8 (top 45) 5)
noncomputable abbrev A0t:Stmt:=(D8 (top 45) 7)
theorem C0e(r s l m a b:V):(A0u r s l m a b).length=6:=rfl
theorem D1c(r s l m a b v:V):V4 "trapped" v (A0u r s l m a b)=A0u r s l m a v:=rfl
theorem C0n(r s l m a b v:V):V4 "risen" v (A0u r s l m a b)=A0u r s l m v b:=rfl
section
variable{P:Program}{w:World}{K:Frag}{mg:Str ->Option Value}{base:Heap}
noncomputable def G7g (K:Frag) (CC CB:Addr):Sp:=fun vs H Q E=>∃c r y l m a b xs ys v,vs=[.ref c,v]/\CtxAt CC H c r y l m a b xs ys/\
 ((∃(p:Addr) (zs:List Str),v= .ref p/\H p=some (.lst (zs.map V.str))/\(∀z∈zs,z∈sigS)/\∀b' H',Exc c H H' ->H b'=none ->CtxAt CC H' c r y l m a b' xs ((V9 zs).map V.str) ->Q .non H')\/(G5w K H v/\E (.ref CB) none H))
theorem Y8t:FnScope ["self","names"] ["self","names"] (A1 A4h):=scK
theorem Y3h{f f1 f2 CC CB:Addr}(F:Fun K "trap" "Context.trap" A4h f fd)(dA:Def K mg "need_signals" ["names"] A8a f1 fd1)(dB:FnOk P w K mg base (CX1 P w) 1 f1 fd1 ["names"] (D1g K CB))
   (dC:Def K mg "in_order" ["names"] A7x f2 fd2) (dD:FnOk P w K mg base (CX1 P w) 1 f2 fd2 ["names"] (D1q K)) (C:CtxC K mg CC):FnOk P w K mg base (CX1 P w) 2 f fd ["self","names"] (G7g K CC CB):=by
 refine F.okE Y8t (fun vs H Q E h=>?_) (fun X cdv A outer s H vs Q E hX hr hx h=>?_)
 . obtain⟨c,r,y,l,m,a,b,xs,ys,v,rfl,_⟩:=h
   rfl
 . subst hX
   obtain⟨c,r,y,l,m,a,b,xs,ys,v,rfl,⟨⟨dx,e⟩,ha,hb⟩,h⟩:=h
   refine⟨_,(A7 (A1b (G0 dA dB hr hx (A0 (pv 1) A8)))
     (B3 (Z5 (pv 0) (G0 dC dD hr hx (A0 (pv 1) A8)) rfl))),?_⟩
   rcases h with⟨p,zs,rfl,hp,hz,k⟩|⟨bad,k⟩
   . refine⟨_,rfl,_,rfl,.inl ⟨p,zs,rfl,hp,hz,?_⟩⟩
     refine⟨_,rfl,p,zs,rfl,SqL.of hp,fun b' H1 s1 n1 e1=>?_⟩
     refine⟨_,rfl,c,CC,dx,_,rfl,s1 _ _ e,C.cl,C.n_trapped,by rw[C0e];decide,?_⟩
     rw[D1c]
     have nac:a≠c:=U6 ha e (by intro z;cases z)
     have nbc:b'≠c:=U6 e1 (s1 _ _ e) (by intro z;cases z)
     exact k b' _ ((Exc.of s1).trans Exc.upd) n1 ⟨⟨dx,A6⟩,by rw[C6 nac];exact s1 _ _ ha,by rw[C6 nbc];exact e1⟩
   . exact⟨_,rfl,_,rfl,.inr ⟨bad,k⟩⟩
noncomputable def hit (ys zs:List Str):Option Str:=ys.find? fun t=>zs.contains t
noncomputable def C1r (K:Frag) (CC CB CT:Addr):Sp:=fun vs H Q E=>∃c r y l m a b,∃(xs ys:List Str) (v:V),vs=[.ref c,v]/\CtxAt CC H c r y l m a b (xs.map V.str) (ys.map V.str)/\xs.length+100<=1000/\
 ((∃ (p:Addr) (zs:List Str),v= .ref p/\H p=some (.lst (zs.map V.str))/\zs.length<=100/\(∀z∈zs,z∈sigS)/\
     (hit ys zs=none ->∀a' H',Exc c H H' ->H a'=none ->CtxAt CC H' c r y l m a' b ((V9 (xs++zs)).map V.str) (ys.map V.str) ->Q .non H')/\
     (∀t,hit ys zs=some t ->∀a' d H',Exc c H H' ->H a'=none ->CtxAt CC H' c r y l m a' b ((V9 (xs++zs)).map V.str) (ys.map V.str) ->H d=none ->H' d=some (.xd [("signal",.str t)]) ->E (.ref CT) (some d) H'))\/
  (G5w K H v/\E (.ref CB) none H))
theorem scRaised:FnScope ["self","names","name"] ["self","names"] (A1 A0t):=scK
theorem J9j{f f1 f2 fX CC CB CT:Addr}{fd fd1 fd2 fdX:FuncData}(F:Fun K "raised" "Context.raised" A0t f fd)(dA:Def K mg "need_signals" ["names"] A8a f1 fd1)(dB:FnOk P w K mg base (CX1 P w) 1 f1 fd1 ["names"] (D1g K CB))
   (dC:Def K mg "in_order" ["names"] A7x f2 fd2) (dD:FnOk P w K mg base (CX1 P w) 1 f2 fd2 ["names"] (D1q K)) (C:CtxC K mg CC)
   (gT:mg "Trapped"=some (.ref CT)) (XI:ExcI K CT fX) (GX:FnOk P w K mg base CX0 1 fX fdX ["self","signal"] (D1h CT "signal")) (BX:Binds K fdX ["self","signal"] []):FnOk P w K mg base (CX1 P w) 3 f fd ["self","names"] (C1r K CC CB CT):=by
 refine F.okE scRaised (fun vs H Q E h=>?_) (fun X cdv A outer s H vs Q E hX hr hx h=>?_)
 . obtain⟨c,r,y,l,m,a,b,xs,ys,v,rfl,_⟩:=h
   rfl
 . subst hX
   obtain⟨c,r,y,l,m,a,b,xs,ys,v,rfl,⟨⟨dx,e⟩,ha,hb⟩,lx,h⟩:=h
   refine⟨_,(A7 (A1b (G0 dA dB hr hx (A0 (pv 1) A8)))
     (A7 (Z5 (pv 0) (G0 dC dD hr hx (A0 (B7 C0v (U7 (pv 0) rfl) (pv 1)) A8)) rfl)
     (B3 (G5t PassesOwn.leaving rfl (B9x (U7 (pv 0) rfl)) (V6 (i:=2) scRaised.nd rfl (Or.inl rfl)) (B3 (J9 (D0 A4g (pv 2) (pv 1) (by rfl)) (B3 (J9x gT XI GX BX hr hx (A0 (pv 2) A8))) D4)))))),?_⟩
   rcases h with⟨p,zs,rfl,hp,lz,hz,k1,k2⟩|⟨bad,k⟩
   . refine⟨_,rfl,_,rfl,.inl ⟨p,zs,rfl,hp,hz,?_⟩⟩
     refine⟨_,rfl,c,CC,dx,_,_,rfl,e,C.cl,C.n_risen,C9q _ _ _ _ _ _,_,rfl,a,p,_,_,rfl,rfl,ha,hp,C9 (by rw[List.length_map,List.length_map];omega),fun q nq=>?_⟩
     have u1:=Same.upd (o:= .lst (xs.map V.str++zs.map V.str)) nq
     refine⟨q,xs++zs,rfl,SqL.of (by rw[A6,List.map_append]),fun a' H1 s1 n1 e1=>?_⟩
     have s2:=u1.trans s1
     refine⟨_,rfl,c,CC,dx,_,rfl,s2 _ _ e,C.cl,C.n_risen,by rw[C0e];decide,?_⟩
     rw[C0n]
     have nbc:b≠c:=U6 hb e (by intro z;cases z)
     have npc:p≠c:=U6 hp e (by intro z;cases z)
     have nac:a'≠c:=U6 e1 (s2 _ _ e) (by intro z;cases z)
     have x2:Exc c H (upd H1 c (.ins CC dx (A0u (.int r) (.str y.name) (.int l) (.int m) (.ref a') (.ref b)))):=(Exc.of s2).trans Exc.upd
     have hb2:(upd H1 c (.ins CC dx (A0u (.int r) (.str y.name) (.int l) (.int m) (.ref a') (.ref b)))) b=some (.lst (ys.map V.str)):=by rw[C6 nbc];exact s2 _ _ hb
     have hp2:(upd H1 c (.ins CC dx (A0u (.int r) (.str y.name) (.int l) (.int m) (.ref a') (.ref b)))) p=some (.lst (zs.map V.str)):=by rw[C6 npc];exact s2 _ _ hp
     have ct:CtxAt CC (upd H1 c (.ins CC dx (A0u (.int r) (.str y.name) (.int l) (.int m) (.ref a') (.ref b)))) c r y l m a' b ((V9 (xs++zs)).map V.str) (ys.map V.str):=⟨⟨dx,A6⟩,by rw[C6 nac];exact e1,hb2⟩
     refine⟨_,rfl,c,CC,dx,_,_,rfl,A6,C.cl,C.n_trapped,B9b _ _ _ _ _ _,b,rfl,⟨_,SqL.of hb2⟩,?_⟩
     generalize upd H1 c (.ins CC dx (A0u (.int r) (.str y.name) (.int l) (.int m) (.ref a') (.ref b)))=H3 at x2 hb2 hp2 ct ⊢
     refine C1q (xs:=ys.map V.str) (fun i σ H'=>H'=H3/\(∀t∈ys.take i,zs.contains t=false)/\∃v,σ=[some (.ref c),some (.ref p),v]) ⟨rfl,by simp,none,rfl⟩ ?_ ?_ ?_
     . rintro i σ H' _ ⟨rfl,_⟩
       exact SqL.of hb2
     . rintro i x σ H' hi ⟨rfl,ht,v,rfl⟩
       rw[List.getElem?_map] at hi
       obtain⟨t,hti,rfl⟩:=Option.map_eq_some_iff.mp hi
       refine⟨_,rfl,_,rfl,p,_,rfl,.inl (SqL.of hp2),rfl,flat_strs _,_,rfl,?_⟩
       have hlt:i<ys.length:=(List.getElem?_eq_some_iff.mp hti).1
       have et:ys.take (i+1)=ys.take i++ [t]:=by
         rw[List.take_succ_eq_append_getElem hlt,(List.getElem?_eq_some_iff.mp hti).2]
       cases hc:zs.contains t with
       | false=>
         rw[show(if false=true then !inV (V.str t) (zs.map V.str) else inV (V.str t) (zs.map V.str))=false by rw[if_neg Bool.false_ne_true,A1a,hc]]
         refine U1 ⟨rfl,fun t' h'=>?_,_,rfl⟩
         rw[et] at h'
         rcases List.mem_append.mp h' with h'|h'
         . exact ht t' h'
         . rw[List.mem_singleton.mp h'];exact hc
       | true=>
         rw[show(if false=true then !inV (V.str t) (zs.map V.str) else inV (V.str t) (zs.map V.str))=true by rw[if_neg Bool.false_ne_true,A1a,hc]]
         obtain⟨dx',hc3⟩:=ct.ins
         refine Y6 ⟨_,rfl,_,rfl,fun d H4 s4 nd e4=>?_⟩
         refine k2 t ?_ a' d H4 (x2.trans (.of s4)) ((u1.free n1)) (ct.same s4) (x2.none hc3 nd) e4
         unfold hit
         rw[List.find?_eq_some_iff_append]
         refine⟨hc,ys.take i,ys.drop (i+1),?_,fun t' h'=>by rw[ht t' h'];rfl⟩
         have:=List.take_append_drop (i+1) ys
         rw[et] at this
         rw[List.append_assoc] at this
         exact this.symm
     . rintro σ H' ⟨rfl,ht,v,rfl⟩
       refine k1 ?_ a' _ x2 (u1.free n1) ct
       unfold hit
       rw[List.find?_eq_none]
       rw[List.length_map,List.take_length] at ht
       intro t hm
       rw[ht t hm]
       exact Bool.false_ne_true
   . exact⟨_,rfl,_,rfl,.inr ⟨bad,k⟩⟩
end
section
variable{P:Program}{w:World}{K:Frag}{mg:Str ->Option Value}{base:Heap}
noncomputable def B2s (CC:Addr):Sp:=fun vs H Q _=>∃c r y l m a b xs ys,vs=[.ref c]/\CtxAt CC H c r y l m a b xs ys/\∀p,H p=none ->Q (.ref p) (upd H p (.lst ys))
theorem G6e:FnScope ["self"] ["self"] (A1 A2j):=scK
theorem D9z{f CC:Addr}(F:Fun K "traps" "Context.traps" A2j f fd)(C:CtxC K mg CC)(O:Own mg):FnOk P w K mg base (CX1 P w) 1 f fd ["self"] (B2s CC):=by
 refine FnOk.up (F.ok G6e (fun vs H Q E h=>?_) (fun cdv A outer s H vs Q E hr h=>?_))
 . obtain⟨c,r,y,l,m,a,b,xs,ys,rfl,_⟩:=h
   rfl
 . obtain⟨c,r,y,l,m,a,b,xs,ys,rfl,⟨⟨dx,e⟩,_,hb⟩,k⟩:=h
   refine⟨_,(B3 (C4 (J0 A4x (by rfl) O.list_ boot_list (A0 (U7 (pv 0) rfl) A8)))),?_⟩
   exact⟨_,rfl,c,CC,dx,_,_,rfl,e,C.cl,C.n_trapped,B9b _ _ _ _ _ _,b,ys,rfl,.inl (SqL.of hb),k⟩
end
noncomputable abbrev B1n:Stmt:=(D8 (top 12) 0)
section
variable{P:Program}{w:World}{K:Frag}{mg:Str ->Option Value}{base:Heap}
theorem U7n:FnScope ["self","signal"] ["self","signal"] (A1 B1n):=scK
theorem J8a{f CT fI:Addr}(F:Fun K "__init__" "Trapped.__init__" B1n f fd)(XI:ExcI K CT fI)(hn:findIn K (.ref CT) "signal"=some none):FnOk P w K mg base CX0 1 f fd ["self","signal"] (D1h CT "signal"):=by
 refine F.ok U7n (fun vs H Q E h=>?_) (fun cdv A outer s H vs Q E hr h=>?_)
 . obtain⟨e,t,v,rfl,_⟩:=h
   rfl
 . obtain⟨e,t,v,rfl,he,k⟩:=h
   refine⟨_,(B3 (Y0p XI hn (pv 0) (pv 1) rfl)),?_⟩
   exact⟨_,rfl,_,rfl,e,t,rfl,he,fun d nd ne=>k d nd ne⟩
end
section
variable{P:Program}{w:World}{K:Frag}{mg:Str ->Option Value}{base:Heap}
end
noncomputable def Wy.goes (y:Wy) (s last part:Int):Bool:=match y with
 | .down=>false
 | .up=>true
 | .floor=>decide (V.int s=V.int 1)
 | .ceiling=>decide (V.int s=V.int 0)
 | .halfUp=>decide (part>=2)
 | .halfDown=>decide (V.int part=V.int 3)
 | .halfEven=>if decide (V.int part=V.int 3)=true then true else if decide (V.int part=V.int 2)=true then decide (V.int (last % 2)=V.int 1) else false
 | .fiveUp=>inV (.int last) [.int 0,.int 5]
noncomputable def Wy.toEnd (y:Wy) (s:Int):Bool:=match y with
 | .down=>false
 | .up=>true
 | .floor=>decide (V.int s=V.int 1)
 | .ceiling=>decide (V.int s=V.int 0)
 | .halfUp=>true
 | .halfDown=>true
 | .halfEven=>true
 | .fiveUp=>false
section
variable{P:Program}{w:World}{K:Frag}{mg:Str ->Option Value}{base:Heap}
noncomputable def A5j (y:Wy):Sp:=fun vs H Q _=>∃p s l t,vs=[.ref p,.int s,.int l,.int t]/\∀H',Same H H' ->Q (.bl (y.goes s l t)) H'
noncomputable def A1y (y:Wy):Sp:=fun vs H Q _=>∃p s,vs=[.ref p,.int s]/\∀H',Same H H' ->Q (.bl (y.toEnd s)) H'
noncomputable def Z5n (P:Program) (w:World) (K:Frag) (mg:Str ->Option Value) (base:Heap) (C:Addr) (y:Wy):Prop:=Has P w K mg base C "goes_up" 1 ["self","sign","last","part"] (A5j y)
noncomputable def Z4g (P:Program) (w:World) (K:Frag) (mg:Str ->Option Value) (base:Heap) (C:Addr) (y:Wy):Prop:=Has P w K mg base C "to_end" 1 ["self","sign"] (A1y y)
noncomputable abbrev sU0:Stmt:=(D8 (top 34) 1)
theorem scU0:FnScope ["self","sign","last","part"] ["self","sign","last","part"] (A1 sU0):=scK
theorem Z4u(F:Fun K "goes_up" "Down.goes_up" sU0 f fd):FnOk P w K mg base (CX1 P w) 1 f fd ["self","sign","last","part"] (A5j .down):=by
 refine FnOk.up (F.ok scU0 (fun vs H Q E h=>?_) (fun cdv A outer s H vs Q E hr h=>?_))
 . obtain⟨p,z,l,t,rfl,_⟩:=h
   rfl
 . obtain⟨p,z,l,t,rfl,k⟩:=h
   refine⟨_,(B3 (C4 A3h)),?_⟩
   exact k H (Same.refl H)
noncomputable abbrev sT0:Stmt:=(D8 (top 34) 2)
theorem Z8g:FnScope ["self","sign"] ["self","sign"] (A1 sT0):=scK
theorem Z3v(F:Fun K "to_end" "Down.to_end" sT0 f fd):FnOk P w K mg base (CX1 P w) 1 f fd ["self","sign"] (A1y .down):=by
 refine FnOk.up (F.ok Z8g (fun vs H Q E h=>?_) (fun cdv A outer s H vs Q E hr h=>?_))
 . obtain⟨p,z,rfl,_⟩:=h
   rfl
 . obtain⟨p,z,rfl,k⟩:=h
   refine⟨_,(B3 (C4 A3h)),?_⟩
   exact k H (Same.refl H)
noncomputable abbrev sU1:Stmt:=(D8 (top 35) 1)
theorem Z9n:FnScope ["self","sign","last","part"] ["self","sign","last","part"] (A1 sU1):=scK
theorem Z3x(F:Fun K "goes_up" "Up.goes_up" sU1 f fd):FnOk P w K mg base (CX1 P w) 1 f fd ["self","sign","last","part"] (A5j .up):=by
 refine FnOk.up (F.ok Z9n (fun vs H Q E h=>?_) (fun cdv A outer s H vs Q E hr h=>?_))
 . obtain⟨p,z,l,t,rfl,_⟩:=h
   rfl
 . obtain⟨p,z,l,t,rfl,k⟩:=h
   refine⟨_,(B3 (C4 A3h)),?_⟩
   exact k H (Same.refl H)
noncomputable abbrev sT1:Stmt:=(D8 (top 35) 2)
theorem scT1:FnScope ["self","sign"] ["self","sign"] (A1 sT1):=scK
theorem Z6a(F:Fun K "to_end" "Up.to_end" sT1 f fd):FnOk P w K mg base (CX1 P w) 1 f fd ["self","sign"] (A1y .up):=by
 refine FnOk.up (F.ok scT1 (fun vs H Q E h=>?_) (fun cdv A outer s H vs Q E hr h=>?_))
 . obtain⟨p,z,rfl,_⟩:=h
   rfl
 . obtain⟨p,z,rfl,k⟩:=h
   refine⟨_,(B3 (C4 A3h)),?_⟩
   exact k H (Same.refl H)
noncomputable abbrev sU2:Stmt:=(D8 (top 36) 1)
theorem Z8n:FnScope ["self","sign","last","part"] ["self","sign","last","part"] (A1 sU2):=scK
theorem Z4c(F:Fun K "goes_up" "Floor.goes_up" sU2 f fd):FnOk P w K mg base (CX1 P w) 1 f fd ["self","sign","last","part"] (A5j .floor):=by
 refine FnOk.up (F.ok Z8n (fun vs H Q E h=>?_) (fun cdv A outer s H vs Q E hr h=>?_))
 . obtain⟨p,z,l,t,rfl,_⟩:=h
   rfl
 . obtain⟨p,z,l,t,rfl,k⟩:=h
   refine⟨_,(B3 (C4 (G3 U0 (pv 1) A3 (C8 _)))),?_⟩
   exact⟨_,rfl,rfl,k H (Same.refl H)⟩
noncomputable abbrev sT2:Stmt:=(D8 (top 36) 2)
theorem Z9j:FnScope ["self","sign"] ["self","sign"] (A1 sT2):=scK
theorem Z6b(F:Fun K "to_end" "Floor.to_end" sT2 f fd):FnOk P w K mg base (CX1 P w) 1 f fd ["self","sign"] (A1y .floor):=by
 refine FnOk.up (F.ok Z9j (fun vs H Q E h=>?_) (fun cdv A outer s H vs Q E hr h=>?_))
 . obtain⟨p,z,rfl,_⟩:=h
   rfl
 . obtain⟨p,z,rfl,k⟩:=h
   refine⟨_,(B3 (C4 (G3 U0 (pv 1) A3 (C8 _)))),?_⟩
   exact⟨_,rfl,rfl,k H (Same.refl H)⟩
noncomputable abbrev sU3:Stmt:=(D8 (top 37) 1)
theorem Z8p:FnScope ["self","sign","last","part"] ["self","sign","last","part"] (A1 sU3):=scK
theorem Z3p(F:Fun K "goes_up" "Ceiling.goes_up" sU3 f fd):FnOk P w K mg base (CX1 P w) 1 f fd ["self","sign","last","part"] (A5j .ceiling):=by
 refine FnOk.up (F.ok Z8p (fun vs H Q E h=>?_) (fun cdv A outer s H vs Q E hr h=>?_))
 . obtain⟨p,z,l,t,rfl,_⟩:=h
   rfl
 . obtain⟨p,z,l,t,rfl,k⟩:=h
   refine⟨_,(B3 (C4 (G3 U0 (pv 1) A3 (C8 _)))),?_⟩
   exact⟨_,rfl,rfl,k H (Same.refl H)⟩
noncomputable abbrev sT3:Stmt:=(D8 (top 37) 2)
theorem scT3:FnScope ["self","sign"] ["self","sign"] (A1 sT3):=scK
theorem Z5w(F:Fun K "to_end" "Ceiling.to_end" sT3 f fd):FnOk P w K mg base (CX1 P w) 1 f fd ["self","sign"] (A1y .ceiling):=by
 refine FnOk.up (F.ok scT3 (fun vs H Q E h=>?_) (fun cdv A outer s H vs Q E hr h=>?_))
 . obtain⟨p,z,rfl,_⟩:=h
   rfl
 . obtain⟨p,z,rfl,k⟩:=h
   refine⟨_,(B3 (C4 (G3 U0 (pv 1) A3 (C8 _)))),?_⟩
   exact⟨_,rfl,rfl,k H (Same.refl H)⟩
noncomputable abbrev sU4:Stmt:=(D8 (top 38) 1)
theorem Z8d:FnScope ["self","sign","last","part"] ["self","sign","last","part"] (A1 sU4):=scK
theorem Z3j(F:Fun K "goes_up" "HalfUp.goes_up" sU4 f fd):FnOk P w K mg base (CX1 P w) 1 f fd ["self","sign","last","part"] (A5j .halfUp):=by
 refine FnOk.up (F.ok Z8d (fun vs H Q E h=>?_) (fun cdv A outer s H vs Q E hr h=>?_))
 . obtain⟨p,z,l,t,rfl,_⟩:=h
   rfl
 . obtain⟨p,z,l,t,rfl,k⟩:=h
   refine⟨_,(B3 (C4 (G3 J5r (pv 3) A3 (C8 _)))),?_⟩
   exact⟨_,rfl,_,_,rfl,rfl,k H (Same.refl H)⟩
noncomputable abbrev sT4:Stmt:=(D8 (top 38) 2)
theorem Z8y:FnScope ["self","sign"] ["self","sign"] (A1 sT4):=scK
theorem Z6h(F:Fun K "to_end" "HalfUp.to_end" sT4 f fd):FnOk P w K mg base (CX1 P w) 1 f fd ["self","sign"] (A1y .halfUp):=by
 refine FnOk.up (F.ok Z8y (fun vs H Q E h=>?_) (fun cdv A outer s H vs Q E hr h=>?_))
 . obtain⟨p,z,rfl,_⟩:=h
   rfl
 . obtain⟨p,z,rfl,k⟩:=h
   refine⟨_,(B3 (C4 A3h)),?_⟩
   exact k H (Same.refl H)
noncomputable abbrev sU5:Stmt:=(D8 (top 39) 1)
theorem scU5:FnScope ["self","sign","last","part"] ["self","sign","last","part"] (A1 sU5):=scK
theorem Z4n(F:Fun K "goes_up" "HalfDown.goes_up" sU5 f fd):FnOk P w K mg base (CX1 P w) 1 f fd ["self","sign","last","part"] (A5j .halfDown):=by
 refine FnOk.up (F.ok scU5 (fun vs H Q E h=>?_) (fun cdv A outer s H vs Q E hr h=>?_))
 . obtain⟨p,z,l,t,rfl,_⟩:=h
   rfl
 . obtain⟨p,z,l,t,rfl,k⟩:=h
   refine⟨_,(B3 (C4 (G3 U0 (pv 3) A3 (C8 _)))),?_⟩
   exact⟨_,rfl,rfl,k H (Same.refl H)⟩
noncomputable abbrev sT5:Stmt:=(D8 (top 39) 2)
theorem scT5:FnScope ["self","sign"] ["self","sign"] (A1 sT5):=scK
theorem Z5u(F:Fun K "to_end" "HalfDown.to_end" sT5 f fd):FnOk P w K mg base (CX1 P w) 1 f fd ["self","sign"] (A1y .halfDown):=by
 refine FnOk.up (F.ok scT5 (fun vs H Q E h=>?_) (fun cdv A outer s H vs Q E hr h=>?_))
 . obtain⟨p,z,rfl,_⟩:=h
   rfl
 . obtain⟨p,z,rfl,k⟩:=h
   refine⟨_,(B3 (C4 A3h)),?_⟩
   exact k H (Same.refl H)
noncomputable abbrev sU6:Stmt:=(D8 (top 40) 1)
theorem Z9k:FnScope ["self","sign","last","part"] ["self","sign","last","part"] (A1 sU6):=scK
theorem Z4a(F:Fun K "goes_up" "HalfEven.goes_up" sU6 f fd):FnOk P w K mg base (CX1 P w) 1 f fd ["self","sign","last","part"] (A5j .halfEven):=by
 refine FnOk.up (F.ok Z9k (fun vs H Q E h=>?_) (fun cdv A outer s H vs Q E hr h=>?_))
 . obtain⟨p,z,l,t,rfl,_⟩:=h
   rfl
 . obtain⟨p,z,l,t,rfl,k⟩:=h
   refine⟨_,(B3 (C4 (U4e (G3 U0 (pv 3) A3 (C8 _)) (A2r (B2x (G3 U0 (pv 3) A3 (C8 _)) (A2r (G3 U0 (B7 G5 (pv 2) A3) A3 (C8 _)))))))),?_⟩
   have k:=k H (Same.refl H)
   unfold Wy.goes at k
   refine⟨_,rfl,rfl,_,rfl,?_⟩
   cases e:decide (V.int t=V.int 3) with
   |true=>rw[e] at k;exact Y6 k
   | false=>
     rw[e] at k
     refine U1 ⟨_,rfl,rfl,_,rfl,?_⟩
     cases e2:decide (V.int t=V.int 2) with
     |true=>rw[e2] at k;exact Y6 ⟨_,rfl,_,_,rfl,rfl,(by decide:(0:Int)<2),rfl,k⟩
     |false=>rw[e2] at k;exact U1 k
noncomputable abbrev sT6:Stmt:=(D8 (top 40) 2)
theorem Z8j:FnScope ["self","sign"] ["self","sign"] (A1 sT6):=scK
theorem Z4y(F:Fun K "to_end" "HalfEven.to_end" sT6 f fd):FnOk P w K mg base (CX1 P w) 1 f fd ["self","sign"] (A1y .halfEven):=by
 refine FnOk.up (F.ok Z8j (fun vs H Q E h=>?_) (fun cdv A outer s H vs Q E hr h=>?_))
 . obtain⟨p,z,rfl,_⟩:=h
   rfl
 . obtain⟨p,z,rfl,k⟩:=h
   refine⟨_,(B3 (C4 A3h)),?_⟩
   exact k H (Same.refl H)
noncomputable abbrev sU7:Stmt:=(D8 (top 41) 1)
theorem Z9z:FnScope ["self","sign","last","part"] ["self","sign","last","part"] (A1 sU7):=scK
theorem Z5d(F:Fun K "goes_up" "FiveUp.goes_up" sU7 f fd):FnOk P w K mg base (CX1 P w) 1 f fd ["self","sign","last","part"] (A5j .fiveUp):=by
 refine FnOk.up (F.ok Z9z (fun vs H Q E h=>?_) (fun cdv A outer s H vs Q E hr h=>?_))
 . obtain⟨p,z,l,t,rfl,_⟩:=h
   rfl
 . obtain⟨p,z,l,t,rfl,k⟩:=h
   refine⟨_,(B3 (C4 (G3 A4g (pv 2) (Y9 (A0 A3 (A0 A3 A8))) (by rfl)))),?_⟩
   exact⟨_,rfl,C9 (by decide),fun q nq=>⟨q,_,rfl,.inr (SqT.of A6),rfl,rfl,k _ (Same.upd nq)⟩⟩
noncomputable abbrev sT7:Stmt:=(D8 (top 41) 2)
theorem Z9c:FnScope ["self","sign"] ["self","sign"] (A1 sT7):=scK
theorem Z5b(F:Fun K "to_end" "FiveUp.to_end" sT7 f fd):FnOk P w K mg base (CX1 P w) 1 f fd ["self","sign"] (A1y .fiveUp):=by
 refine FnOk.up (F.ok Z9c (fun vs H Q E h=>?_) (fun cdv A outer s H vs Q E hr h=>?_))
 . obtain⟨p,z,rfl,_⟩:=h
   rfl
 . obtain⟨p,z,rfl,k⟩:=h
   refine⟨_,(B3 (C4 A3h)),?_⟩
   exact k H (Same.refl H)
end
noncomputable abbrev A3j:Stmt:=(top 23)
noncomputable abbrev A1f:Stmt:=(top 24)
noncomputable abbrev Z0:Stmt:=(top 25)
noncomputable abbrev A3g:Stmt:=(top 26)
noncomputable abbrev A3m:Stmt:=(top 27)
noncomputable abbrev A7w:Stmt:=(top 28)
noncomputable abbrev A8c:Stmt:=(top 29)
noncomputable abbrev A2w:Stmt:=(top 30)
noncomputable abbrev A2v:Stmt:=(top 31)
structure Cv where
 r:Int
 y:Wy
 l:Int
 m:Int
structure Cv.Ok(c:Cv):Prop where
 r1:1<=c.r
 r2:c.r<=24
 l1: -60<=c.l
 l2:c.l<=0
 m1:0<=c.m
 m2:c.m<=60
noncomputable def Y4 (ideal:Int):Nat ->Int ->Int ->Int×Int
 |0,f,p=>(f,p)
 |n+1,f,p=>if f % 10=0 then Y4 ideal n (f/10) (p+1) else(f,p)
noncomputable def Z4 (ideal f p:Int):Int×Int:=Y4 ideal (ideal-p).toNat f p
theorem C1s{ideal f p:Int}(h:p<ideal)(z:f % 10=0):Z4 ideal f p=Z4 ideal (f/10) (p+1):=by
 unfold Z4
 obtain⟨n,hn⟩:∃n,(ideal-p).toNat=n+1:=⟨(ideal-p).toNat-1,by omega⟩
 rw[hn,show(ideal-(p+1)).toNat=n by omega]
 show(if f % 10=0 then Y4 ideal n (f/10) (p+1) else(f,p))=_
 rw[if_pos z]
theorem C0t{ideal f p:Int}(h:¬(p<ideal/\f % 10=0)):Z4 ideal f p=(f,p):=by
 unfold Z4
 by_cases q:p<ideal
 . obtain⟨n,hn⟩:∃n,(ideal-p).toNat=n+1:=⟨(ideal-p).toNat-1,by omega⟩
   rw[hn]
   show(if f % 10=0 then Y4 ideal n (f/10) (p+1) else(f,p))=_
   rw[if_neg fun z=>h ⟨q,z⟩]
 . rw[show(ideal-p).toNat=0 by omega]
   rfl
noncomputable def G9 (f:Int):Int:=((Str.ofString (toString f)).length:Nat)
noncomputable def upI (y:Wy) (s wh pt:Int):Int:=if(if pt=0 then false else y.goes s (wh % 10) pt)=true then wh+1 else wh
noncomputable def B4p (r f q:Int):Int×Int:=if f=B0 r then(f/10,q+1) else(f,q)
noncomputable def Z3 (c:Cv) (s wh pt q ideal:Int):Int×Int:=if pt=0 then Z4 ideal wh q else B4p c.r (upI c.y s wh pt) q
noncomputable def A1x (m f p:Int):Bool:=if f=0 then false else decide (p+G9 f-1>m)
noncomputable def B5n (c:Cv) (s:Int):Nm:=if c.y.toEnd s=true then⟨.end_,s,0,0⟩ else⟨.plain,s,B0 c.r-1,c.m-c.r+1⟩
noncomputable def A0p (pt:Int) (cut:Bool):List Str:=if pt=0 then(if cut=true then ["cut"] else []) else ["off","cut"]
noncomputable def A0q (l L pt:Int):List Str:=if L>=l then [] else if pt=0 then ["faint"] else ["sunk","faint"]
noncomputable def D0m (c:Cv) (s wh pt L q ideal:Int):Nm×List Str:=
 if A1x c.m (Z3 c s wh pt q ideal).1 (Z3 c s wh pt q ideal).2=true then(B5n c s,["burst","off","cut"])
 else(⟨.plain,s,(Z3 c s wh pt q ideal).1,(Z3 c s wh pt q ideal).2⟩,A0p pt (decide ((Z3 c s wh pt q ideal).2>ideal))++A0q c.l L pt)
noncomputable def J9c (a b:Int):Int:=if b>a then b else a
noncomputable def CtxV (CC:Addr) (H:Hp) (c:Addr) (v:Cv) (a b:Addr) (xs ys:List Str):Prop:=CtxAt CC H c v.r v.y v.l v.m a b (xs.map V.str) (ys.map V.str)
theorem CtxV.same{CC:Addr}{H H':Hp}{c:Addr}{v:Cv}{a b:Addr}{xs ys:List Str}(h:CtxV CC H c v a b xs ys)(e:Same H H'):CtxV CC H' c v a b xs ys:=CtxAt.same h e
theorem G0f{CN:Addr}{H:Hp}{Q:VK}{E:XK}{k s f p:V}(h:∀n H',H n=none ->Same H H' ->NumAt CN H' n k s f p ->Q (.ref n) H'):
   ∀x dx,H x=none ->H dx=none ->dx≠x ->D0u CN (.ref x::([k,s,f,p]++ [])) (upd (upd H dx (.own x)) x (.ins CN dx [])) (fun v H2=>v= .non/\Q (.ref x) H2) E:=by
 intro x dx nx nd ne
 refine⟨x,dx,k,s,f,p,rfl,A6,fun H' e kp=>⟨rfl,h x H' nx (fun b o z=>?_) ⟨dx,e⟩⟩⟩
 refine kp b o ?_ (D5 z nx)
 rw[C6 (D5 z nx),C6 (D5 z nd)]
 exact z
section
variable{P:Program}{w:World}{K:Frag}{mg:Str ->Option Value}{base:Heap}
structure CtxM(P:Program)(w:World)(K:Frag)(mg:Str ->Option Value)(base:Heap)(CC CB CT CW:Addr)(cw:Wy ->Addr):Prop where
 c:CtxC K mg CC
 way:Has P w K mg base CC "way" 2 ["self"] (C0b CC cw)
 low:Has P w K mg base CC "lowest" 1 ["self"] (C0a CC)
 raised:Has P w K mg base CC "raised" 3 ["self","names"] (C1r K CC CB CT)
 wc:∀y:Wy,WayC K mg y.cls (cw y) CW
 u:∀y:Wy,Z5n P w K mg base (cw y) y
 e:∀y:Wy,Z4g P w K mg base (cw y) y
noncomputable def C9j (CN:Addr):Sp:=fun vs H Q _=>∃i s f p:Int,vs=[.int i,.int s,.int f,.int p]/\∀n H',H n=none ->Same H H' ->NumIs CN H' n ⟨.plain,s,(Z4 i f p).1,(Z4 i f p).2⟩ ->Q (.ref n) H'
theorem scNearest:FnScope ["ideal","sign","figures","power"] ["ideal","sign","figures","power"] (A1 A1f):=scK
theorem G6q{f fI CN:Addr}{fd fdI:FuncData}(D:Def K mg "nearest_to" ["ideal","sign","figures","power"] A1f f fd)(N:Num K mg CN)(M:MakeN P w K mg base CN fI fdI):FnOk P w K mg base (CX1 P w) 3 f fd ["ideal","sign","figures","power"] (C9j CN):=by
 refine FnOk.up (D.F.ok scNearest (fun vs H Q E h=>?_) (fun cdv A outer s H vs Q E hr h=>?_))
 . obtain⟨i,s,f,p,rfl,_⟩:=h
   rfl
 . obtain⟨i,sg,fg,pw,rfl,k⟩:=h
   have hx:G2 (A0b CX0 P w K mg base ["ideal","sign","figures","power"] "nearest_to" (A1 A1f) f cdv A outer s H E).nox EKF:=Y7
   refine⟨_,(A7 (B4s PassesOwn.never (PW.pt (C1t (D0 C0c (pv 3) (pv 0) (C8 _)) (B4u (D0 U0 (B7 G5 (pv 2) A3) A3 (C8 _))))) (A7 (D3 (i:=2) scNearest.nd rfl (Or.inl rfl) (B7 D9 (pv 2) A3))
     (B3 (D3 (i:=3) scNearest.nd rfl (Or.inl rfl) (B7 G8 (pv 3) A3)))))
     (B3 (C4 (C9r M.m (FnOk.up M.g) hr N.g M.b .nil hx (A0 C5 (A0 (pv 1) (A0 (pv 2) (A0 (pv 3) A8)))))))),?_⟩
   have d10:(0:Int)<10/\(10:Int).natAbs.log2<9000:=⟨by decide,by decide+kernel⟩
   refine B4q (fun σ H2=>H2=H/\∃f p:Int,Z4 i f p=Z4 i fg pw/\σ=[some (.int i),some (.int sg),some (.int f),some (.int p)]) (fun σ _=>match σ with| [_,_,_,some (.int p)]=>(i-p).toNat|_=>0) ?_ ?_ ?_
   . exact⟨rfl,fg,pw,rfl,rfl⟩
   . rintro σ H2 ⟨rfl,f,p,e,rfl⟩
     have stop:¬(p<i/\f % 10=0) ->∀n H',H2 n=none ->Same H2 H' ->NumAt CN H' n (.str "plain") (.int sg) (.int f) (.int p) ->Q (.ref n) H':=fun h n H' nn sm num=>by
       refine k n H' nn sm ?_
       rw[<-e,C0t h]
       exact num
     refine⟨_,rfl,_,rfl,_,_,rfl,rfl,_,rfl,Y3 (fun h1=>?_) (fun h1=>U1 ⟨_,rfl,_,rfl,_,rfl,G0f (stop fun q=>h1 q.1)⟩)⟩
     refine⟨_,rfl,_,_,rfl,rfl,d10.1,rfl,_,rfl,Y3 (fun h2=>?_) (fun h2=>⟨_,rfl,_,rfl,_,rfl,G0f (stop fun q=>h2 (congrArg V.int q.2))⟩)⟩
     have h1:p<i:=h1
     have h2:f % 10=0:=by injection h2
     refine⟨_,rfl,_,_,rfl,rfl,d10,_,rfl,_,_,rfl,rfl,⟨rfl,f/10,p+1,(C1s h1 h2).symm.trans e,rfl⟩,?_⟩
     show(i-(p+1)).toNat<(i-p).toNat
     omega
   . rintro σ H2 Q1 Q2 hQ ⟨v,e,v2,e2,a,b,e3,e4,c,e5,q⟩
     refine⟨v,e,v2,e2,a,b,e3,e4,c,e5,?_⟩
     cases c with
     |false=>exact U1 (hQ _ _ (by simpa using q))
     | true=>
       have q:_:=q
       rw[if_pos rfl] at q ⊢
       obtain⟨v3,e6,a2,b2,e7,e8,e9,e10,e11,e12,q⟩:=q
       exact⟨v3,e6,a2,b2,e7,e8,e9,e10,e11,e12,hQ _ _ q⟩
noncomputable def B9c (CC:Addr):Sp:=fun vs H Q _=>∃c v a b xs ys p,∃s wh pt:Int,vs=[.ref c,.int s,.ref p]/\CtxV CC H c v a b xs ys/\H p=some (.tup [.int wh,.int pt])/\∀H',Same H H' ->Q (.int (upI v.y s wh pt)) H'
theorem D9x:FnScope ["context","sign","pair"] ["context","sign","pair"] (A1 Z0):=scK
theorem D1d{f CC CB CT CW:Addr}{cw:Wy ->Addr}(D:Def K mg "neighbour" ["context","sign","pair"] Z0 f fd)(C:CtxM P w K mg base CC CB CT CW cw):FnOk P w K mg base (CX1 P w) 3 f fd ["context","sign","pair"] (B9c CC):=by
 refine FnOk.up (D.F.ok D9x (fun vs H Q E h=>?_) (fun cdv A outer s H vs Q E hr h=>?_))
 . obtain⟨c,v,a,b,xs,ys,p,sg,wh,pt,rfl,_⟩:=h
   rfl
 . obtain⟨c,v,a,b,xs,ys,p,sg,wh,pt,rfl,hc,hp,k⟩:=h
   have hx:G2 (A0b CX0 P w K mg base ["context","sign","pair"] "neighbour" (A1 Z0) f cdv A outer s H E).nox EKF:=Y7
   obtain⟨fW,fdW,mW,gW,bW⟩:=C.way
   obtain⟨fU,fdU,mU,gU,bU⟩:=C.u v.y
   refine⟨_,(A7 (J9 (PW.pt (C1t (D0 J5v (U5 V1 (pv 2) A3 (fun _ _=>rfl)) A3 (C8 _)) (B4u (Y0 (C1y (A4z (pv 0) C.c.cl mW gW hr bW .nil hx) (C.wc v.y).cl mU gU hr bU .nil hx (A0 (pv 1) (A0 (B7 G5 (U5 V1 (pv 2) A3 (fun _ _=>rfl)) A3) (A0 (U5 V1 (pv 2) A3 (fun _ _=>rfl)) A8)))))))) (B3 (C4 (B7 G8 (U5 V1 (pv 2) A3 (fun _ _=>rfl)) A3))) D4)
     (B3 (C4 (U5 V1 (pv 2) A3 (fun _ _=>rfl))))),?_⟩
   obtain⟨⟨dx,e⟩,_,_⟩:=id hc
   unfold upI at k
   refine⟨_,rfl,p,_,_,_,rfl,rfl,SqT.of hp,D7 (j:=1) rfl,rfl,_,rfl,?_⟩
   by_cases h0:pt=0
   . subst h0
     rw[if_pos rfl,if_neg Bool.false_ne_true] at k
     exact Y6x rfl (U1 ⟨_,rfl,p,_,_,_,rfl,rfl,SqT.of hp,D7 (j:=0) rfl,k H (Same.refl H)⟩)
   . rw[if_neg h0] at k
     rw[decide_eq_false (fun q=>h0 (by injection q):¬V.int pt=V.int 0)]
     refine Y6 ⟨_,rfl,c,dx,_,rfl,e,C1f _ _ _ _ _ _,c,v.r,v.y,v.l,v.m,a,b,_,_,rfl,hc,fun q dq H1 nq s1 eq=>?_⟩
     refine⟨q,dq,_,rfl,eq,rfl,_,rfl,_,rfl,p,_,_,_,rfl,rfl,SqT.of (s1 _ _ hp),D7 (j:=0) rfl,_,_,rfl,rfl,(by decide:(0:Int)<10),_,rfl,p,_,_,_,rfl,rfl,SqT.of (s1 _ _ hp),D7 (j:=1) rfl,q,sg,wh % 10,pt,rfl,fun H2 s2=>⟨_,rfl,?_⟩⟩
     have s3:=s1.trans s2
     cases g:v.y.goes sg (wh % 10) pt with
     | true=>
       rw[g,if_pos rfl] at k
       exact Y6 ⟨_,rfl,p,_,_,_,rfl,rfl,SqT.of (s3 _ _ hp),D7 (j:=0) rfl,_,_,rfl,rfl,k H2 s3⟩
     | false=>
       rw[g,if_neg Bool.false_ne_true] at k
       exact U1 ⟨_,rfl,p,_,_,_,rfl,rfl,SqT.of (s3 _ _ hp),D7 (j:=0) rfl,k H2 s3⟩
noncomputable def G0p (CN CC:Addr):Sp:=fun vs H Q _=>∃c v a b xs ys,∃s f q:Int,vs=[.ref c,.int s,.int f,.int q]/\CtxV CC H c v a b xs ys/\v.Ok/\∀n H',H n=none ->Same H H' ->NumIs CN H' n ⟨.plain,s,(B4p v.r f q).1,(B4p v.r f q).2⟩ ->Q (.ref n) H'
theorem U6s:FnScope ["context","sign","figures","power"] ["context","sign","figures","power"] (A1 A3g):=scK
theorem J8k{f f1 fI CN CC CB CT CW:Addr}{cw:Wy ->Addr}{fd fd1 fdI:FuncData}(D:Def K mg "within_room" ["context","sign","figures","power"] A3g f fd)(dA:Def K mg "ten_to" ["count"] A2x f1 fd1)(dB:FnOk P w K mg base (CX1 P w) 2 f1 fd1 ["count"] B4v)(C:CtxM P w K mg base CC CB CT CW cw)(N:Num K mg CN)(M:MakeN P w K mg base CN fI fdI):
   FnOk P w K mg base (CX1 P w) 3 f fd ["context","sign","figures","power"] (G0p CN CC):=by
 refine FnOk.up (D.F.ok U6s (fun vs H Q E h=>?_) (fun cdv A outer s H vs Q E hr h=>?_))
 . obtain⟨c,v,a,b,xs,ys,sg,f,q,rfl,_⟩:=h
   rfl
 . obtain⟨c,v,a,b,xs,ys,sg,fg,q,rfl,hc,ok,k⟩:=h
   have hx:G2 (A0b CX0 P w K mg base ["context","sign","figures","power"] "within_room" (A1 A3g) f cdv A outer s H E).nox EKF:=Y7
   refine⟨_,(A7 (J9 (D0 U0 (pv 2) (G0 dA dB hr hx (A0 (U7 (pv 0) rfl) A8)) (C8 _)) (B3 (C4 (C9r M.m (FnOk.up M.g) hr N.g M.b .nil hx (A0 C5 (A0 (pv 1) (A0 (B7 D9 (pv 2) A3) (A0 (B7 G8 (pv 3) A3) A8))))))) D4)
     (B3 (C4 (C9r M.m (FnOk.up M.g) hr N.g M.b .nil hx (A0 C5 (A0 (pv 1) (A0 (pv 2) (A0 (pv 3) A8)))))))),?_⟩
   have d10:(0:Int)<10/\(10:Int).natAbs.log2<9000:=⟨by decide,by decide+kernel⟩
   obtain⟨⟨dx,e⟩,_,_⟩:=id hc
   have r1:=ok.r1;have r2:=ok.r2
   refine⟨_,rfl,_,rfl,c,CC,dx,_,_,rfl,e,C.c.cl,C.c.n_room,A8m _ _ _ _ _ _,v.r.toNat,(by rw[Int.toNat_of_nonneg (by omega)];rfl),by omega,rfl,_,rfl,?_⟩
   unfold B4p at k
   refine Y3 (fun h=>?_) (fun h=>?_)
   . have h:fg=B0 v.r:=by injection h
     rw[if_pos h] at k
     exact⟨_,rfl,_,rfl,_,_,rfl,rfl,d10,_,rfl,_,_,rfl,rfl,G0f k⟩
   . have h:¬fg=B0 v.r:=fun z=>h (congrArg V.int z)
     rw[if_neg h] at k
     exact⟨_,rfl,_,rfl,_,rfl,G0f k⟩
noncomputable def G0j (CN CC:Addr):Sp:=fun vs H Q _=>∃c v a b xs ys n x,vs=[.ref c,.ref n]/\CtxV CC H c v a b xs ys/\NumIs CN H n x/\x.f.natAbs<2^300/\Q (.bl (A1x v.m x.f x.p)) H
theorem U5w:FnScope ["context","number"] ["context","number"] (A1 A3m):=scK
theorem J8v{f f1 CN CC CB CT CW:Addr}{cw:Wy ->Addr}(D:Def K mg "is_beyond" ["context","number"] A3m f fd)(dA:Def K mg "lead_of" ["number"] C0r f1 fd1)(dB:FnOk P w K mg base (CX1 P w) 1 f1 fd1 ["number"] (U6h CN))(C:CtxM P w K mg base CC CB CT CW cw)(N:Num K mg CN):
   FnOk P w K mg base (CX1 P w) 2 f fd ["context","number"] (G0j CN CC):=by
 refine FnOk.up (D.F.ok U5w (fun vs H Q E h=>?_) (fun cdv A outer s H vs Q E hr h=>?_))
 . obtain⟨c,v,a,b,xs,ys,n,x,rfl,_⟩:=h
   rfl
 . obtain⟨c,v,a,b,xs,ys,n,x,rfl,hc,hn,hf,k⟩:=h
   have hx:G2 (A0b CX0 P w K mg base ["context","number"] "is_beyond" (A1 A3m) f cdv A outer s H E).nox EKF:=Y7
   refine⟨_,(B3 (C4 (B2x (G3 J5v (U7 (pv 1) rfl) A3 (C8 _)) (A2r (G3 C2b (G0 dA dB hr hx (A0 (pv 1) A8)) (U7 (pv 0) rfl) (C8 _)))))),?_⟩
   obtain⟨⟨dx,e⟩,_,_⟩:=id hc
   obtain⟨dn,en⟩:=id hn
   unfold A1x at k
   refine⟨_,rfl,n,CN,dn,_,_,rfl,en,N.cl,N.n3,Y9e _ _ _ _,rfl,_,rfl,?_⟩
   by_cases h0:x.f=0
   . rw[if_pos h0] at k
     rw[decide_eq_true (congrArg V.int h0)]
     exact U1 k
   . rw[if_neg h0] at k
     rw[decide_eq_false (fun q=>h0 (by injection q):¬V.int x.f=V.int 0)]
     exact Y6 ⟨_,rfl,n,_,_,_,_,rfl,hn,hf,_,rfl,c,CC,dx,_,_,rfl,e,C.c.cl,C.c.n_most,G1e _ _ _ _ _ _,_,_,rfl,rfl,k⟩
noncomputable def J7a (CN CC:Addr):Sp:=fun vs H Q _=>∃c v a b xs ys,∃s:Int,vs=[.ref c,.int s]/\CtxV CC H c v a b xs ys/\v.Ok/\∀n H',H n=none ->Same H H' ->NumIs CN H' n ⟨.plain,s,B0 v.r-1,v.m-v.r+1⟩ ->Q (.ref n) H'
theorem Y3a:FnScope ["context","sign"] ["context","sign"] (A1 A8c):=scK
theorem U7e{f f1 fI CN CC CB CT CW:Addr}{cw:Wy ->Addr}{fd fd1 fdI:FuncData}(D:Def K mg "nines" ["context","sign"] A8c f fd)(dA:Def K mg "ten_to" ["count"] A2x f1 fd1)(dB:FnOk P w K mg base (CX1 P w) 2 f1 fd1 ["count"] B4v)(C:CtxM P w K mg base CC CB CT CW cw)(N:Num K mg CN)(M:MakeN P w K mg base CN fI fdI):
   FnOk P w K mg base (CX1 P w) 3 f fd ["context","sign"] (J7a CN CC):=by
 refine FnOk.up (D.F.ok Y3a (fun vs H Q E h=>?_) (fun cdv A outer s H vs Q E hr h=>?_))
 . obtain⟨c,v,a,b,xs,ys,sg,rfl,_⟩:=h
   rfl
 . obtain⟨c,v,a,b,xs,ys,sg,rfl,hc,ok,k⟩:=h
   have hx:G2 (A0b CX0 P w K mg base ["context","sign"] "nines" (A1 A8c) f cdv A outer s H E).nox EKF:=Y7
   refine⟨_,(B3 (C4 (C9r M.m (FnOk.up M.g) hr N.g M.b .nil hx (A0 C5 (A0 (pv 1) (A0 (B7 U2 (G0 dA dB hr hx (A0 (U7 (pv 0) rfl) A8)) A3) (A0 (B7 G8 (B7 U2 (U7 (pv 0) rfl) (U7 (pv 0) rfl)) A3) A8))))))),?_⟩
   obtain⟨⟨dx,e⟩,_,_⟩:=id hc
   have r1:=ok.r1;have r2:=ok.r2
   exact⟨_,rfl,_,rfl,c,CC,dx,_,_,rfl,e,C.c.cl,C.c.n_room,A8m _ _ _ _ _ _,v.r.toNat,(by rw[Int.toNat_of_nonneg (by omega)];rfl),by omega,_,_,rfl,rfl,_,rfl,c,CC,dx,_,_,rfl,e,C.c.cl,C.c.n_most,G1e _ _ _ _ _ _,_,rfl,c,CC,dx,_,_,rfl,e,C.c.cl,C.c.n_room,A8m _ _ _ _ _ _,_,_,rfl,rfl,_,_,rfl,rfl,G0f k⟩
noncomputable def J6a (CN CC:Addr):Sp:=fun vs H Q _=>∃c v a b xs ys,∃s:Int,vs=[.ref c,.int s]/\CtxV CC H c v a b xs ys/\v.Ok/\0<=s/\s<=1/\∀n H',Same H H' ->NumIs CN H' n (B5n v s) ->Q (.ref n) H'
theorem Y1v:FnScope ["context","sign"] ["context","sign"] (A1 A7w):=scK
theorem U4x{f f1 f2 CN CN' CC CB CT CW:Addr}{cw:Wy ->Addr}(D:Def K mg "burst" ["context","sign"] A7w f fd)(dA:Def K mg "nines" ["context","sign"] A8c f1 fd1)(dB:FnOk P w K mg base (CX1 P w) 3 f1 fd1 ["context","sign"] (J7a CN CC))(dC:Def K mg "end" ["sign"] G5u f2 fd2)(dD:FnOk P w K mg base (CX1 P w) 3 f2 fd2 ["sign"] (Y7a K CN CN'))(C:CtxM P w K mg base CC CB CT CW cw):
   FnOk P w K mg base (CX1 P w) 4 f fd ["context","sign"] (J6a CN CC):=by
 refine FnOk.up (D.F.ok Y1v (fun vs H Q E h=>?_) (fun cdv A outer s H vs Q E hr h=>?_))
 . obtain⟨c,v,a,b,xs,ys,sg,rfl,_⟩:=h
   rfl
 . obtain⟨c,v,a,b,xs,ys,sg,rfl,hc,ok,s0,s1,k⟩:=h
   have hx:G2 (A0b CX0 P w K mg base ["context","sign"] "burst" (A1 A7w) f cdv A outer s H E).nox EKF:=Y7
   obtain⟨fW,fdW,mW,gW,bW⟩:=C.way
   obtain⟨fU,fdU,mU,gU,bU⟩:=C.e v.y
   refine⟨_,(B3 (C4 (A2s (Y0 (C1y (A4z (pv 0) C.c.cl mW gW hr bW .nil hx) (C.wc v.y).cl mU gU hr bU .nil hx (A0 (pv 1) A8))) (G0 dC dD hr hx (A0 (pv 1) A8)) (G0 dA dB hr hx (A0 (pv 0) (A0 (pv 1) A8)))))),?_⟩
   obtain⟨⟨dx,e⟩,_,_⟩:=id hc
   unfold B5n at k
   refine⟨_,rfl,c,dx,_,rfl,e,C1f _ _ _ _ _ _,c,v.r,v.y,v.l,v.m,a,b,_,_,rfl,hc,fun q dq H1 nq t1 eq=>?_⟩
   refine⟨q,dq,_,rfl,eq,rfl,_,rfl,q,sg,rfl,fun H2 t2=>⟨_,rfl,?_⟩⟩
   have t3:=t1.trans t2
   cases g:v.y.toEnd sg with
   | true=>
     rw[g,if_pos rfl] at k
     exact Y6 ⟨_,rfl,_,rfl,.inl ⟨⟨sg,rfl,s0,s1⟩,fun n H' _ sm num=>k n H' (t3.trans sm) num⟩⟩
   | false=>
     rw[g,if_neg Bool.false_ne_true] at k
     exact U1 ⟨_,rfl,_,rfl,c,v,a,b,xs,ys,sg,rfl,hc.same t3,ok,fun n H' _ sm num=>k n H' (t3.trans sm) num⟩
noncomputable def C9h:Sp:=fun vs H Q _=>∃(pt:Int) (cut:Bool),vs=[.int pt,.bl cut]/\∀l,H l=none ->Q (.ref l) (upd H l (.lst ((A0p pt cut).map V.str)))
theorem J8e:FnScope ["part","is_cut"] ["part","is_cut"] (A1 A2w):=scK
theorem G7q(D:Def K mg "signals_of_rest" ["part","is_cut"] A2w f fd):FnOk P w K mg base (CX1 P w) 1 f fd ["part","is_cut"] C9h:=by
 refine FnOk.up (D.F.ok J8e (fun vs H Q E h=>?_) (fun cdv A outer s H vs Q E hr h=>?_))
 . obtain⟨pt,cut,rfl,_⟩:=h
   rfl
 . obtain⟨pt,cut,rfl,k⟩:=h
   refine⟨_,(A7 (J9 (D0 J5v (pv 0) A3 (C8 _)) (B3 (C4 (U4 (A0 C5 (A0 C5 A8))))) D4)
     (B3 (C4 (A2s (Y0 (pv 1)) (U4 (A0 C5 A8)) (U4 A8))))),?_⟩
   unfold A0p at k
   refine⟨_,rfl,rfl,_,rfl,?_⟩
   by_cases h0:pt=0
   . subst h0
     rw[if_pos rfl] at k
     refine Y6x rfl ⟨_,rfl,_,rfl,?_⟩
     cases cut with
     |true=>exact Y6 ⟨C9 (by decide),k⟩
     |false=>exact U1 ⟨C9 (by decide),k⟩
   . rw[if_neg h0] at k
     rw[decide_eq_false (fun q=>h0 (by injection q):¬V.int pt=V.int 0)]
     exact Y6 ⟨C9 (by decide),k⟩
noncomputable def C8w (CC:Addr):Sp:=fun vs H Q _=>∃c v a b xs ys,∃L pt:Int,vs=[.ref c,.int L,.int pt]/\CtxV CC H c v a b xs ys/\∀l,H l=none ->Q (.ref l) (upd H l (.lst ((A0q v.l L pt).map V.str)))
theorem J9g:FnScope ["context","lead","part"] ["context","lead","part"] (A1 A2v):=scK
theorem G7p{f CC CB CT CW:Addr}{cw:Wy ->Addr}(D:Def K mg "signals_of_lead" ["context","lead","part"] A2v f fd)(C:CtxM P w K mg base CC CB CT CW cw):FnOk P w K mg base (CX1 P w) 1 f fd ["context","lead","part"] (C8w CC):=by
 refine FnOk.up (D.F.ok J9g (fun vs H Q E h=>?_) (fun cdv A outer s H vs Q E hr h=>?_))
 . obtain⟨c,v,a,b,xs,ys,L,pt,rfl,_⟩:=h
   rfl
 . obtain⟨c,v,a,b,xs,ys,L,pt,rfl,hc,k⟩:=h
   refine⟨_,(A7 (J9 (D0 J5r (pv 1) (U7 (pv 0) rfl) (C8 _)) (B3 (C4 (U4 A8))) D4)
     (B3 (C4 (A2s (D0 U0 (pv 2) A3 (C8 _)) (U4 (A0 C5 A8)) (U4 (A0 C5 (A0 C5 A8))))))),?_⟩
   obtain⟨⟨dx,e⟩,_,_⟩:=id hc
   unfold A0q at k
   refine⟨_,rfl,_,rfl,c,CC,dx,_,_,rfl,e,C.c.cl,C.c.n_least,C9n _ _ _ _ _ _,_,_,rfl,rfl,_,rfl,Y3 (fun h=>?_) (fun h=>?_)⟩
   . rw[if_pos h] at k
     exact⟨C9 (by decide),k⟩
   . rw[if_neg h] at k
     refine⟨_,rfl,rfl,_,rfl,Y3 (fun h=>?_) (fun h=>?_)⟩
     . rw[if_pos (by injection h)] at k
       exact⟨C9 (by decide),k⟩
     . rw[if_neg fun q=>h (congrArg V.int q)] at k
       exact⟨C9 (by decide),k⟩
end
noncomputable abbrev A2u:Stmt:=(top 22)
theorem G0a(i:Int):∀(n:Nat) (f p:Int),0<=f ->0<=(Y4 i n f p).1/\(Y4 i n f p).1<=f
 |0,f,p,h=>⟨h,Int.le_refl _⟩
 | n +1,f,p,h=>by
   show 0<=(if f % 10=0 then Y4 i n (f/10) (p+1) else(f,p)).1/\(if f % 10=0 then Y4 i n (f/10) (p+1) else(f,p)).1<=f
   by_cases z:f % 10=0
   . rw[if_pos z]
     have:=G0a i n (f/10) (p+1) (by omega)
     omega
   . rw[if_neg z]
     exact⟨h,Int.le_refl _⟩
theorem U6g{t b u1 v1 u2 v2 d:Nat}(h:t*10^u1<10*(b*10^v1))(e:u2+v1<=u1+v2+d):t*10^u2<10^(d+1)*(b*10^v2):=by
 have p:0<10^v1:=Nat.pow_pos (by decide)
 apply Nat.lt_of_mul_lt_mul_right (a:=10^v1)
 calc t*10^u2*10^v1=t*10^(u2+v1):=by rw[Nat.mul_assoc, <-Nat.pow_add]
   _<=t*10^(u1+v2+d):=Nat.mul_le_mul_left t (Nat.pow_le_pow_right (by decide) e)
   _=t*10^u1*(10^v2*10^d):=by rw[Nat.mul_assoc, <-Nat.pow_add, <-Nat.pow_add,Nat.add_assoc]
   _<10*(b*10^v1)*(10^v2*10^d):=Nat.mul_lt_mul_of_pos_right h (Nat.mul_pos (Nat.pow_pos (by decide)) (Nat.pow_pos (by decide)))
   _=10^(d+1)*(b*10^v2)*10^v1:=by rw[Nat.pow_succ];ac_rfl
theorem J7g{t b s1 s2 r:Int}(ht:Sz t)(hb:Sz b)(h:A7t t b s1)(hr:1<=r)(e:s2<=s1+(r-1)):0<=whI t b s2/\whI t b s2<B0 r:=by
 obtain⟨tn,rfl,_,_⟩:=ht.nat
 obtain⟨bn,rfl,b1,_⟩:=hb.nat
 have lp:0<(bn:Int)*B0 (-s2):=Int.mul_pos (by omega) (J1 _)
 refine⟨Int.ediv_nonneg (Int.mul_nonneg (by omega) (Int.le_of_lt (J1 _))) (Int.le_of_lt lp),?_⟩
 refine Int.ediv_lt_of_lt_mul lp ?_
 have a:tn*10^s1.toNat<10*(bn*10^(-s1).toNat):=Int.ofNat_lt.mp h.2
 have c:=U6g (u2:=s2.toNat) (v2:=(-s2).toNat) (d:=(r-1).toNat) a (by
   have x1:=Int.toNat_sub_toNat_neg s1
   have x2:=Int.toNat_sub_toNat_neg s2
   have x3:=Int.toNat_of_nonneg (show 0<=r-1 by omega)
   clear a lp h
   generalize s1.toNat=A at*
   generalize (-s1).toNat=B at*
   generalize s2.toNat=C at*
   generalize (-s2).toNat=D at*
   generalize (r-1).toNat=E at*
   omega)
 rw[show(r-1).toNat+1=r.toNat by omega] at c
 exact Int.ofNat_lt.mpr c
theorem Y3c{r:Int}(h:r<=24):B0 r<=10^24:=by
 unfold B0
 have:10^r.toNat<=10^24:=Nat.pow_le_pow_right (by decide) (by omega)
 exact Int.ofNat_le.mpr this
theorem G5r{c:Cv}{s wh pt q i:Int}(ok:c.Ok)(h0:0<=wh)(h1:wh<B0 c.r):(Z3 c s wh pt q i).1.natAbs<2^300:=by
 have t:=Y3c ok.r2
 have big:((10^24:Nat):Int)=10^24:=by decide+kernel
 have lt:∀z:Int,0<=z ->z<=10^24 ->z.natAbs<2^300:=fun z a b=>Nat.lt_of_le_of_lt (show z.natAbs<=10^24 by omega) (by decide+kernel)
 unfold Z3
 split
 . have:=G0a i (i-q).toNat wh q h0
   exact lt _ this.1 (by unfold Z4;omega)
 . have hu:0<=upI c.y s wh pt/\upI c.y s wh pt<=B0 c.r:=by
     have e:upI c.y s wh pt=wh+1\/upI c.y s wh pt=wh:=by
       unfold upI
       generalize (if pt=0 then false else c.y.goes s (wh % 10) pt)=g
       cases g with
       |true=>exact .inl rfl
       |false=>exact .inr rfl
     omega
   generalize upI c.y s wh pt=u at hu
   unfold B4p
   split
   . exact lt (u/10) (by omega) (by omega)
   . exact lt u (by omega) (by omega)
section
variable{P:Program}{w:World}{K:Frag}{mg:Str ->Option Value}{base:Heap}
noncomputable def D9y (CC CR:Addr):Sp:=fun vs H Q _=>∃c v a b xs ys x,∃t bo n L:Int,vs=[.ref c,.ref x]/\CtxV CC H c v a b xs ys/\RatAt CR H x t bo n/\Sz t/\Sz bo/\A7t t bo (n-L)/\∀H',Same H H' ->Q (.int (J9c (L-v.r+1) (v.l-v.r+1))) H'
theorem U4j:FnScope ["context","exact"] ["context","exact"] (A1 A3j):=scK
theorem J8q{f CC CB CT CW CR CE g1 g2:Addr}{cw:Wy ->Addr}(D:Def K mg "finest_power" ["context","exact"] A3j f fd)(C:CtxM P w K mg base CC CB CT CW cw)(RM:RatM P w K mg base CR g1 g2 gd1 gd2)(R:RatC K mg CR CE)(O:Own mg):FnOk P w K mg base (CX1 P w) 5 f fd ["context","exact"] (D9y CC CR):=by
 refine FnOk.up (D.F.ok U4j (fun vs H Q E h=>?_) (fun cdv A outer s H vs Q E hr h=>?_))
 . obtain⟨c,v,a,b,xs,ys,x,t,bo,n,L,rfl,_⟩:=h
   rfl
 . obtain⟨c,v,a,b,xs,ys,x,t,bo,n,L,rfl,hc,ra,ht,hb,hL,k⟩:=h
   have hx:G2 (A0b CX0 P w K mg base ["context","exact"] "finest_power" (A1 A3j) f cdv A outer s H E).nox EKF:=Y7
   obtain⟨fL,fdL,mL,gL,bL⟩:=C.low
   refine⟨_,(B3 (C4 (U9 (A0a rfl) (by rfl) O.max_ boot_max (A0 (B7 G8 (B7 U2 (A4z (pv 1) R.cl RM.m1 RM.g1 hr RM.b1 .nil hx) (U7 (pv 0) rfl)) A3) (A0 (A4z (pv 0) C.c.cl mL gL hr bL .nil hx) A8))))),?_⟩
   obtain⟨dr,er⟩:=id ra
   refine⟨_,rfl,x,dr,_,rfl,er,B4j _ _ _,x,t,bo,n,rfl,ra,ht,hb,fun f H1 s1 ld=>?_⟩
   have ef:f=L:=by
     have:=J6s (show 0<bo by have:=hb.1;omega) ld hL
     omega
   subst ef
   have hc1:=hc.same s1
   obtain⟨⟨dx,e⟩,_,_⟩:=id hc1
   exact⟨_,rfl,c,CC,dx,_,_,rfl,e,C.c.cl,C.c.n_room,A8m _ _ _ _ _ _,_,_,rfl,rfl,_,_,rfl,rfl,_,rfl,c,dx,_,rfl,e,C5d _ _ _ _ _ _,c,v.r,v.y,v.l,v.m,a,b,_,_,rfl,hc1,_,_,rfl,k H1 s1⟩
noncomputable def Cv.fin (v:Cv) (L:Int):Int:=J9c (L-v.r+1) (v.l-v.r+1)
noncomputable def J6e (v:Cv) (s t bo n L i:Int):Nm×List Str:=D0m v s (whI t bo (n-v.fin L)) (ptI t bo (n-v.fin L)) L (v.fin L) i
noncomputable def Ends2 (CN CC CT:Addr) (H:Hp) (c:Addr) (v:Cv) (b:Addr) (xs ys:List Str) (res:Nm×List Str) (Q:VK) (E:XK):Prop:=
 (hit ys res.2=none ->∀m a' H',Exc c H H' ->CtxV CC H' c v a' b (V9 (xs++res.2)) ys ->NumIs CN H' m res.1 ->Q (.ref m) H')/\
 (∀z,hit ys res.2=some z ->∀a' d H',Exc c H H' ->CtxV CC H' c v a' b (V9 (xs++res.2)) ys ->H' d=some (.xd [("signal",.str z)]) ->E (.ref CT) (some d) H')
noncomputable def C8q (CN CC CT CR:Addr):Sp:=fun vs H Q E=>∃c v a b xs ys x,∃t bo n L s i:Int,vs=[.ref c,.int s,.ref x,.int i]/\CtxV CC H c v a b xs ys/\v.Ok/\xs.length<=900/\RatAt CR H x t bo n/\Sz t/\Sz bo/\A7t t bo (n-L)/\ -1500<=n-v.fin L/\n-v.fin L<=1500/\0<=s/\s<=1/\
 Ends2 CN CC CT H c v b xs ys (J6e v s t bo n L i) Q E
theorem scSettled:FnScope ["context","sign","exact","ideal","finest","pair","number","names"] ["context","sign","exact","ideal"] (A1 A2u):=scK
theorem J9h:∀z∈(["burst","off","cut"]:List Str),z∈sigS:=by decide+kernel
theorem U6q{pt:Int}{cut:Bool}{l L:Int}:∀z∈A0p pt cut++A0q l L pt,z∈sigS:=by
 have r:∀z∈A0p pt cut,z∈sigS:=by
   unfold A0p
   split
   . split
     . decide+kernel
     . decide+kernel
   . decide+kernel
 have d:∀z∈A0q l L pt,z∈sigS:=by
   unfold A0q
   split
   . decide+kernel
   . split
     . decide+kernel
     . decide+kernel
 intro z hz
 rcases List.mem_append.mp hz with h|h
 . exact r z h
 . exact d z h
theorem U7u{pt:Int}{cut:Bool}{l L:Int}:(A0p pt cut++A0q l L pt).length<=4:=by
 have r:(A0p pt cut).length<=2:=by
   unfold A0p
   split
   . split<;>decide
   . decide
 have d:(A0q l L pt).length<=2:=by
   unfold A0q
   split
   . decide
   . split<;>decide
 rw[List.length_append]
 omega
theorem G5h{f f1 f2 f3 f4 f5 f6 f7 f8 CN CC CB CT CW CR CE g1 g2:Addr}{cw:Wy ->Addr}(D:Def K mg "settled" ["context","sign","exact","ideal"] A2u f fd)
   (dA:Def K mg "finest_power" ["context","exact"] A3j f1 fd1) (dB:FnOk P w K mg base (CX1 P w) 5 f1 fd1 ["context","exact"] (D9y CC CR)) (dC:Def K mg "nearest_to" ["ideal","sign","figures","power"] A1f f2 fd2) (dD:FnOk P w K mg base (CX1 P w) 3 f2 fd2 ["ideal","sign","figures","power"] (C9j CN))
   (dE:Def K mg "neighbour" ["context","sign","pair"] Z0 f3 fd3) (dF:FnOk P w K mg base (CX1 P w) 3 f3 fd3 ["context","sign","pair"] (B9c CC)) (dG:Def K mg "within_room" ["context","sign","figures","power"] A3g f4 fd4) (dH:FnOk P w K mg base (CX1 P w) 3 f4 fd4 ["context","sign","figures","power"] (G0p CN CC))
   (dJ:Def K mg "is_beyond" ["context","number"] A3m f5 fd5) (dL:FnOk P w K mg base (CX1 P w) 2 f5 fd5 ["context","number"] (G0j CN CC)) (dM:Def K mg "burst" ["context","sign"] A7w f6 fd6) (dN:FnOk P w K mg base (CX1 P w) 4 f6 fd6 ["context","sign"] (J6a CN CC))
   (dP:Def K mg "signals_of_rest" ["part","is_cut"] A2w f7 fd7) (dQ:FnOk P w K mg base (CX1 P w) 1 f7 fd7 ["part","is_cut"] C9h) (dS:Def K mg "signals_of_lead" ["context","lead","part"] A2v f8 fd8) (dU:FnOk P w K mg base (CX1 P w) 1 f8 fd8 ["context","lead","part"] (C8w CC))
   (C:CtxM P w K mg base CC CB CT CW cw) (RM:RatM P w K mg base CR g1 g2 gd1 gd2) (R:RatC K mg CR CE) (N:Num K mg CN):FnOk P w K mg base (CX1 P w) 6 f fd ["context","sign","exact","ideal"] (C8q CN CC CT CR):=by
 refine D.F.okE scSettled (fun vs H Q E h=>?_) (fun X cdv A outer s H vs Q E hX hr hx h=>?_)
 . obtain⟨c,v,a,b,xs,ys,x,t,bo,n,L,sg,i,rfl,_⟩:=h
   rfl
 . subst hX
   obtain⟨c,v,a,b,xs,ys,x,t,bo,n,L,sg,i,rfl,hc,ok,lx,ra,ht,hb,hL,q0,q1,s0,s1,k⟩:=h
   obtain⟨fR,fdR,mR,gR,bR⟩:=C.raised
   refine⟨_,(A7 (C7 (D3 (i:=4) scSettled.nd rfl (Or.inl rfl) (G0 dA dB hr hx (A0 (pv 0) (A0 (pv 2) A8)))))
     (A7 (C7 (D3 (i:=5) scSettled.nd rfl (Or.inl rfl) (C1y (pv 2) R.cl RM.m2 RM.g2 hr RM.b2 .nil hx (A0 (pv 4) A8))))
     (A7 (C7 (J9 (D0 U0 (U5 V1 (pv 5) A3 (fun _ _=>rfl)) A3 (C8 _)) (B3 (D3 (i:=6) scSettled.nd rfl (Or.inl rfl) (G0 dC dD hr hx (A0 (pv 3) (A0 (pv 1) (A0 (U5 V1 (pv 5) A3 (fun _ _=>rfl)) (A0 (pv 4) A8))))))) (B3 (D3 (i:=6) scSettled.nd rfl (Or.inl rfl) (G0 dG dH hr hx (A0 (pv 0) (A0 (pv 1) (A0 (G0 dE dF hr hx (A0 (pv 0) (A0 (pv 1) (A0 (pv 5) A8)))) (A0 (pv 4) A8)))))))))
     (A7 (C7 (J9 (Y0 (G0 dJ dL hr hx (A0 (pv 0) (A0 (pv 6) A8)))) (A7 (A1b (C1y (pv 0) C.c.cl mR gR hr bR .nil hx (A0 (U4 (A0 C5 (A0 C5 (A0 C5 A8)))) A8)))
     (B3 (C4 (G0 dM dN hr hx (A0 (pv 0) (A0 (pv 1) A8)))))) D4))
     (A7 (C7 (D3 (i:=7) scSettled.nd rfl (Or.inl rfl) (G0 dP dQ hr hx (A0 (U5 V1 (pv 5) A3 (fun _ _=>rfl)) (A0 (G3 C2b (U7 (pv 6) rfl) (pv 3) (C8 _)) A8)))))
     (A7 (C7 (A1b (C1y (pv 0) C.c.cl mR gR hr bR .nil hx (A0 (B7 C0v (pv 7) (G0 dS dU hr hx (A0 (pv 0) (A0 (A4z (pv 2) R.cl RM.m1 RM.g1 hr RM.b1 .nil hx) (A0 (U5 V1 (pv 5) A3 (fun _ _=>rfl)) A8))))) A8))))
     (B3 (C4 (pv 6))))))))),?_⟩
   have b0:0<bo:=by have:=hb.1;omega
   have wr:=J7g (s2:=n-v.fin L) ht hb hL ok.r1 (by
     unfold Cv.fin J9c
     split<;>omega)
   unfold J6e D0m at k
   refine⟨fun σ' H'=>Same H H'/\σ'=[some (.ref c),some (.int sg),some (.ref x),some (.int i),some (.int (v.fin L)),none,none,none],?_,?_⟩
   . exact⟨_,rfl,_,rfl,c,v,a,b,xs,ys,x,t,bo,n,L,rfl,hc,ra,ht,hb,hL,fun H' s'=>⟨s',rfl⟩⟩
   rintro σ' H1 ⟨t1,rfl⟩
   have hc1:=hc.same t1
   have ra1:=ra.same t1
   generalize v.fin L=q at*
   generalize hwh:whI t bo (n-q)=wh at*
   generalize hpt:ptI t bo (n-q)=pt at*
   refine⟨fun σ' H'=>∃p,Same H1 H'/\H' p=some (.tup [.int wh,.int pt])/\σ'=[some (.ref c),some (.int sg),some (.ref x),some (.int i),some (.int q),some (.ref p),none,none],?_,?_⟩
   . obtain⟨dr,er⟩:=id ra1
     refine⟨_,rfl,x,dr,_,rfl,er,C9c _ _ _,_,rfl,x,t,bo,n,q,rfl,ra1,ht,hb,q0,q1,fun p H' s' np ep=>⟨p,s',?_,rfl⟩⟩
     rw[hwh,hpt] at ep
     exact ep
   rintro σ' H2 ⟨p,t2,hp,rfl⟩
   have hc2:=hc1.same t2
   have sm:=G5r (s:=sg) (pt:=pt) (q:=q) (i:=i) ok wr.1 wr.2
   refine⟨fun σ' H'=>∃m,Same H2 H'/\H2 m=none/\NumIs CN H' m ⟨.plain,sg,(Z3 v sg wh pt q i).1,(Z3 v sg wh pt q i).2⟩/\σ'=[some (.ref c),some (.int sg),some (.ref x),some (.int i),some (.int q),some (.ref p),some (.ref m),none],?_,?_⟩
   . refine⟨_,rfl,p,_,_,_,rfl,rfl,SqT.of hp,D7 (j:=1) rfl,rfl,_,rfl,Y3 (fun h=>?_) (fun h=>?_)⟩
     . have h:pt=0:=by injection h
       refine⟨_,rfl,_,rfl,_,rfl,p,_,_,_,rfl,rfl,SqT.of hp,D7 (j:=0) rfl,_,rfl,i,sg,wh,q,rfl,fun m H' nm s' num=>⟨m,s',nm,?_,rfl⟩⟩
       unfold Z3
       rw[if_pos h]
       exact num
     . have h:¬pt=0:=fun z=>h (congrArg V.int z)
       refine⟨_,rfl,_,rfl,_,rfl,_,rfl,_,rfl,c,v,a,b,xs,ys,p,sg,wh,pt,rfl,hc2,hp,fun H3 s3=>?_⟩
       refine⟨_,rfl,c,v,a,b,xs,ys,sg,_,q,rfl,hc2.same s3,ok,fun m H' nm s' num=>⟨m,s3.trans s',s3.free nm,?_,rfl⟩⟩
       unfold Z3
       rw[if_neg h]
       exact num
   rintro σ' H3 ⟨m,t3,nm,num,rfl⟩
   have hc3:=hc2.same t3
   have tA:=(t1.trans t2).trans t3
   have nmc:m≠c:=fun z=>by
     obtain⟨⟨dx,e⟩,_,_⟩:=hc2
     rw[z,e] at nm
     cases nm
   obtain⟨⟨dx,e3⟩,_,_⟩:=id hc3
   generalize hf:(Z3 v sg wh pt q i).1=fg at*
   generalize hg:(Z3 v sg wh pt q i).2=pw at*
   refine⟨fun σ' H'=>H'=H3/\A1x v.m fg pw=false/\σ'=[some (.ref c),some (.int sg),some (.ref x),some (.int i),some (.int q),some (.ref p),some (.ref m),none],?_,?_⟩
   . refine⟨_,rfl,_,rfl,c,v,a,b,xs,ys,m,_,rfl,hc3,num,sm,_,rfl,?_⟩
     cases e:A1x v.m fg pw with
     |false=>exact U1 ⟨rfl,rfl,rfl⟩
     | true=>
       rw[e,if_pos rfl] at k
       refine Y6 ⟨_,rfl,c,dx,_,rfl,e3,B2d _ _ _ _ _ _,C9 (by decide),fun l nl=>?_⟩
       have u:=Same.upd (o:= .lst [.str "burst",.str "off",.str "cut"]) nl
       refine⟨c,v.r,v.y,v.l,v.m,a,b,xs,ys,.ref l,rfl,hc3.same u,by omega,.inl ⟨l,["burst","off","cut"],rfl,A6,by decide,J9h,fun hn a' H4 x4 na ct=>?_,fun z hz a' d H4 x4 na ct nd ed=>?_⟩⟩
       . refine⟨_,rfl,_,rfl,c,v,a',b,_,ys,sg,rfl,ct,ok,s0,s1,fun m' H5 s5 num5=>k.1 hn m' a' H5 (((Exc.of (tA.trans u)).trans x4).trans (.of s5)) (CtxV.same ct s5) num5⟩
       . exact k.2 z hz a' d H4 ((Exc.of (tA.trans u)).trans x4) ct ed
   rintro σ' H4 ⟨rfl,e,rfl⟩
   rw[e,if_neg Bool.false_ne_true] at k
   refine⟨fun σ' H'=>∃l,Same H4 H'/\H' l=some (.lst ((A0p pt (decide (pw>i))).map V.str))/\σ'=[some (.ref c),some (.int sg),some (.ref x),some (.int i),some (.int q),some (.ref p),some (.ref m),some (.ref l)],?_,?_⟩
   . obtain⟨dn,en⟩:=id num
     exact⟨_,rfl,p,_,_,_,rfl,rfl,SqT.of (t3 _ _ hp),D7 (j:=1) rfl,_,rfl,m,CN,dn,_,_,rfl,en,N.cl,N.n4,Y9a _ _ _ _,_,rfl,_,_,rfl,rfl,pt,_,rfl,fun l nl=>⟨l,Same.upd nl,A6,rfl⟩⟩
   rintro σ' H5 ⟨l,t5,hl,rfl⟩
   refine⟨fun σ' H'=>hit ys (A0p pt (decide (pw>i))++A0q v.l L pt)=none/\∃a',Exc c H H'/\CtxV CC H' c v a' b (V9 (xs++(A0p pt (decide (pw>i))++A0q v.l L pt))) ys/\NumIs CN H' m ⟨.plain,sg,fg,pw⟩/\σ'=[some (.ref c),some (.int sg),some (.ref x),some (.int i),some (.int q),some (.ref p),some (.ref m),some (.ref l)],?_,?_⟩
   . have ra5:=((ra1.same t2).same t3).same t5
     obtain⟨dr,er⟩:=id ra5
     have hc5:=hc3.same t5
     refine⟨_,rfl,c,dx,_,rfl,t5 _ _ e3,B2d _ _ _ _ _ _,_,rfl,_,rfl,_,rfl,x,dr,_,rfl,er,B4j _ _ _,x,t,bo,n,rfl,ra5,ht,hb,fun f H6 t6 ld=>?_⟩
     have ef:f=L:=by
       have:=J6s b0 ld hL
       omega
     subst ef
     refine⟨_,rfl,p,_,_,_,rfl,rfl,SqT.of ((t5.trans t6) _ _ (t3 _ _ hp)),D7 (j:=1) rfl,c,v,a,b,xs,ys,f,pt,rfl,hc5.same t6,fun l2 nl2=>?_⟩
     have u2:=Same.upd (o:= .lst ((A0q v.l f pt).map V.str)) nl2
     have rl:=U7u (pt:=pt) (cut:=decide (pw>i)) (l:=v.l) (L:=f)
     rw[List.length_append] at rl
     refine⟨l,l2,_,_,rfl,rfl,(t6.trans u2) _ _ hl,A6,C9 (by rw[List.length_map,List.length_map];omega),fun l3 nl3=>?_⟩
     have u3:=Same.upd (o:= .lst ((A0p pt (decide (pw>i))).map V.str++(A0q v.l f pt).map V.str)) nl3
     have tB:=(t6.trans u2).trans u3
     have num7:=(num.same t5).same tB
     obtain⟨dn7,en7⟩:=id num7
     have keep:∀{H':Hp},Exc c _ H' ->NumIs CN H' m ⟨.plain,sg,fg,pw⟩:=fun x7=>⟨dn7,x7 _ _ en7 nmc⟩
     refine⟨c,v.r,v.y,v.l,v.m,a,b,xs,ys,.ref l3,rfl,(hc5.same tB),by omega,.inl ⟨l3,A0p pt (decide (pw>i))++A0q v.l f pt,rfl,by rw[A6,List.map_append],by rw[List.length_append];omega,U6q,fun hn a' H8 x8 na ct=>?_,fun z hz a' d H8 x8 na ct nd ed=>?_⟩⟩
     . exact⟨hn,a',(Exc.of (tA.trans (t5.trans tB))).trans x8,ct,keep x8,rfl⟩
     . exact k.2 z hz a' d H8 ((Exc.of (tA.trans (t5.trans tB))).trans x8) ct ed
   rintro σ' H6 ⟨hn,a',x6,ct,num6,rfl⟩
   exact⟨_,rfl,k.1 hn m a' H6 x6 ct num6⟩
end
section
variable{P:Program}{w:World}{K:Frag}{mg:Str ->Option Value}{base:Heap}
end
noncomputable def G6p (t s wh:Int):Prop:=0<=wh/\wh*wh*B0 (-s)<=t*B0 s/\t*B0 s<(wh+1)*(wh+1)*B0 (-s)
noncomputable def Z4j (t s wh:Int):Int:=if wh*wh*B0 (-s)=t*B0 s then 0 else 1+(if decide ((2*wh+1)*(2*wh+1)*B0 (-s)<=4*(t*B0 s))=true then 1 else 0)+(if decide ((2*wh+1)*(2*wh+1)*B0 (-s)<4*(t*B0 s))=true then 1 else 0)
theorem G5m{s:Int}(h:s<=0):B0 s=1:=by unfold B0;rw[show s.toNat=0 by omega];rfl
section
variable{P:Program}{w:World}{K:Frag}{mg:Str ->Option Value}{base:Heap}
end
section
variable{P:Program}{w:World}{K:Frag}{mg:Str ->Option Value}{base:Heap}
end
section
variable{P:Program}{w:World}{K:Frag}{mg:Str ->Option Value}{base:Heap}
end
theorem J5p:∀n:Nat,∃r:Nat,r*r<=n/\n<(r+1)*(r+1)
 |0=>⟨0,by decide,by decide⟩
 | n + 1=>by
   obtain⟨r,h1,h2⟩:=J5p n
   by_cases h:n+1<(r+1)*(r+1)
   . exact⟨r,by omega,h⟩
   . refine⟨r+1,by omega,?_⟩
     have:(r+1+1)*(r+1+1)=(r+1)*(r+1)+2*(r+1)+1:=by
       simp only[Nat.add_mul,Nat.mul_add]
       omega
     omega
theorem Y0h{t s:Int}(ht:1<=t):∃w,G6p t s w:=by
 obtain⟨hi,ehi⟩:=Int.eq_ofNat_of_zero_le (Int.le_of_lt (Int.mul_pos (show 0<t by omega) (J1 s)))
 obtain⟨lo,elo⟩:=Int.eq_ofNat_of_zero_le (Int.le_of_lt (J1 (-s)))
 have lo0:0<lo:=by have:=J1 (-s);omega
 obtain⟨r,r1,r2⟩:=J5p (hi/lo)
 refine⟨r,by omega,?_,?_⟩
 . rw[ehi,elo]
   exact Int.ofNat_le.mpr ((Nat.le_div_iff_mul_le lo0).mp r1)
 . rw[ehi,elo]
   exact Int.ofNat_lt.mpr ((Nat.div_lt_iff_lt_mul lo0).mp r2)
noncomputable def whQ (t s:Int):Int:=by
 classical exact if h:∃w,G6p t s w then Classical.choose h else 0
theorem U4p{t s:Int}(ht:1<=t):G6p t s (whQ t s):=by
 have h:=Y0h (s:=s) ht
 unfold whQ
 rw[dif_pos h]
 exact Classical.choose_spec h
section
variable{P:Program}{w:World}{K:Frag}{mg:Str ->Option Value}{base:Heap}
end
section
variable{P:Program}{w:World}{K:Frag}{mg:Str ->Option Value}{base:Heap}
end
section
variable{P:Program}{w:World}{K:Frag}{mg:Str ->Option Value}{base:Heap}
theorem Y8g{f:Int}(h0:0<=f)(h:f≠0)(h1:f<=10^60-1):Sz f:=by
 refine⟨by omega,?_⟩
 have:B0 60<=B0 1000:=U8 (by decide)
 have e:B0 60=10^60:=by decide+kernel
 omega
end
theorem Ends2.same{CN CC CT:Addr}{H H1:Hp}{c:Addr}{v:Cv}{b:Addr}{xs ys:List Str}{res:Nm×List Str}{Q:VK}{E:XK}(k:Ends2 CN CC CT H c v b xs ys res Q E)(s:Same H H1):Ends2 CN CC CT H1 c v b xs ys res Q E:=
 ⟨fun hn m a' H' x=>k.1 hn m a' H' ((Exc.of s).trans x),fun z hz a' d H' x=>k.2 z hz a' d H' ((Exc.of s).trans x)⟩
theorem D0s(n:Nat)(h:1<=n):∃L:Nat,10^L<=n/\n<10^(L+1):=by
 induction n using Nat.strongRecOn with
 | ind n ih=>
   by_cases h10:n<10
   . exact⟨0,by simpa using h,by simpa using h10⟩
   . obtain⟨L,a,b⟩:=ih (n/10) (by omega) (by omega)
     refine⟨L+1,?_,?_⟩
     . rw[Nat.pow_succ];omega
     . rw[Nat.pow_succ];omega
theorem D1p{n j:Nat}(h1:n<10^(j+1))(h2:10^j<=n):G9 (n:Int)=(j:Int)+1:=by
 unfold G9
 have e:(Str.ofString (toString (n:Int))).length=(Nat.toDigits 10 n).length:=by
   have:=congrArg List.length (KIN.signs_num n)
   rw[List.length_map] at this
   rw[<-this];rfl
 rw[e]
 have a:(Nat.toDigits 10 n).length<=j+1:=digits10_le (by omega) h1
 have b:j+1<=(Nat.toDigits 10 n).length:=digits10_ge h2
 omega
noncomputable def SzL (t:Int):Prop:=1<=t/\t<B0 500
theorem SzL.nat{t:Int}(h:SzL t):∃n:Nat,t=(n:Int)/\1<=n/\n<10^500:=by
 obtain⟨n,rfl⟩:=Int.eq_ofNat_of_zero_le (show 0<=t by have:=h.1;omega)
 exact⟨n,rfl,Int.ofNat_le.mp h.1,Int.ofNat_lt.mp h.2⟩
theorem SzL.sz{t:Int}(h:SzL t):Sz t:=⟨h.1,Int.lt_of_lt_of_le h.2 (U8 (by decide))⟩
theorem SzL.log{t:Int}(h:SzL t):t.natAbs.log2<1920:=by
 obtain⟨n,rfl,_,hn⟩:=h.nat
 have:n<2^1670:=Nat.lt_of_lt_of_le (Nat.lt_of_lt_of_le hn (Nat.pow_le_pow_right (by decide) (by decide:500<=3*167))) (G1x 167)
 exact Nat.lt_trans (A3b (i:=(n:Int)) (k:=1670) (by rw[Int.natAbs_natCast];exact this) (by decide)) (by decide)
section
variable{P:Program}{w:World}{K:Frag}{mg:Str ->Option Value}{base:Heap}
end
section
variable{P:Program}{w:World}{K:Frag}{mg:Str ->Option Value}{base:Heap}
noncomputable abbrev A2h:Stmt:=(D8 (top 45) 4)
noncomputable def B2r (CC:Addr):Sp:=fun vs H Q _=>∃c r y l m a b xs ys,vs=[.ref c]/\CtxAt CC H c r y l m a b xs ys/\∀a' H',Exc c H H' ->H a'=none ->CtxAt CC H' c r y l m a' b [] ys ->Q .non H'
theorem G7e:FnScope ["self"] ["self"] (A1 A2h):=scK
theorem G0t{f CC:Addr}(F:Fun K "clear" "Context.clear" A2h f fd)(C:CtxC K mg CC):FnOk P w K mg base (CX1 P w) 1 f fd ["self"] (B2r CC):=by
 refine FnOk.up (F.ok G7e (fun vs H Q E h=>?_) (fun cdv A outer s H vs Q E hr h=>?_))
 . obtain⟨c,r,y,l,m,a,b,xs,ys,rfl,_⟩:=h
   rfl
 . obtain⟨c,r,y,l,m,a,b,xs,ys,rfl,⟨⟨dx,e⟩,ha,hb⟩,k⟩:=h
   refine⟨_,(B3 (Z5 (pv 0) (U4 A8) rfl)),?_⟩
   refine⟨Nat.zero_le _,fun p np=>?_⟩
   have u:=Same.upd (o:= .lst []) np
   refine⟨_,rfl,c,CC,dx,_,rfl,u _ _ e,C.cl,C.n_risen,by rw[C0e];decide,?_⟩
   rw[C0n]
   have nac:p≠c:=Ne.symm (D5 e np)
   have nbc:b≠c:=U6 hb e (by intro z;cases z)
   exact k p _ ((Exc.of u).trans Exc.upd) np ⟨⟨dx,A6⟩,by rw[C6 nac];exact A6,by rw[C6 nbc];exact u _ _ hb⟩
end
noncomputable abbrev C0d:Stmt:=(top 50)
section
variable{P:Program}{w:World}{K:Frag}{mg:Str ->Option Value}{base:Heap}
noncomputable def U5m (K:Frag):Sp:=fun vs H Q _=>∃a ns k,vs=[.ref a,.int k]/\SqL K H a ((ns:List Int).map V.int)/\0<=k/\∀i,Q (.int i) H
theorem Y8p:FnScope ["_law_script","_law_k"] ["_law_script","_law_k"] (A1 C0d):=scK
theorem Y2d(D:Def K mg "_law_cell_at" ["_law_script","_law_k"] C0d f fd)(O:Own mg):FnOk P w K mg base (CX1 P w) 1 f fd ["_law_script","_law_k"] (U5m K):=by
 refine FnOk.up (D.F.ok Y8p (fun vs H Q E h=>?_) (fun cdv A outer s H vs Q E hr h=>?_))
 . obtain⟨a,ns,k,rfl,_⟩:=h
   rfl
 . obtain⟨a,ns,i,rfl,hs,h0,k⟩:=h
   refine⟨_,(A7 (J9 (D0 C0c (pv 1) (U9 D1n (by rfl) O.len_ PySem.boot_len (A0 (pv 0) A8)) (C8 _)) (B3 (C4 (U5 A1d (pv 0) (pv 1) (fun _ _=>rfl)))) D4)
     (B3 (C4 A3))),?_⟩
   refine⟨_,rfl,_,rfl,a,_,rfl,.inl hs,_,_,rfl,rfl,_,rfl,?_⟩
   refine Y3 (fun hlt=>?_) (fun _=>k 0)
   rw[List.length_map] at hlt
   obtain⟨j,rfl⟩:=Int.eq_ofNat_of_zero_le h0
   have hj:j<ns.length:=by omega
   exact⟨_,rfl,_,rfl,a,_,_,_,rfl,rfl,hs,D7 (v:=V.int ns[j]) (by simp[hj]),k _⟩
end
noncomputable abbrev A4u:Stmt:=(top 51)
section
variable{P:Program}{w:World}{K:Frag}{mg:Str ->Option Value}{base:Heap}
noncomputable def B9t:Sp:=fun vs H Q _=>∃c k,vs=[.int c,.int k]/\0<=k/\k<=100/\∀m,0<=m ->m<2147483629 ->Q (.int m) H
theorem Y1h:FnScope ["_law_cell","_law_k"] ["_law_cell","_law_k"] (A1 A4u):=scK
theorem U7v(D:Def K mg "_law_mixed" ["_law_cell","_law_k"] A4u f fd):FnOk P w K mg base (CX1 P w) 1 f fd ["_law_cell","_law_k"] B9t:=by
 refine FnOk.up (D.F.ok Y1h (fun vs H Q E h=>?_) (fun cdv A outer s H vs Q E hr h=>?_))
 . obtain⟨c,k,rfl,_⟩:=h
   rfl
 . obtain⟨c,i,rfl,h0,h1,k⟩:=h
   refine⟨_,(B3 (C4 (B7 G5 (B7 G7 (B7 G5 (B7 G8 (B7 G8 (B7 G7 (pv 0) (B7 G8 A3 (B7 G7 (B7 G7 A3 (pv 1)) (pv 1)))) (B7 G7 A3 (pv 1))) A3) A3) A3) A3))),?_⟩
   have q0:(0:Int)<=2*i*i:=Int.mul_nonneg (by omega) h0
   have q1:2*i*i<=200*100:=Int.mul_le_mul (by omega) h1 h0 (by decide)
   have m1:IntMulOk 2 i:=CMul.ok (.inl ⟨by decide,by decide⟩)
   have m2:IntMulOk (2*i) i:=CMul.ok (.inr ⟨by omega,by omega⟩)
   have m3:IntMulOk c (48271+2*i*i):=CMul.ok (.inr ⟨by omega,by omega⟩)
   have m4:IntMulOk 69621 i:=CMul.ok (.inl ⟨by decide,by decide⟩)
   have m5:∀z:Int,IntMulOk z 69621:=fun z=>CMul.ok (.inr ⟨by decide,by decide⟩)
   refine⟨_,rfl,_,rfl,_,_,rfl,rfl,m1,_,rfl,_,_,rfl,rfl,m2,_,_,rfl,rfl,_,_,rfl,rfl,m3,_,rfl,_,_,rfl,rfl,m4,_,_,rfl,rfl,_,_,rfl,rfl,_,_,rfl,rfl,(by show(0:Int)<2147483647;decide),_,_,rfl,rfl,m5 _,_,_,rfl,rfl,(by show(0:Int)<2147483629;decide),?_⟩
   exact k _ (Int.emod_nonneg _ (by decide)) (Int.emod_lt_of_pos _ (by decide))
end
noncomputable abbrev B9f:Stmt:=(top 56)
section
variable{P:Program}{w:World}{K:Frag}{mg:Str ->Option Value}{base:Heap}
noncomputable def G6g:Sp:=fun vs H Q _=>∃n:Nat,vs=[.int (n:Int)]/\n<=600/\Q (.int ((10^n:Nat):Int)) H
theorem Y8b:FnScope ["_law_count"] ["_law_count"] (A1 B9f):=scK
theorem Y1r(D:Def K mg "_law_ten" ["_law_count"] B9f f fd)(O:Own mg):FnOk P w K mg base (CX1 P w) 1 f fd ["_law_count"] G6g:=by
 refine FnOk.up (D.F.ok Y8b (fun vs H Q E h=>?_) (fun cdv A outer s H vs Q E hr h=>?_))
 . obtain⟨n,rfl,_⟩:=h
   rfl
 . obtain⟨n,rfl,hn,k⟩:=h
   refine⟨_,(B3 (C4 (J0 C5j (by rfl) O.int_ boot_int (A0 (B7 G6w C5 (B7 G7b C5 (pv 0))) A8)))),?_⟩
   have l1:("1":Str).length=1:=by decide+kernel
   have l0:("0":Str).length=1:=by decide+kernel
   refine⟨_,rfl,_,_,rfl,rfl,by omega,by omega,C9 (by rw[l0];omega),_,_,rfl,rfl,C9 (by rw[C1e,l0,l1];omega),?_⟩
   exact⟨J9k n,_,rfl,U6y n hn,by rw[G1q];omega,k⟩
end
noncomputable abbrev B2v:Stmt:=(top 54)
noncomputable abbrev A5e:Stmt:=(top 55)
theorem G6b(n:Nat):∃j:Nat,(Nat.toDigits 10 n).length=j+1/\(Nat.toDigits 10 n)[j]?=some (Nat.digitChar (n % 10)):=by
 by_cases h:n<10
 . rw[Nat.toDigits_of_lt_base h]
   exact⟨0,rfl,by rw[Nat.mod_eq_of_lt h];rfl⟩
 . rw[Nat.toDigits_of_base_le (by decide) (by omega)]
   exact⟨(Nat.toDigits 10 (n/10)).length,by simp,by simp⟩
theorem J6z(n:Nat):atI (Str.ofString (toString (n:Int))).cps.toList (-1)=some (Nat.digitChar (n % 10)).toNat:=by
 obtain⟨j,hl,hj⟩:=G6b n
 rw[KIN.signs_num]
 unfold atI ixN
 rw[List.length_map,hl,if_neg (by decide),if_pos (by omega)]
 show((Nat.toDigits 10 n).map Char.toNat)[((-1:Int)+((j+1:Nat):Int)).toNat]?=_
 rw[show((-1:Int)+((j+1:Nat):Int)).toNat=j by omega,List.getElem?_map,hj]
 rfl
theorem Z9d(d:Nat)(h:d<10):(!(Builtin.Str.occurrences ("05":Str) ⟨#[(Nat.digitChar d).toNat]⟩ 0 ("05":Str).length 1).isEmpty)=(d==0||d==5):=by
 rcases(by omega:d=0\/d=1\/d=2\/d=3\/d=4\/d=5\/d=6\/d=7\/d=8\/d=9) with rfl|rfl|rfl|rfl|rfl|rfl|rfl|rfl|rfl|rfl<;>decide+kernel
section
variable{P:Program}{w:World}{K:Frag}{mg:Str ->Option Value}{base:Heap}
noncomputable def Wy.code:Wy ->Nat
 | .down=>0
 | .up=>1
 | .floor=>2
 | .ceiling=>3
 | .halfUp=>4
 | .halfDown=>5
 | .halfEven=>6
 | .fiveUp=>7
theorem nW{y z:Wy}(h:y.code≠z.code):¬V.str y.name=V.str z.name:=fun q=>h (by rw[Wy.inj (V.str.inj q)])
theorem eqI(a b:Int):eqV (.int a) (.int b)=decide (b=a):=by
 show(a==b)=_
 by_cases h:a=b
 . subst h;simp
 . rw[decide_eq_false (Ne.symm h)];simpa using h
noncomputable def J5t:Sp:=fun vs H Q _=>∃(y:Wy) (s t:Int) (n:Nat),vs=[.str y.name,.int s,.int (n:Int),.int t]/\n<2^300/\1<=t/\t<=3/\∀H',Same H H' ->Q (.bl (y.goes s ((n:Int) % 10) t)) H'
theorem Y0w:FnScope ["_law_name","_law_sign","_law_near","_law_part"] ["_law_name","_law_sign","_law_near","_law_part"] (A1 B2v):=scK
theorem U5a(D:Def K mg "_law_goes_up" ["_law_name","_law_sign","_law_near","_law_part"] B2v f fd)(O:Own mg):FnOk P w K mg base (CX1 P w) 1 f fd ["_law_name","_law_sign","_law_near","_law_part"] J5t:=by
 refine FnOk.up (D.F.ok Y0w (fun vs H Q E h=>?_) (fun cdv A outer s H vs Q E hr h=>?_))
 . obtain⟨y,z,t,n,rfl,_⟩:=h
   rfl
 . obtain⟨y,z,t,n,rfl,hn,t1,t3,k⟩:=h
   refine⟨_,(A7 (J9 (D0 A4g (pv 0) (Y9 (A0 C5 (A0 C5 A8))) (by rfl)) (B3 (C4 (G3 U0 (pv 0) C5 (C8 _)))) D4)
     (A7 (J9 (D0 U0 (pv 0) C5 (C8 _)) (B3 (C4 (G3 U0 (pv 1) A3 (C8 _)))) D4)
     (A7 (J9 (D0 U0 (pv 0) C5 (C8 _)) (B3 (C4 (G3 U0 (pv 1) A3 (C8 _)))) D4)
     (A7 (J9 (D0 U0 (pv 0) C5 (C8 _)) (B3 (C4 (G3 J8u (U5 U7a (J0 V5 (by rfl) O.str_ boot_str (A0 (pv 2) A8)) (G0r C0k A3) (fun _ _=>rfl)) C5 (by rfl)))) D4)
     (A7 (J9 (D0 J5v (pv 3) A3 (C8 _)) (B3 (C4 (G3 U0 (pv 3) A3 (C8 _)))) D4)
     (B3 (C4 (U4e (G3 U0 (pv 0) C5 (C8 _)) (A2r (B2x (G3 U0 (pv 0) C5 (C8 _)) (A2r (G3 U0 (B7 G5 (pv 2) A3) A3 (C8 _))))))))))))),?_⟩
   have z2:2<=sizeLine:=C9 (by decide)
   refine⟨_,rfl,z2,fun p np=>⟨p,_,rfl,.inr (SqT.of A6),rfl,rfl,_,rfl,?_⟩⟩
   have u:=Same.upd (o:= .tup [.str "down",.str "up"]) np
   have k:=k _ u
   generalize upd H p (.tup [.str "down",.str "up"])=H1 at u k
   have rest:∀b:Bool,y.goes z ((n:Int) % 10) t=b ->Q (.bl b) H1:=fun b e=>by rw[<-e];exact k
   cases y with
   | down=>
     show if(inV (.str (Wy.name .down)) [.str "down",.str "up"])=true then _ else _
     rw[show inV (.str (Wy.name .down)) [.str "down",.str "up"]=true by decide+kernel]
     exact Y6 ⟨_,rfl,rfl,k⟩
   | up=>
     show if(inV (.str (Wy.name .up)) [.str "down",.str "up"])=true then _ else _
     rw[show inV (.str (Wy.name .up)) [.str "down",.str "up"]=true by decide+kernel]
     exact Y6 ⟨_,rfl,rfl,k⟩
   | floor=>
     show if(inV (.str (Wy.name .floor)) [.str "down",.str "up"])=true then _ else _
     rw[show inV (.str (Wy.name .floor)) [.str "down",.str "up"]=false by decide+kernel]
     exact U1 ⟨_,rfl,rfl,_,rfl,A1w rfl ⟨_,rfl,rfl,k⟩⟩
   | ceiling=>
     show if(inV (.str (Wy.name .ceiling)) [.str "down",.str "up"])=true then _ else _
     rw[show inV (.str (Wy.name .ceiling)) [.str "down",.str "up"]=false by decide+kernel]
     exact U1 ⟨_,rfl,rfl,_,rfl,V3 (nW (y:= .ceiling) (z:= .floor) (by decide)) ⟨_,rfl,rfl,_,rfl,A1w rfl ⟨_,rfl,rfl,k⟩⟩⟩
   | halfUp=>
     show if(inV (.str (Wy.name .halfUp)) [.str "down",.str "up"])=true then _ else _
     rw[show inV (.str (Wy.name .halfUp)) [.str "down",.str "up"]=false by decide+kernel]
     refine U1 ⟨_,rfl,rfl,_,rfl,V3 (nW (y:= .halfUp) (z:= .floor) (by decide)) ⟨_,rfl,rfl,_,rfl,V3 (nW (y:= .halfUp) (z:= .ceiling) (by decide)) ⟨_,rfl,rfl,_,rfl,V3 (nW (y:= .halfUp) (z:= .fiveUp) (by decide)) ⟨_,rfl,rfl,_,rfl,?_⟩⟩⟩⟩
     by_cases e:t=2
     . rw[decide_eq_true (congrArg V.int e)]
       exact U1 ⟨_,rfl,rfl,_,rfl,A1w rfl (rest _ (by subst e;rfl))⟩
     . rw[decide_eq_false (fun q=>e (by injection q):¬V.int t=V.int 2)]
       refine Y6 ⟨_,rfl,rfl,rest _ ?_⟩
       rcases(by omega:t=1\/t=3) with rfl|rfl<;>rfl
   | halfDown=>
     show if(inV (.str (Wy.name .halfDown)) [.str "down",.str "up"])=true then _ else _
     rw[show inV (.str (Wy.name .halfDown)) [.str "down",.str "up"]=false by decide+kernel]
     refine U1 ⟨_,rfl,rfl,_,rfl,V3 (nW (y:= .halfDown) (z:= .floor) (by decide)) ⟨_,rfl,rfl,_,rfl,V3 (nW (y:= .halfDown) (z:= .ceiling) (by decide)) ⟨_,rfl,rfl,_,rfl,V3 (nW (y:= .halfDown) (z:= .fiveUp) (by decide)) ⟨_,rfl,rfl,_,rfl,?_⟩⟩⟩⟩
     by_cases e:t=2
     . rw[decide_eq_true (congrArg V.int e)]
       exact U1 ⟨_,rfl,rfl,_,rfl,V3 (nW (y:= .halfDown) (z:= .halfUp) (by decide)) ⟨_,rfl,rfl,_,rfl,V3 (nW (y:= .halfDown) (z:= .halfEven) (by decide)) (rest _ (by subst e;rfl))⟩⟩
     . rw[decide_eq_false (fun q=>e (by injection q):¬V.int t=V.int 2)]
       refine Y6 ⟨_,rfl,rfl,rest _ ?_⟩
       rcases(by omega:t=1\/t=3) with rfl|rfl<;>rfl
   | halfEven=>
     show if(inV (.str (Wy.name .halfEven)) [.str "down",.str "up"])=true then _ else _
     rw[show inV (.str (Wy.name .halfEven)) [.str "down",.str "up"]=false by decide+kernel]
     refine U1 ⟨_,rfl,rfl,_,rfl,V3 (nW (y:= .halfEven) (z:= .floor) (by decide)) ⟨_,rfl,rfl,_,rfl,V3 (nW (y:= .halfEven) (z:= .ceiling) (by decide)) ⟨_,rfl,rfl,_,rfl,V3 (nW (y:= .halfEven) (z:= .fiveUp) (by decide)) ⟨_,rfl,rfl,_,rfl,?_⟩⟩⟩⟩
     by_cases e:t=2
     . rw[decide_eq_true (congrArg V.int e)]
       exact U1 ⟨_,rfl,rfl,_,rfl,V3 (nW (y:= .halfEven) (z:= .halfUp) (by decide)) ⟨_,rfl,rfl,_,rfl,A1w rfl ⟨_,rfl,_,_,rfl,rfl,(by decide:(0:Int)<2),rfl,rest _ (by subst e;show decide (V.int ((n:Int) % 10 % 2)=V.int 1)=_;rw[show(n:Int) % 10 % 2=(n:Int) % 2 by omega])⟩⟩⟩
     . rw[decide_eq_false (fun q=>e (by injection q):¬V.int t=V.int 2)]
       refine Y6 ⟨_,rfl,rfl,rest _ ?_⟩
       rcases(by omega:t=1\/t=3) with rfl|rfl<;>rfl
   | fiveUp=>
     show if(inV (.str (Wy.name .fiveUp)) [.str "down",.str "up"])=true then _ else _
     rw[show inV (.str (Wy.name .fiveUp)) [.str "down",.str "up"]=false by decide+kernel]
     have lg:((n:Int)).natAbs.log2<1920:=Nat.lt_trans (A3b (i:=(n:Int)) (k:=300) (by rw[Int.natAbs_natCast];exact hn) (by decide)) (by decide)
     refine U1 ⟨_,rfl,rfl,_,rfl,V3 (nW (y:= .fiveUp) (z:= .floor) (by decide)) ⟨_,rfl,rfl,_,rfl,V3 (nW (y:= .fiveUp) (z:= .ceiling) (by decide)) ⟨_,rfl,rfl,_,rfl,A1w rfl ?_⟩⟩⟩
     refine⟨_,rfl,_,rfl,lg,_,rfl,_,_,_,rfl,rfl,int_text_fits lg,J6z n,_,_,rfl,rfl,?_⟩
     rw[Z9d (n % 10) (by omega)]
     refine rest _ ?_
     show(eqV (.int 0) (.int ((n:Int) % 10))||(eqV (.int 5) (.int ((n:Int) % 10))||false))=_
     rw[eqI,eqI,Bool.or_false]
     have e0:decide ((n:Int) % 10=0)=(n % 10==0):=by
       by_cases h:n % 10=0
       . rw[decide_eq_true (by omega)];simp[h]
       . rw[decide_eq_false (by omega)];simpa using h
     have e5:decide ((n:Int) % 10=5)=(n % 10==5):=by
       by_cases h:n % 10=5
       . rw[decide_eq_true (by omega)];simp[h]
       . rw[decide_eq_false (by omega)];simpa using h
     rw[e0,e5]
noncomputable def G0b:Sp:=fun vs H Q _=>∃(y:Wy) (s:Int),vs=[.str y.name,.int s]/\0<=s/\s<=1/\∀H',Same H H' ->Q (.bl (y.toEnd s)) H'
theorem U5y:FnScope ["_law_name","_law_sign"] ["_law_name","_law_sign"] (A1 A5e):=scK
theorem J8m(D:Def K mg "_law_to_end" ["_law_name","_law_sign"] A5e f fd):FnOk P w K mg base (CX1 P w) 1 f fd ["_law_name","_law_sign"] G0b:=by
 refine FnOk.up (D.F.ok U5y (fun vs H Q E h=>?_) (fun cdv A outer s H vs Q E hr h=>?_))
 . obtain⟨y,z,rfl,_⟩:=h
   rfl
 . obtain⟨y,z,rfl,z0,z1,k⟩:=h
   refine⟨_,(A7 (J9 (D0 A4g (pv 0) (Y9 (A0 C5 (A0 C5 A8))) (by rfl)) (B3 (C4 A3h)) D4)
     (B3 (C4 (U7w (U4e (B2x (G3 U0 (pv 0) C5 (C8 _)) (A2r (G3 U0 (pv 1) A3 (C8 _)))) (A2r (B2x (G3 U0 (pv 0) C5 (C8 _)) (A2r (G3 U0 (pv 1) A3 (C8 _)))))))))),?_⟩
   have z2:2<=sizeLine:=C9 (by decide)
   refine⟨_,rfl,z2,fun p np=>⟨p,_,rfl,.inr (SqT.of A6),rfl,rfl,_,rfl,?_⟩⟩
   have u:=Same.upd (o:= .tup [.str "down",.str "five up"]) np
   have k:=k _ u
   generalize upd H p (.tup [.str "down",.str "five up"])=H1 at u k
   have rest:∀b:Bool,y.toEnd z=b ->Q (.bl b) H1:=fun b e=>by rw[<-e];exact k
   cases y with
   | down=>
     show if(inV (.str (Wy.name .down)) [.str "down",.str "five up"])=true then _ else _
     rw[show inV (.str (Wy.name .down)) [.str "down",.str "five up"]=true by decide+kernel]
     exact Y6 k
   | up=>
     show if(inV (.str (Wy.name .up)) [.str "down",.str "five up"])=true then _ else _
     rw[show inV (.str (Wy.name .up)) [.str "down",.str "five up"]=false by decide+kernel]
     exact U1 ⟨_,rfl,rfl,_,rfl,V3 (nW (y:= .up) (z:= .floor) (by decide)) ⟨_,rfl,U1 ⟨_,rfl,rfl,_,rfl,V3 (nW (y:= .up) (z:= .ceiling) (by decide)) ⟨_,rfl,rest _ rfl⟩⟩⟩⟩
   | floor=>
     show if(inV (.str (Wy.name .floor)) [.str "down",.str "five up"])=true then _ else _
     rw[show inV (.str (Wy.name .floor)) [.str "down",.str "five up"]=false by decide+kernel]
     rcases(by omega:z=0\/z=1) with rfl|rfl
     . exact U1 ⟨_,rfl,rfl,_,rfl,A1w rfl ⟨_,rfl,rfl,_,rfl,A1w rfl ⟨_,rfl,rest _ (by decide+kernel)⟩⟩⟩
     . exact U1 ⟨_,rfl,rfl,_,rfl,A1w rfl ⟨_,rfl,rfl,_,rfl,V3 (by decide) ⟨_,rfl,rfl,_,rfl,V3 (nW (y:= .floor) (z:= .ceiling) (by decide)) ⟨_,rfl,rest _ (by decide+kernel)⟩⟩⟩⟩
   | ceiling=>
     show if(inV (.str (Wy.name .ceiling)) [.str "down",.str "five up"])=true then _ else _
     rw[show inV (.str (Wy.name .ceiling)) [.str "down",.str "five up"]=false by decide+kernel]
     rcases(by omega:z=0\/z=1) with rfl|rfl
     . exact U1 ⟨_,rfl,rfl,_,rfl,V3 (nW (y:= .ceiling) (z:= .floor) (by decide)) ⟨_,rfl,U1 ⟨_,rfl,rfl,_,rfl,A1w rfl ⟨_,rfl,rfl,_,rfl,rest _ (by decide+kernel)⟩⟩⟩⟩
     . exact U1 ⟨_,rfl,rfl,_,rfl,V3 (nW (y:= .ceiling) (z:= .floor) (by decide)) ⟨_,rfl,U1 ⟨_,rfl,rfl,_,rfl,A1w rfl ⟨_,rfl,rfl,_,rfl,rest _ (by decide+kernel)⟩⟩⟩⟩
   | halfUp=>
     show if(inV (.str (Wy.name .halfUp)) [.str "down",.str "five up"])=true then _ else _
     rw[show inV (.str (Wy.name .halfUp)) [.str "down",.str "five up"]=false by decide+kernel]
     exact U1 ⟨_,rfl,rfl,_,rfl,V3 (nW (y:= .halfUp) (z:= .floor) (by decide)) ⟨_,rfl,U1 ⟨_,rfl,rfl,_,rfl,V3 (nW (y:= .halfUp) (z:= .ceiling) (by decide)) ⟨_,rfl,rest _ rfl⟩⟩⟩⟩
   | halfDown=>
     show if(inV (.str (Wy.name .halfDown)) [.str "down",.str "five up"])=true then _ else _
     rw[show inV (.str (Wy.name .halfDown)) [.str "down",.str "five up"]=false by decide+kernel]
     exact U1 ⟨_,rfl,rfl,_,rfl,V3 (nW (y:= .halfDown) (z:= .floor) (by decide)) ⟨_,rfl,U1 ⟨_,rfl,rfl,_,rfl,V3 (nW (y:= .halfDown) (z:= .ceiling) (by decide)) ⟨_,rfl,rest _ rfl⟩⟩⟩⟩
   | halfEven=>
     show if(inV (.str (Wy.name .halfEven)) [.str "down",.str "five up"])=true then _ else _
     rw[show inV (.str (Wy.name .halfEven)) [.str "down",.str "five up"]=false by decide+kernel]
     exact U1 ⟨_,rfl,rfl,_,rfl,V3 (nW (y:= .halfEven) (z:= .floor) (by decide)) ⟨_,rfl,U1 ⟨_,rfl,rfl,_,rfl,V3 (nW (y:= .halfEven) (z:= .ceiling) (by decide)) ⟨_,rfl,rest _ rfl⟩⟩⟩⟩
   | fiveUp=>
     show if(inV (.str (Wy.name .fiveUp)) [.str "down",.str "five up"])=true then _ else _
     rw[show inV (.str (Wy.name .fiveUp)) [.str "down",.str "five up"]=true by decide+kernel]
     exact Y6 k
end
noncomputable abbrev B2y:Stmt:=(top 52)
section
variable{P:Program}{w:World}{K:Frag}{mg:Str ->Option Value}{base:Heap}
noncomputable def allWy:List Wy:=[.down,.up,.floor,.ceiling,.halfUp,.halfDown,.halfEven,.fiveUp]
noncomputable def G5z:List V:=allWy.map fun y=>V.str y.name
noncomputable def J5z:Sp:=fun vs H Q _=>vs=[]/\∀l,H l=none ->Q (.ref l) (upd H l (.lst G5z))
theorem Y2a:FnScope [] [] (A1 B2y):=scK
theorem U6r(D:Def K mg "_law_names" [] B2y f fd):FnOk P w K mg base (CX1 P w) 1 f fd [] J5z:=by
 refine FnOk.up (D.F.ok Y2a (fun vs H Q E h=>?_) (fun cdv A outer s H vs Q E hr h=>?_))
 . obtain⟨rfl,_⟩:=h
   rfl
 . obtain⟨rfl,k⟩:=h
   refine⟨_,(B3 (C4 (U4 (A0 C5 (A0 C5 (A0 C5 (A0 C5 (A0 C5 (A0 C5 (A0 C5 (A0 C5 A8))))))))))),?_⟩
   exact⟨C9 (by decide),k⟩
end
noncomputable abbrev B2z:Stmt:=(top 57)
section
variable{P:Program}{w:World}{K:Frag}{mg:Str ->Option Value}{base:Heap}
theorem dv{n:Int}(h:0<n)(h2:n.natAbs.log2<9000):(0:Int)<n/\n.natAbs.log2<9000:=⟨h,h2⟩
noncomputable def J5q:Sp:=fun vs H Q _=>∃c,vs=[.int c]/\0<=c/\∀t r y l m H',1<=r ->r<=24 -> -60<=l ->l<=0 ->0<=m ->m<=60 ->Same H H' ->H' t=some (.tup [.int r,.str (Wy.name y),.int l,.int m]) ->Q (.ref t) H'
theorem scDrawn:FnScope ["_law_cell","_law_room","_law_name","_law_more"] ["_law_cell"] (A1 B2z):=scK
theorem U4y{f fN:Addr}{fd fdN:FuncData}(D:Def K mg "_law_drawn_context" ["_law_cell"] B2z f fd)(dA:Def K mg "_law_names" [] B2y fN fdN)(dB:FnOk P w K mg base (CX1 P w) 1 fN fdN [] J5z):FnOk P w K mg base (CX1 P w) 2 f fd ["_law_cell"] J5q:=by
 refine D.F.okE scDrawn (fun vs H Q E h=>?_) (fun X cdv A outer s H vs Q E hX hr hx h=>?_)
 . obtain⟨c,rfl,_⟩:=h
   rfl
 . subst hX
   obtain⟨c,rfl,c0,k⟩:=h
   refine⟨_,(A7 (D3 (i:=1) scDrawn.nd rfl (Or.inl rfl) (U5 A1d (U4 (A0 (B7 G8 A3 (B7 G5 (pv 0) A3)) (A0 (B7 G8 A3 (B7 G5 (pv 0) A3)) (A0 (B7 G8 A3 (B7 G5 (pv 0) A3)) A8)))) (B7 G5 (B7 D9 (pv 0) A3) A3) (fun _ _=>rfl)))
     (A7 (D3 (i:=2) scDrawn.nd rfl (Or.inl rfl) (U5 A1d (D1v dA dB hr hx) (B7 G5 (B7 D9 (pv 0) A3) A3) (fun _ _=>rfl)))
     (A7 (D3 (i:=3) scDrawn.nd rfl (Or.inl rfl) (B7 D9 (pv 0) A3))
     (A7 (J9 (D0 U0 (B7 G5 (pv 3) A3) A3 (C8 _)) (B3 (C4 (Y9 (A0 (pv 1) (A0 (pv 2) (A0 (B7 U2 A3 (B7 G5 (B7 D9 (pv 3) A3) A3)) (A0 (B7 G5 (B7 D9 (pv 3) A3) A3) A8))))))) D4)
     (B3 (C4 (Y9 (A0 (pv 1) (A0 (pv 2) (A0 (B7 U2 A3 (B7 G5 (B7 D9 (pv 3) A3) A3)) (A0 (B7 G5 (B7 D9 (pv 3) A3) A3) A8))))))))))),?_⟩
   have p24:(0:Int)<24:=by decide
   have p3:(0:Int)<3:=by decide
   have p9:(0:Int)<9:=by decide
   have p8:(0:Int)<8:=by decide
   have p61:(0:Int)<61:=by decide
   have p4:(0:Int)<4:=by decide
   have d24:=dv (n:=24) (by decide) (by decide+kernel)
   have d72:=dv (n:=72) (by decide) (by decide+kernel)
   have d576:=dv (n:=576) (by decide) (by decide+kernel)
   have d3:=dv (n:=3) (by decide) (by decide+kernel)
   have d183:=dv (n:=183) (by decide) (by decide+kernel)
   have d12:=dv (n:=12) (by decide) (by decide+kernel)
   have z3:3<=sizeLine:=C9 (by decide)
   have z4:4<=sizeLine:=C9 (by decide)
   obtain⟨r,hmr,ix1⟩:=ixs (xs:=[1+c % 24,1+c % 3,1+c % 9]) (i:=c/24 % 3) (Int.emod_nonneg _ (by decide)) (by show c/24 % 3<3;exact Int.emod_lt_of_pos _ (by decide))
   obtain⟨nm,hmn,ix2⟩:=ixv (xs:=G5z) (i:=c/72 % 8) (Int.emod_nonneg _ (by decide)) (by show c/72 % 8<8;exact Int.emod_lt_of_pos _ (by decide))
   obtain⟨y,rfl⟩:∃y:Wy,nm= .str y.name:=by
     obtain⟨y,_,e⟩:=List.mem_map.mp hmn
     exact⟨y,e.symm⟩
   have br:1<=r/\r<=24:=by
     simp only[List.mem_cons,List.not_mem_nil,or_false] at hmr
     rcases hmr with rfl|rfl|rfl<;>omega
   refine⟨_,rfl,_,_,rfl,rfl,p24,_,_,rfl,rfl,_,rfl,_,_,rfl,rfl,p3,_,_,rfl,rfl,_,rfl,_,_,rfl,rfl,p9,_,_,rfl,rfl,z3,fun l1 n1=>?_⟩
   refine⟨_,rfl,_,_,rfl,rfl,d24,_,_,rfl,rfl,p3,l1,_,_,_,rfl,rfl,SqL.of A6,ix1,?_⟩
   refine⟨rfl,fun l2 n2=>⟨_,rfl,_,_,rfl,rfl,d72,_,_,rfl,rfl,p8,l2,_,_,_,rfl,rfl,SqL.of A6,ix2,?_⟩⟩
   have s2:=(Same.upd (o:= .lst [.int (1+c % 24),.int (1+c % 3),.int (1+c % 9)]) n1).trans (Same.upd (o:= .lst G5z) n2)
   refine⟨_,rfl,_,_,rfl,rfl,d576,?_⟩
   refine⟨_,rfl,_,_,rfl,rfl,p3,rfl,_,rfl,Y3 (fun _=>?_) (fun _=>?_)⟩
   . refine⟨_,rfl,_,rfl,_,rfl,_,_,rfl,rfl,d3,_,_,rfl,rfl,p61,_,_,rfl,rfl,_,rfl,_,_,rfl,rfl,d183,_,_,rfl,rfl,p61,z4,fun t nt=>?_⟩
     exact k t r y _ _ _ br.1 br.2 (by omega) (by omega) (by omega) (by omega) (s2.trans (Same.upd nt)) A6
   . refine⟨_,rfl,_,rfl,_,rfl,_,_,rfl,rfl,d3,_,_,rfl,rfl,p4,_,_,rfl,rfl,_,rfl,_,_,rfl,rfl,d12,_,_,rfl,rfl,p4,z4,fun t nt=>?_⟩
     exact k t r y _ _ _ br.1 br.2 (by omega) (by omega) (by omega) (by omega) (s2.trans (Same.upd nt)) A6
end
theorem Y9h{a b:Int}(h:0<a)(h2:b<2*a):Z7 a b=3:=by
 unfold Z7
 rw[decide_eq_true h,decide_eq_true (show b<=2*a by omega),decide_eq_true h2]
 rfl
theorem Y7x{a b:Int}(h:0<a)(h2:2*a=b):Z7 a b=2:=by
 unfold Z7
 rw[decide_eq_true h,decide_eq_true (show b<=2*a by omega),decide_eq_false (show¬b<2*a by omega)]
 rfl
theorem Y8v{a b:Int}(h:0<a)(h2:2*a<b):Z7 a b=1:=by
 unfold Z7
 rw[decide_eq_true h,decide_eq_false (show¬b<=2*a by omega),decide_eq_false (show¬b<2*a by omega)]
 rfl
theorem U4u{a b:Int}(h:a=0)(hb:0<b):Z7 a b=0:=by
 subst h
 unfold Z7
 rw[decide_eq_false (show¬(0:Int)<0 by omega),decide_eq_false (show¬b<=2*0 by omega),decide_eq_false (show¬b<2*0 by omega)]
 rfl
inductive Lv where
 |rat (t b n:Int)
 |roo (t n:Int)
noncomputable def B5 (t b:Int):Int:=if t*B0 (-(G9 t-G9 b))<b*B0 (G9 t-G9 b) then G9 t-G9 b-1 else G9 t-G9 b
noncomputable def Z3t (t n:Int):Int:=(G9 t-1+n)/2
noncomputable def Lv.L:Lv ->Int
 | .rat t b n=>n+B5 t b
 | .roo t n=>Z3t t n
noncomputable def Lv.wh:Lv ->Int ->Int
 | .rat t b n,p=>whI t b (n-p)
 | .roo t n,p=>whQ t (n-2*p)
noncomputable def Lv.pt:Lv ->Int ->Int
 | .rat t b n,p=>ptI t b (n-p)
 | .roo t n,p=>Z4j t (n-2*p) (whQ t (n-2*p))
noncomputable def Lv.In:Lv ->Int ->Prop
 | .rat _ _ n,p=> -1500<=n-p/\n-p<=1500
 | .roo _ n,p=> -200<=n-2*p/\n-2*p<=200
theorem C1a{t:Int}(h:Sz t):B0 (G9 t-1)<=t/\t<B0 (G9 t)/\1<=G9 t:=by
 obtain⟨n,rfl,h1,_⟩:=h.nat
 obtain⟨j,a,b⟩:=D0s n h1
 rw[D1p b a]
 have e1:B0 ((j:Int)+1-1)=((10^j:Nat):Int):=by unfold B0;rw[show((j:Int)+1-1).toNat=j by omega]
 have e2:B0 ((j:Int)+1)=((10^(j+1):Nat):Int):=by unfold B0;rw[show((j:Int)+1).toNat=j+1 by omega]
 rw[e1,e2]
 exact⟨Int.ofNat_le.mpr a,Int.ofNat_lt.mpr b,by omega⟩
section
variable{P:Program}{w:World}{K:Frag}{mg:Str ->Option Value}{base:Heap}
end
theorem D1x{t b:Int}(ht:Sz t)(hb:Sz b)(n:Int):A7t t b (n-(n+B5 t b)):=by
 obtain⟨tn',et,t1,_⟩:=ht.nat
 obtain⟨bn,eb,b1,_⟩:=hb.nat
 obtain⟨L,l1,l2⟩:=D0s tn' t1
 obtain⟨M,m1,m2⟩:=D0s bn b1
 subst et eb
 rw[show n-(n+B5 (tn':Int) (bn:Int))=0-B5 (tn':Int) (bn:Int) by omega]
 unfold B5
 rw[D1p l2 l1,D1p m2 m1,show(L:Int)+1-((M:Int)+1)=(L:Int)-M by omega]
 split
 . rename_i h
   have:=C1v l1 l2 m1 m2 (by rw[show(M:Int)-L= -((L:Int)-M) by omega,Int.neg_neg];exact h)
   rw[show(0:Int)- ((L:Int)-M-1)=(M:Int)-L+1 by omega]
   exact this
 . rename_i h
   have:=C9g l1 l2 m1 m2 (by rw[show(M:Int)-L= -((L:Int)-M) by omega,Int.neg_neg];omega)
   rw[show(0:Int)- ((L:Int)-M)=(M:Int)-L by omega]
   exact this
section
variable{P:Program}{w:World}{K:Frag}{mg:Str ->Option Value}{base:Heap}
end
noncomputable def setL (v:Cv) (s:Int) (lv:Lv) (i:Int):Nm×List Str:=D0m v s (lv.wh (v.fin lv.L)) (lv.pt (v.fin lv.L)) lv.L (v.fin lv.L) i
theorem J5y{t:Int}(h:SzL t):1<=G9 t/\G9 t<=500:=by
 have fb:=C1a h.sz
 refine⟨fb.2.2,?_⟩
 apply Classical.byContradiction
 intro z
 have a:B0 500<=B0 (G9 t-1):=U8 (by omega)
 have:=h.2
 omega
theorem U6v{v:Cv}{t b n:Int}(ok:v.Ok)(ht:SzL t)(hb:SzL b)(n0: -1300<=n)(n1:n<=1300):(Lv.rat t b n).In (v.fin (n+B5 t b))/\0<=whI t b (n-v.fin (n+B5 t b))/\whI t b (n-v.fin (n+B5 t b))<B0 v.r:=by
 have ft:=J5y ht;have fb:=J5y hb
 have r1:=ok.r1;have r2:=ok.r2;have l1:=ok.l1;have l2:=ok.l2
 have lf: -501<=B5 t b/\B5 t b<=501:=by
   unfold B5
   split<;>omega
 have wr:=J7g (s1:=n-(n+B5 t b)) (s2:=n-v.fin (n+B5 t b)) (r:=v.r) ht.sz hb.sz (D1x ht.sz hb.sz n) r1 (by
   unfold Cv.fin J9c
   split<;>omega)
 refine⟨?_,wr⟩
 show -1500<=n-v.fin (n+B5 t b)/\n-v.fin (n+B5 t b)<=1500
 unfold Cv.fin J9c
 split<;>omega
theorem G1j{a b:Int}(ha:0<=a)(hb:0<=b):B0 (a+b)=B0 a*B0 b:=by
 unfold B0
 rw[show(a+b).toNat=a.toNat+b.toNat by omega,Nat.pow_add]
 exact Int.natCast_mul _ _
noncomputable def Lv.one:Lv ->Int ->Int ->Int
 | .rat _ b n,w,q=>w*b*B0 (q-n)
 | .roo _ n,w,q=>w*w*1*B0 (2*q-n)
noncomputable def Lv.oth:Lv ->Int ->Int
 | .rat t _ n,q=>t*B0 (n-q)
 | .roo t n,q=>t*B0 (n-2*q)
noncomputable def Lv.Ps:Lv ->Prop
 | .rat t b _=>1<=t/\1<=b
 | .roo t _=>1<=t
theorem U6d{lv:Lv}(h:lv.Ps){u:Int}(hu:0<=u)(q:Int):lv.one u q<=lv.oth q↔u<=lv.wh q:=by
 cases lv with
 | rat t b n=>
   have lp:0<b*B0 (-(n-q)):=Int.mul_pos (by have:=h.2;omega) (J1 _)
   show u*b*B0 (q-n)<=t*B0 (n-q)↔u<=t*B0 (n-q)/(b*B0 (-(n-q)))
   rw[Int.le_ediv_iff_mul_le lp,show q-n= -(n-q) by omega,Int.mul_assoc]
 | roo t n=>
   obtain⟨w0,a,b⟩:=U4p (s:=n-2*q) h
   show u*u*1*B0 (2*q-n)<=t*B0 (n-2*q)↔u<=whQ t (n-2*q)
   rw[show 2*q-n= -(n-2*q) by omega,Int.mul_one]
   generalize whQ t (n-2*q)=W at*
   have tp:=J1 (-(n-2*q))
   refine⟨fun z=>Classical.byContradiction fun c=>?_,fun z=>?_⟩
   . have:(W+1)*(W+1)<=u*u:=Int.mul_le_mul (by omega) (by omega) (by omega) hu
     have:(W+1)*(W+1)*B0 (-(n-2*q))<=u*u*B0 (-(n-2*q)):=Int.mul_le_mul_of_nonneg_right this (Int.le_of_lt tp)
     omega
   . have:u*u<=W*W:=Int.mul_le_mul z z hu w0
     have:u*u*B0 (-(n-2*q))<=W*W*B0 (-(n-2*q)):=Int.mul_le_mul_of_nonneg_right this (Int.le_of_lt tp)
     omega
theorem Lv.wh_0{lv:Lv}(h:lv.Ps)(q:Int):0<=lv.wh q:=by
 refine(U6d h (Int.le_refl 0) q).mp ?_
 cases lv with
 | rat t b n=>
   show 0*b*B0 (q-n)<=t*B0 (n-q)
   rw[Int.zero_mul,Int.zero_mul]
   exact Int.mul_nonneg (by have:=h.1;omega) (Int.le_of_lt (J1 _))
 | roo t n=>
   show 0*0*1*B0 (2*q-n)<=t*B0 (n-2*q)
   rw[show(0:Int)*0*1=0 from rfl,Int.zero_mul]
   exact Int.mul_nonneg (by have h:1<=t:=h;omega) (Int.le_of_lt (J1 _))
noncomputable def Lv.mA:Lv ->Int ->Int ->Int
 | .rat _ b n,w,q=>(2*w+1)*(b*B0 (-(n-q)))
 | .roo _ n,w,q=>(2*w+1)*(2*w+1)*B0 (-(n-2*q))
noncomputable def Lv.mB:Lv ->Int ->Int
 | .rat t _ n,q=>2*(t*B0 (n-q))
 | .roo t n,q=>4*(t*B0 (n-2*q))
noncomputable def ptC (a b A B:Int):Int:=if a=b then 0 else 1+(if decide (A<=B)=true then 1 else 0)+(if decide (A<B)=true then 1 else 0)
theorem Y7d{lv:Lv}(h:lv.Ps)(q:Int):lv.pt q=ptC (lv.one (lv.wh q) q) (lv.oth q) (lv.mA (lv.wh q) q) (lv.mB q):=by
 cases lv with
 | rat t b n=>
   have lp:0<b*B0 (-(n-q)):=Int.mul_pos (by have:=h.2;omega) (J1 _)
   have l:=D1u (t:=t) (s:=n-q) (show 0<b by have:=h.2;omega)
   show Z7 (t*B0 (n-q)-whI t b (n-q)*(b*B0 (-(n-q)))) (b*B0 (-(n-q)))=ptC (whI t b (n-q)*b*B0 (q-n)) (t*B0 (n-q)) ((2*whI t b (n-q)+1)*(b*B0 (-(n-q)))) (2*(t*B0 (n-q)))
   have e1:whI t b (n-q)*b*B0 (q-n)=whI t b (n-q)*(b*B0 (-(n-q))):=by rw[show q-n= -(n-q) by omega,Int.mul_assoc]
   have e2:(2*whI t b (n-q)+1)*(b*B0 (-(n-q)))=2*(whI t b (n-q)*(b*B0 (-(n-q))))+b*B0 (-(n-q)):=by rw[Int.add_mul,Int.one_mul,Int.mul_assoc]
   rw[e1,e2]
   generalize whI t b (n-q)*(b*B0 (-(n-q)))=Z at*
   generalize t*B0 (n-q)=T at*
   generalize b*B0 (-(n-q))=U at*
   unfold ptC
   by_cases c:Z=T
   . rw[if_pos c,U4u (by omega) lp]
   . rw[if_neg c]
     rcases(show 2*(T-Z)<U\/2*(T-Z)=U\/U<2*(T-Z) by omega) with d|d|d
     . rw[Y8v (by omega) d,decide_eq_false (by omega),decide_eq_false (by omega)];rfl
     . rw[Y7x (by omega) d,decide_eq_true (by omega),decide_eq_false (by omega)];rfl
     . rw[Y9h (by omega) d,decide_eq_true (by omega),decide_eq_true (by omega)];rfl
 | roo t n=>
   show Z4j t (n-2*q) (whQ t (n-2*q))=ptC (whQ t (n-2*q)*whQ t (n-2*q)*1*B0 (2*q-n)) (t*B0 (n-2*q)) _ _
   rw[Int.mul_one,show 2*q-n= -(n-2*q) by omega]
   rfl
theorem Z6e{lv:Lv}(h:lv.Ps)(q:Int):lv.one (lv.wh q) q=lv.oth q↔lv.pt q=0:=by
 rw[Y7d h]
 unfold ptC
 by_cases c:lv.one (lv.wh q) q=lv.oth q
 . rw[if_pos c];exact⟨fun _=>rfl,fun _=>c⟩
 . rw[if_neg c]
   refine⟨fun z=>absurd z c,fun z=>?_⟩
   split at z<;>split at z<;>omega
theorem Z3k(lv:Lv)(q:Int)(h:lv.Ps):0<=lv.pt q/\lv.pt q<=3:=by
 rw[Y7d h]
 unfold ptC
 split
 . omega
 . split<;>split<;>omega
structure Lv.Ld(lv:Lv)(L:Int):Prop where
 a:1<=lv.wh L
 b:lv.wh L<=9
theorem Y7u{t b n L:Int}(h:(Lv.rat t b n).Ps)(l:A7t t b (n-L)):(Lv.rat t b n).Ld L:=by
 refine⟨(U6d h (by decide) L).mp ?_,Classical.byContradiction fun z=>?_⟩
 . show 1*b*B0 (L-n)<=t*B0 (n-L)
   rw[Int.one_mul,show L-n= -(n-L) by omega]
   exact l.1
 . have:10*b*B0 (L-n)<=t*B0 (n-L):=(U6d h (show(0:Int)<=10 by decide) L).mpr (by omega)
   rw[Int.mul_assoc,show L-n= -(n-L) by omega] at this
   have:=l.2
   omega
theorem Y7c(c:Bool):(0:Int)<=(if c=true then 1 else 0)/\(if c=true then(1:Int) else 0)<=1:=by cases c<;>decide
theorem G0k(i:Int):∀(n:Nat) (f p:Int),f≠0 ->(Y4 i n f p).1≠0
 |0,f,p,h=>h
 | n+1,f,p,h=>by
   unfold Y4
   split
   . exact G0k i n (f/10) (p+1) (by omega)
   . exact h
theorem J7b(i:Int):∀(n:Nat) (f p:Int),0<=f ->0<=(Y4 i n f p).1
 |0,f,p,h=>h
 | n+1,f,p,h=>by
   unfold Y4
   split
   . exact J7b i n (f/10) (p+1) (by omega)
   . exact h
theorem J6v(i:Int):∀(n:Nat) (f p:Int),(Y4 i n f p).1*B0 ((Y4 i n f p).2-p)=f/\p<=(Y4 i n f p).2
 |0,f,p=>⟨by show f*B0 (p-p)=f;rw[G5m (by omega),Int.mul_one],Int.le_refl _⟩
 | n +1,f,p=>by
   unfold Y4
   split
   . rename_i hf
     obtain⟨a,b⟩:=J6v i n (f/10) (p+1)
     refine⟨?_,by omega⟩
     rw[show(Y4 i n (f/10) (p+1)).2-p=1+((Y4 i n (f/10) (p+1)).2-(p+1)) by omega,G1j (by omega) (by omega),show B0 1=10 from rfl,Int.mul_left_comm,a]
     omega
   . exact⟨by show f*B0 (p-p)=f;rw[G5m (by omega),Int.mul_one],Int.le_refl _⟩
structure NearOk(r q U f P:Int):Prop where
 e:f*B0 (P-q)=U
 hq:q<=P
 f0:0<=f
 f1:f<B0 r
 z:U=0 ->f=0/\P=q
 nz:0<U ->0<f
theorem Y6z(y:Wy)(s w pt:Int):w<=upI y s w pt/\upI y s w pt<=w+1/\(pt=0 ->upI y s w pt=w):=by
 unfold upI
 refine⟨?_,?_,fun z=>?_⟩
 . split<;>omega
 . split<;>omega
 . rw[if_pos z,if_neg Bool.false_ne_true]
theorem Z4m{r:Int}(h:1<=r):B0 r=B0 (r-1)*10:=by
 have:=G1j (show 0<=r-1 by omega) (show(0:Int)<=1 by decide)
 rw[show r-1+1=r by omega] at this
 exact this
theorem Y2z{v:Cv}{s w pt q i:Int}(r1:1<=v.r)(w0:0<=w)(w1:w<B0 v.r)(hp:pt=0 ->0<w):NearOk v.r q (upI v.y s w pt) (Z3 v s w pt q i).1 (Z3 v s w pt q i).2:=by
 obtain⟨a,b,c⟩:=Y6z v.y s w pt
 by_cases h:pt=0
 . rw[c h]
   unfold Z3
   rw[if_pos h]
   obtain⟨x,y⟩:=J6v i (i-q).toNat w q
   have z:=G0k i (i-q).toNat w q (by have:=hp h;omega)
   have z0:=J7b i (i-q).toNat w q w0
   have fl:(Y4 i (i-q).toNat w q).1<=w:=by
     have t:=J1 ((Y4 i (i-q).toNat w q).2-q)
     have:(Y4 i (i-q).toNat w q).1*1<=(Y4 i (i-q).toNat w q).1*B0 ((Y4 i (i-q).toNat w q).2-q):=Int.mul_le_mul_of_nonneg_left (by omega) z0
     omega
   exact⟨x,y,z0,by show(Y4 i (i-q).toNat w q).1<_;omega,fun e=>absurd e (by have:=hp h;omega),fun _=>by show 0<(Y4 i (i-q).toNat w q).1;omega⟩
 . unfold Z3
   rw[if_neg h]
   generalize upI v.y s w pt=U at*
   have e:=Z4m r1
   have tp:=J1 (v.r-1)
   unfold B4p
   by_cases g:U=B0 v.r
   . rw[if_pos g]
     refine⟨?_,by show q<=q+1;omega,by show 0<=U/10;omega,by show U/10<B0 v.r;omega,fun z=>by omega,fun z=>by show 0<U/10;omega⟩
     show U/10*B0 (q+1-q)=U
     rw[show q+1-q=1 by omega,show B0 1=10 from rfl]
     omega
   . rw[if_neg g]
     refine⟨?_,Int.le_refl _,by show 0<=U;omega,by show U<B0 v.r;omega,fun z=>⟨z,rfl⟩,fun z=>z⟩
     show U*B0 (q-q)=U
     rw[G5m (by omega),Int.mul_one]
structure SetOk(v:Cv)(s:Int)(lv:Lv):Prop where
 ok:v.Ok
 s0:0<=s
 s1:s<=1
 ps:lv.Ps
 ld:lv.Ld lv.L
 w1:lv.wh (v.fin lv.L)<B0 v.r
theorem SetOk.w0{v:Cv}{s:Int}{lv:Lv}(h:SetOk v s lv):0<=lv.wh (v.fin lv.L):=lv.wh_0 h.ps _
theorem SetOk.hp{v:Cv}{s:Int}{lv:Lv}(h:SetOk v s lv):lv.pt (v.fin lv.L)=0 ->0<lv.wh (v.fin lv.L):=fun z=>by
 rcases(show lv.wh (v.fin lv.L)=0\/0<lv.wh (v.fin lv.L) by have:=h.w0;omega) with e|e
 . exfalso
   have a:=(Z6e h.ps (v.fin lv.L)).mpr z
   rw[e] at a
   have ps:=h.ps
   cases lv with
   | rat t b n=>
     have q:(0:Int)*b*B0 (v.fin (Lv.L (.rat t b n))-n)=t*B0 (n-v.fin (Lv.L (.rat t b n))):=a
     rw[Int.zero_mul,Int.zero_mul] at q
     have:=Int.mul_pos (show 0<t by have:=ps.1;omega) (J1 (n-v.fin (Lv.L (.rat t b n))))
     omega
   | roo t n=>
     have q:(0:Int)*0*1*B0 (2*v.fin (Lv.L (.roo t n))-n)=t*B0 (n-2*v.fin (Lv.L (.roo t n))):=a
     rw[show(0:Int)*0*1=0 from rfl,Int.zero_mul] at q
     have:=Int.mul_pos (show 0<t by have ps:1<=t:=ps;omega) (J1 (n-2*v.fin (Lv.L (.roo t n))))
     omega
 . exact e
noncomputable def upL (v:Cv) (s:Int) (lv:Lv):Int:=upI v.y s (lv.wh (v.fin lv.L)) (lv.pt (v.fin lv.L))
noncomputable def neL (v:Cv) (s:Int) (lv:Lv) (i:Int):Int×Int:=Z3 v s (lv.wh (v.fin lv.L)) (lv.pt (v.fin lv.L)) (v.fin lv.L) i
theorem SetOk.near{v:Cv}{s:Int}{lv:Lv}(h:SetOk v s lv)(i:Int):NearOk v.r (v.fin lv.L) (upL v s lv) (neL v s lv i).1 (neL v s lv i).2:=Y2z h.ok.r1 h.w0 h.w1 h.hp
theorem SetOk.up0{v:Cv}{s:Int}{lv:Lv}(h:SetOk v s lv):0<=upL v s lv/\upL v s lv<=B0 v.r:=by
 have a:=Y6z v.y s (lv.wh (v.fin lv.L)) (lv.pt (v.fin lv.L))
 have:=h.w0;have:=h.w1
 unfold upL
 omega
theorem Y2p(v:Cv)(s:Int)(lv:Lv)(i:Int):setL v s lv i=if A1x v.m (neL v s lv i).1 (neL v s lv i).2=true then((B5n v s,["burst","off","cut"]):Nm×List Str) else(⟨.plain,s,(neL v s lv i).1,(neL v s lv i).2⟩,A0p (lv.pt (v.fin lv.L)) (decide ((neL v s lv i).2>i))++A0q v.l lv.L (lv.pt (v.fin lv.L))):=rfl
theorem Y9b{v:Cv}(L:Int):v.fin L=(if v.l>L then v.l else L)-v.r+1:=by
 unfold Cv.fin J9c
 split<;>split<;>omega
theorem Z5e{v:Cv}(ok:v.Ok)(L:Int):v.l-v.r+1<=v.fin L/\L-v.r+1<=v.fin L/\(v.fin L=v.l-v.r+1\/v.fin L=L-v.r+1):=by
 rw[Y9b]
 split<;>omega
theorem Z3h{f r:Int}(f0:0<f)(f1:f<B0 r)(hr:r<=24):1<=G9 f/\G9 f<=r/\B0 (G9 f-1)<=f/\f<B0 (G9 f):=by
 have f2:f<=10^60-1:=by
   have a:=U8 (show r<=60 by omega)
   have b:B0 60=10^60:=by decide+kernel
   omega
 have b:=C1a (Y8g (by omega) (by omega) f2)
 refine⟨b.2.2,Classical.byContradiction fun z=>?_,b.1,b.2.1⟩
 have:=U8 (show r<=G9 f-1 by omega)
 omega
noncomputable def rdS (zs:List Str):PyData:= .list (zs.map PyData.str)
noncomputable def OkL (zs:List Str):Prop:=zs.length<=100/\∀z∈zs,PyData.strOk z=true
theorem Z4q:∀{zs:List Str},(∀z∈zs,PyData.strOk z=true) ->PyData.canLayAll0 (zs.map PyData.str)=true/\PyData.depthAll (zs.map PyData.str)<=1
 | [],_=>by simp[PyData.canLayAll0,PyData.depthAll]
 | z ::zs,h=>by
   obtain⟨a,b⟩:=Z4q (zs:=zs) fun z' h'=>h z' (List.mem_cons_of_mem _ h')
   have c:=h z List.mem_cons_self
   constructor
   . simp[PyData.canLayAll0,PyData.canLay0,c,a]
   . simp only[List.map_cons,PyData.depthAll,PyData.depth]
     omega
theorem shS{zs:List Str}(h:OkL zs):SeqAt.shaped (rdS zs)=true:=by
 obtain⟨a,b⟩:=Z4q h.2
 unfold SeqAt.shaped rdS
 simp only[PyData.canLay0,PyData.depth,a,Bool.and_true,Bool.and_eq_true,decide_eq_true_eq,List.length_map]
 exact⟨trivial,decide_eq_true (by omega)⟩
theorem Y8s:∀zs:List Str,PyData.eqv (rdS zs) (rdS zs)=true:=by
 have h:∀zs:List Str,PyData.eqvAll (zs.map PyData.str) (zs.map PyData.str)=true:=fun zs=>by
   induction zs with
   |nil=>simp[PyData.eqvAll]
   |cons z zs ih=>simp[PyData.eqvAll,PyData.eqv,ih]
 intro zs
 simp[rdS,PyData.eqv,h]
theorem Z4k{K:Frag}{H:Hp}:∀zs:List Str,RdDs K H (zs.map V.str) (zs.map PyData.str)
 | []=> .nil
 |z::zs=> .cons (.str z) (Z4k zs)
theorem B5m{K:Frag}{H:Hp}{p:Addr}{zs:List Str}(h:H p=some (.lst (zs.map V.str))):RdD K H (.ref p) (rdS zs):= .lst (SqL.of h) (Z4k zs)
theorem Y7e:∀z∈sigS,PyData.strOk z=true:=by decide+kernel
noncomputable def SubS (zs:List Str):Prop:=∃p:Str ->Bool,zs=sigS.filter p
theorem SubS.ok{zs:List Str}(h:SubS zs):OkL zs:=by
 obtain⟨p,rfl⟩:=h
 exact⟨Nat.le_trans (List.length_filter_le _ _) (by decide),fun z hz=>Y7e z (List.mem_filter.mp hz).1⟩
theorem SubS.mem{zs:List Str}(h:SubS zs):∀z∈zs,z∈sigS:=by
 obtain⟨p,rfl⟩:=h
 exact fun z hz=>(List.mem_filter.mp hz).1
theorem G0n{zs ws:List Str}(h:SubS zs)(e:∀z,z∈ws↔z∈zs):V9 ws=zs:=by
 obtain⟨p,rfl⟩:=h
 unfold V9
 refine List.filter_congr fun z hz=>?_
 rw[Bool.eq_iff_iff,List.contains_iff_mem,e,List.mem_filter]
 simp[hz]
theorem U7m(zs:List Str):SubS (V9 zs):=⟨_,rfl⟩
theorem G0z:V9 []=[]:=G0n ⟨fun _=>false,by simp⟩ (by simp)
theorem U6c:∀i<7,B5t[i]?=some (.str (sigS.getD i "")):=by decide+kernel
theorem Y1q:sigS=(List.range 7).map (fun i=>sigS.getD i ""):=by decide+kernel
theorem U5u(f:Nat ->Bool):SubS (((List.range 7).filter f).map fun i=>sigS.getD i ""):=by
 refine⟨fun z=>f (sigS.idxOf z),?_⟩
 conv=>rhs;rw[Y1q]
 rw[List.filter_map]
 congr 1
theorem Y0j{f:Nat ->Bool}{ys:List V}(hl:ys.length=((List.range 7).filter f).length)(h:∀(j i:Nat) (y:V),((List.range 7).filter f)[j]?=some i ->ys[j]?=some y ->B5t[i]?=some y):
   ys=((((List.range 7).filter f).map fun i=>sigS.getD i "")).map V.str:=by
 apply List.ext_getElem
 . simp[hl]
 . intro j h1 h2
   have hj:j<((List.range 7).filter f).length:=by rw[<-hl];exact h1
   have z:=h j _ ys[j] (List.getElem?_eq_getElem hj) (List.getElem?_eq_getElem h1)
   have hm:((List.range 7).filter f)[j]<7:=by
     have:=(List.mem_filter.mp (List.getElem_mem hj)).1
     simpa using this
   rw[U6c _ hm] at z
   simp only[List.getElem_map]
   exact(Option.some.inj z).symm
noncomputable def G0u (k:Str) (s f p:Int):PyData:= .tuple [.str k,.int s,.int f,.int p]
theorem shD{k:Str}(s f p:Int)(h:PyData.strOk k=true):SeqAt.shaped (G0u k s f p)=true:=by
 unfold SeqAt.shaped G0u
 simp[PyData.canLay0,PyData.canLayAll0,PyData.depth,PyData.depthAll,h]
theorem eqD(k:Str)(s f p:Int):PyData.eqv (G0u k s f p) (G0u k s f p)=true:=by
 simp[G0u,PyData.eqv,PyData.eqvAll]
theorem rdD{K:Frag}{H:Hp}{d:Addr}{k:Str}{s f p:Int}(h:H d=some (.tup [.str k,.int s,.int f,.int p])):RdD K H (.ref d) (G0u k s f p):= .tup (SqT.of h) (.cons (.str _) (.cons (.int _) (.cons (.int _) (.cons (.int _) .nil))))
theorem okK(k:Kd):PyData.strOk k.str=true:=by cases k<;>decide+kernel
noncomputable abbrev C1n:Stmt:=(top 58)
noncomputable def Cv.vs (v:Cv):List V:=[.int v.r,.str v.y.name,.int v.l,.int v.m]
theorem Same.put{H H':Hp}{l:Addr}{o:HO}(s:Same H H')(n:H l=none):Same H (upd H' l o):=fun z ob hz=>by
 rw[C6 (D5 hz n)]
 exact s _ _ hz
theorem Y1b(s:Int): [V.int (if(0:Int)>s then 0 else s)]++ []=[V.int ((s.toNat:Nat):Int)]:=by rw[Y7z];rfl
section
variable{P:Program}{w:World}{K:Frag}{mg:Str ->Option Value}{base:Heap}
noncomputable def U7x:Sp:=fun vs H Q _=>∃c:Int,vs=[.int c]/\∀t H',1<=t ->t<B0 27 ->Same H H' ->Q (.int t) H'
theorem scLTop:FnScope ["_law_cell","_law_size","_law_more","_law_some"] ["_law_cell"] (A1 C1n):=scK
theorem Y3k(D:Def K mg "_law_top" ["_law_cell"] C1n f fd)(dA:Def K mg "_law_ten" ["_law_count"] B9f f1 fd1)(dB:FnOk P w K mg base (CX1 P w) 1 f1 fd1 ["_law_count"] G6g):FnOk P w K mg base (CX1 P w) 2 f fd ["_law_cell"] U7x:=by
 refine D.F.okE scLTop (fun vs H Q E h=>?_) (fun X cdv A outer s H vs Q E hX hr hx h=>?_)
 . obtain⟨c,rfl,_⟩:=h
   rfl
 . subst hX
   obtain⟨c,rfl,k⟩:=h
   refine⟨_,(A7 (C7 (D3 (i:=1) scLTop.nd rfl (Or.inl rfl) (B7 G8 A3 (B7 G5 (B7 D9 (pv 0) A3) A3))))
     (A7 (C7 (D3 (i:=2) scLTop.nd rfl (Or.inl rfl) (B7 G8 A3 (B7 G5 (B7 D9 (pv 0) A3) A3))))
     (A7 (C7 (D3 (i:=3) scLTop.nd rfl (Or.inl rfl) (U4 (A0 (Y9y (B7 G5 (pv 2) A3) (A2r A3)) (A0 (pv 2) (A0 (B7 G7 (pv 2) (G0 dA dB hr hx (A0 (pv 1) A8))) (A0 (B7 U2 (G0 dA dB hr hx (A0 (pv 1) A8)) A3) (A0 (B7 G7 A3 (G0 dA dB hr hx (A0 (pv 1) A8))) (A0 (B7 G8 (B7 G7 (pv 2) A3) A3) A8)))))))))
     (A7 (C7 (A1b (Y6u PySem.F.plainAttrs_list PySem.F.slot_list_append PySem.F.type_list_append B1p (pv 3) (A0 (B7 U2 (B7 G8 (B7 G7 (B7 G8 (B7 G7 A3 (pv 2)) A3) (G0 dA dB hr hx (A0 (pv 1) A8))) (B7 G5 (B7 D9 (pv 0) A3) A3)) A3) A8))))
     (A7 (C7 (A1b (Y6u PySem.F.plainAttrs_list PySem.F.slot_list_append PySem.F.type_list_append B1p (pv 3) (A0 (B7 G7 (B7 G7 (B7 G7 (B7 G7 (pv 2) A3) A3) (B7 G8 (pv 2) A3)) A3) A8))))
     (B3 (C4 (U5 A1d (pv 3) (B7 G5 (pv 0) A3) (fun _ _=>rfl))))))))),?_⟩
   have z6:6<=sizeLine:=C9 (by decide)
   have mC:∀z n:Int, -(2^64)<n ->n<2^64 ->IntMulOk z n:=fun z n a b=>CMul.ok (.inr ⟨a,b⟩)
   have nC:∀n z:Int, -(2^64)<n ->n<2^64 ->IntMulOk n z:=fun n z a b=>CMul.ok (.inl ⟨a,b⟩)
   refine⟨fun σ' H'=>∃z:Int,H'=H/\1<=z/\z<=12/\σ'=[some (.int c),some (.int z),none,none],⟨_,rfl,_,_,rfl,rfl,dv (n:=8) (by decide) (by decide+kernel),_,_,rfl,rfl,(by decide:(0:Int)<12),_,_,rfl,rfl,_,rfl,by omega,by omega,rfl⟩,?_⟩
   rintro σ' H1 ⟨z,rfl,z1,z2,rfl⟩
   refine⟨fun σ' H'=>∃g:Int,H'=H1/\1<=g/\g<=100000/\σ'=[some (.int c),some (.int z),some (.int g),none],⟨_,rfl,_,_,rfl,rfl,dv (n:=96) (by decide) (by decide+kernel),_,_,rfl,rfl,(by decide:(0:Int)<100000),_,_,rfl,rfl,_,rfl,by omega,by omega,rfl⟩,?_⟩
   rintro σ' H2 ⟨g,rfl,g1,g2,rfl⟩
   have t1:B0 1<=B0 z:=U8 z1
   have t2:B0 z<=B0 12:=U8 z2
   have e1:B0 1=10:=rfl
   have e12:B0 12=1000000000000:=by decide+kernel
   have e27:B0 27=1000000000000000000000000000:=by decide+kernel
   rw[e1] at t1
   rw[e12] at t2
   have gt:∀x:Int,1<=x ->x<=1000005 ->10<=x*B0 z/\x*B0 z<=1000005*1000000000000:=fun x a b=>by
     have p:1*10<=x*B0 z:=Int.mul_le_mul a t1 (by decide) (by omega)
     have q:x*B0 z<=1000005*1000000000000:=Int.mul_le_mul b t2 (by omega) (by decide)
     omega
   have tn2: [V.int z]++ []=[V.int ((z.toNat:Nat):Int)]:=by rw[Int.toNat_of_nonneg (by omega)];rfl
   have eT:((10^z.toNat:Nat):Int)=B0 z:=rfl
   refine⟨fun σ' H'=>∃(l:Addr) (xs:List Int),Same H2 H'/\H2 l=none/\H' l=some (.lst (xs.map V.int))/\xs.length=6/\(∀x∈xs,1<=x/\x<B0 27)/\σ'=[some (.int c),some (.int z),some (.int g),some (.ref l)],?_,?_⟩
   . refine⟨_,rfl,_,_,rfl,rfl,(by decide:(0:Int)<10),_,rfl,?_⟩
     have a2:=gt g g1 (by omega)
     by_cases z0:g % 10=0
     . rw[if_pos z0]
       refine⟨_,rfl,_,rfl,_,rfl,z.toNat,tn2,by omega,_,_,rfl,rfl,mC _ _ (by rw[eT];omega) (by rw[eT];omega),_,rfl,z.toNat,tn2,by omega,_,_,rfl,rfl,_,rfl,z.toNat,tn2,by omega,_,_,rfl,rfl,nC _ _ (by decide) (by decide),_,rfl,_,_,rfl,rfl,mC _ _ (by decide) (by decide),_,_,rfl,rfl,z6,fun l nl=>?_⟩
       rw[eT]
       refine⟨l,[1,g,g*B0 z,B0 z-1,5*B0 z,g*10+5],Same.upd nl,nl,A6,rfl,fun x hx=>?_,rfl⟩
       rw[e27]
       simp only[List.mem_cons,List.not_mem_nil,or_false] at hx
       rcases hx with rfl|rfl|rfl|rfl|rfl|rfl<;>omega
     . rw[if_neg z0]
       refine⟨_,rfl,_,rfl,_,rfl,z.toNat,tn2,by omega,_,_,rfl,rfl,mC _ _ (by rw[eT];omega) (by rw[eT];omega),_,rfl,z.toNat,tn2,by omega,_,_,rfl,rfl,_,rfl,z.toNat,tn2,by omega,_,_,rfl,rfl,nC _ _ (by decide) (by decide),_,rfl,_,_,rfl,rfl,mC _ _ (by decide) (by decide),_,_,rfl,rfl,z6,fun l nl=>?_⟩
       rw[eT]
       refine⟨l,[g % 10,g,g*B0 z,B0 z-1,5*B0 z,g*10+5],Same.upd nl,nl,A6,rfl,fun x hx=>?_,rfl⟩
       rw[e27]
       simp only[List.mem_cons,List.not_mem_nil,or_false] at hx
       rcases hx with rfl|rfl|rfl|rfl|rfl|rfl<;>omega
   rintro σ' H3 ⟨l,xs,s3,nl,el,len,all,rfl⟩
   refine⟨fun σ' H'=>∃xs:List Int,Same H2 H'/\H' l=some (.lst (xs.map V.int))/\xs.length=7/\(∀x∈xs,1<=x/\x<B0 27)/\σ'=[some (.int c),some (.int z),some (.int g),some (.ref l)],?_,?_⟩
   . refine⟨_,rfl,.inl ⟨rfl,_,SqL.of el⟩,_,rfl,_,_,rfl,rfl,nC _ _ (by decide) (by decide),_,_,rfl,rfl,_,rfl,z.toNat,tn2,by omega,_,_,rfl,rfl,mC _ _ (by rw[eT];omega) (by rw[eT];omega),_,rfl,_,_,rfl,rfl,dv (n:=7) (by decide) (by decide+kernel),_,_,rfl,rfl,(by decide:(0:Int)<3),_,_,rfl,rfl,_,_,rfl,rfl,l,_,_,rfl,rfl,el,Y5 (by rw[List.length_map,len];decide),?_⟩
     have a2:=gt (10*g+5) (by omega) (by omega)
     refine⟨xs++ [(10*g+5)*B0 z+c/7 % 3-1],Same.put s3 nl,?_,by rw[List.length_append,len];rfl,fun x hx=>?_,rfl⟩
     . rw[A6,List.map_append]
       rfl
     . rcases List.mem_append.mp hx with h|h
       . exact all x h
       . rw[List.mem_singleton.mp h,e27]
         omega
   clear el len all xs s3 H3
   rintro σ' H3 ⟨xs,s3,el,len,all,rfl⟩
   refine⟨fun σ' H'=>∃xs:List Int,Same H2 H'/\H' l=some (.lst (xs.map V.int))/\xs.length=8/\(∀x∈xs,1<=x/\x<B0 27)/\σ'=[some (.int c),some (.int z),some (.int g),some (.ref l)],?_,?_⟩
   . have a3:1<=g*7919*104729*(g+48271)*15485863/\g*7919*104729*(g+48271)*15485863<1000000000000000000000000000:=by
       have p1:1*1<=g*7919*104729*(g+48271):=Int.mul_le_mul (by omega) (by omega) (by decide) (by omega)
       have p2:g*7919*104729*(g+48271)<=82934895100000*148271:=Int.mul_le_mul (by omega) (by omega) (by omega) (by decide)
       omega
     refine⟨_,rfl,.inl ⟨rfl,_,SqL.of el⟩,_,rfl,_,_,rfl,rfl,mC _ _ (by decide) (by decide),_,_,rfl,rfl,mC _ _ (by decide) (by decide),_,rfl,_,_,rfl,rfl,_,_,rfl,rfl,mC _ _ (by omega) (by omega),_,_,rfl,rfl,mC _ _ (by decide) (by decide),l,_,_,rfl,rfl,el,Y5 (by rw[List.length_map,len];decide),?_⟩
     refine⟨xs++ [g*7919*104729*(g+48271)*15485863],Same.put s3 nl,?_,by rw[List.length_append,len];rfl,fun x hx=>?_,rfl⟩
     . rw[A6,List.map_append]
       rfl
     . rcases List.mem_append.mp hx with h|h
       . exact all x h
       . rw[List.mem_singleton.mp h,e27]
         exact a3
   clear el len all xs s3 H3
   rintro σ' H3 ⟨xs,s3,el,len,all,rfl⟩
   obtain⟨t,ht,ix⟩:=ixs (xs:=xs) (i:=c % 8) (Int.emod_nonneg _ (by decide)) (by rw[len];exact Int.emod_lt_of_pos _ (by decide))
   exact⟨_,rfl,_,rfl,_,_,rfl,rfl,(by decide:(0:Int)<8),l,_,_,_,rfl,rfl,SqL.of el,ix,k t H3 (all t ht).1 (all t ht).2 s3⟩
end
theorem Y1x{n:Int}(h:0<=n):∃k:Nat,n=(k:Int)/\((10^k:Nat):Int)=B0 n:=by
 obtain⟨k,rfl⟩:=Int.eq_ofNat_of_zero_le h
 exact⟨k,rfl,rfl⟩
theorem Y0k{b:Bool}{A B:Prop}(h1:b=true ->A)(h2:b=false ->B):if b=true then A else B:=by
 cases b with
 |true=>exact h1 rfl
 |false=>exact h2 rfl
noncomputable def G6d (b:Bool) (z:Str):List Str:=if b=true then [z] else []
theorem J6r(b:Bool)(z:Str):(List.replicate (if b=true then(1:Int) else 0).toNat [V.str z]).flatten=(G6d b z).map V.str:=by cases b<;>rfl
theorem Z4z{y:Wy}{s w pt:Int}(h:pt≠0):upI y s w pt=w+(if y.goes s (w % 10) pt=true then 1 else 0):=by
 unfold upI
 rw[if_neg h]
 split<;>omega
theorem G5p{u:Int}(h0:0<=u)(h:u<=B0 24):u.natAbs.log2<1920:=by
 have e:B0 24<2^300:=by decide+kernel
 refine Nat.lt_trans (A3b (i:=u) (k:=300) ?_ (by decide)) (by decide)
 have:u<2^300:=by omega
 have:((u.natAbs:Nat):Int)<((2^300:Nat):Int):=by
   rw[Int.natAbs_of_nonneg h0]
   exact this
 exact Int.ofNat_lt.mp this
theorem B9g(b:Bool)(z:V): -(2^63)<=(if b=true then(1:Int) else 0)/\(if b=true then(1:Int) else 0)<2^63/\ [z].length*(if b=true then(1:Int) else 0).toNat<=sizeLine:=by
 cases b
 . exact⟨by decide,by decide,C9 (by simp)⟩
 . exact⟨by decide,by decide,C9 (by simp)⟩
theorem J5x(b:Bool)(z:V):(List.replicate (if b=true then(1:Int) else 0).toNat [z]).flatten.length<=1:=by cases b<;>simp
theorem Y7w(zs:List Str)(f:Str ->Bool):zs.filter f=((List.range zs.length).filter fun i=>f (zs.getD i "")).map fun i=>zs.getD i "":=by
 have e:zs=(List.range zs.length).map fun i=>zs.getD i "":=by
   apply List.ext_getElem
   . simp
   . intro i h1 h2
     simp[h1]
 conv=>lhs;rw[e]
 rw[List.filter_map]
 rfl
theorem Y1w{zs:List Str}{f:Str ->Bool}{ys:List V}(hl:ys.length=((List.range zs.length).filter fun i=>f (zs.getD i "")).length)(h:∀(j i:Nat) (y:V),((List.range zs.length).filter fun i=>f (zs.getD i ""))[j]?=some i ->ys[j]?=some y ->y= .str (zs.getD i "")):
   ys=(zs.filter f).map V.str:=by
 rw[Y7w]
 apply List.ext_getElem
 . simp[hl]
 . intro j h1 h2
   have hj:j<((List.range zs.length).filter fun i=>f (zs.getD i "")).length:=by rw[<-hl];exact h1
   have z:=h j _ ys[j] (List.getElem?_eq_getElem hj) (List.getElem?_eq_getElem h1)
   simp only[List.getElem_map]
   exact z
noncomputable abbrev B4r:Stmt:=(top 53)
noncomputable abbrev G6v:Stmt:=(top 59)
noncomputable abbrev A5h:Stmt:=(top 60)
section
variable{P:Program}{w:World}{K:Frag}{mg:Str ->Option Value}{base:Heap}
noncomputable def D1e:Sp:=fun vs H Q _=>vs=[]/\∀l,H l=none ->Q (.ref l) (upd H l (.lst (sigS.map V.str)))
theorem Y8y:FnScope [] [] (A1 B4r):=scK
theorem Y3f(D:Def K mg "_law_signals" [] B4r f fd):FnOk P w K mg base (CX1 P w) 1 f fd [] D1e:=by
 refine FnOk.up (D.F.ok Y8y (fun vs H Q E h=>?_) (fun cdv A outer s H vs Q E hr h=>?_))
 . obtain⟨rfl,_⟩:=h
   rfl
 . obtain⟨rfl,k⟩:=h
   refine⟨_,(B3 (C4 (U4 (A0 C5 (A0 C5 (A0 C5 (A0 C5 (A0 C5 (A0 C5 (A0 C5 A8)))))))))),?_⟩
   exact⟨C9 (by decide),k⟩
noncomputable def Y6w:Sp:=fun vs H Q _=>∃f p:Int,vs=[.int f,.int p]/\f.natAbs.log2<1920/\Q (.int (G9 f-1+p)) H
theorem Z4d:FnScope ["_law_whole_here","_law_power"] ["_law_whole_here","_law_power"] (A1 G6v):=scK
theorem Y8m(D:Def K mg "_law_lead" ["_law_whole_here","_law_power"] G6v f fd)(O:Own mg):FnOk P w K mg base (CX1 P w) 1 f fd ["_law_whole_here","_law_power"] Y6w:=by
 refine FnOk.up (D.F.ok Z4d (fun vs H Q E h=>?_) (fun cdv A outer s H vs Q E hr h=>?_))
 . obtain⟨f,p,rfl,_⟩:=h
   rfl
 . obtain⟨f,p,rfl,lg,k⟩:=h
   refine⟨_,(B3 (C4 (B7 G8 (B7 U2 (U9 Y2 (by rfl) O.len_ PySem.boot_len (A0 (J0 V5 (by rfl) O.str_ boot_str (A0 (pv 0) A8)) A8)) A3) (pv 1)))),?_⟩
   exact⟨_,rfl,_,rfl,lg,_,rfl,int_text_fits lg,_,_,rfl,rfl,_,rfl,_,_,rfl,rfl,k⟩
end
theorem J7e{t n:Int}(h1:1<=t)(h2:t<B0 n)(hn:n<=400):1<=G9 t/\G9 t<=n:=by
 have b:=C1a (SzL.sz (t:=t) ⟨h1,Int.lt_of_lt_of_le h2 (U8 (by omega))⟩)
 refine⟨b.2.2,Classical.byContradiction fun z=>?_⟩
 have:=U8 (show n<=G9 t-1 by omega)
 omega
structure RatIn(t b n:Int):Prop where
 t1:1<=t
 t2:t<B0 61
 b1:1<=b
 b2:b<B0 11
 n0: -200<=n
 n1:n<=200
theorem RatIn.st{t b n:Int}(h:RatIn t b n):SzL t:=⟨h.t1,Int.lt_of_lt_of_le h.t2 (U8 (by decide))⟩
theorem RatIn.sb{t b n:Int}(h:RatIn t b n):SzL b:=⟨h.b1,Int.lt_of_lt_of_le h.b2 (U8 (by decide))⟩
theorem RatIn.set{t b n:Int}{v:Cv}{s:Int}(h:RatIn t b n)(ok:v.Ok)(s0:0<=s)(s1:s<=1):SetOk v s (.rat t b n):=by
 have n0:=h.n0;have n1:=h.n1
 exact⟨ok,s0,s1,⟨h.t1,h.b1⟩,Y7u ⟨h.t1,h.b1⟩ (D1x h.st.sz h.sb.sz n),(U6v (v:=v) ok h.st h.sb (n:=n) (by omega) (by omega)).2.2⟩
theorem RatIn.lf{t b n:Int}(h:RatIn t b n): -11<=B5 t b/\B5 t b<=60:=by
 have a:=J7e h.t1 h.t2 (by decide)
 have c:=J7e h.b1 h.b2 (by decide)
 unfold B5
 split<;>omega
noncomputable abbrev stS (pq eq:Addr) (s i:Int) (v:Cv) (t b n:Int) (x11 x12 x13 x14 x15 x16 x17 x18:Option V):L2.St:=[some (.ref pq),some (.int s),some (.ref eq),some (.int i),some (.int v.r),some (.str v.y.name),some (.int v.l),some (.int v.m),some (.int t),some (.int b),some (.int n),x11,x12,x13,x14,x15,x16,x17,x18]
noncomputable def Y2f (H:Hp) (q:Addr) (R:Nm×List Str):Prop:=∃tt l,∃zs:List Str,H q=some (.tup [.ref tt,.ref l])/\H tt=some (.tup R.1.vs)/\H l=some (.lst (zs.map V.str))/\(∀z,z∈zs↔z∈R.2)/\zs.length<=4
theorem G1d(b:Bool)(z:Str):(G6d b z).length<=1:=by cases b<;>simp[G6d]
theorem J7f{b:Bool}{z y:Str}:z∈G6d b y↔b=true/\z=y:=by cases b<;>simp[G6d]
theorem Y9s(n:Nat):decide (V.str ⟨#[(Nat.digitChar (n % 10)).toNat]⟩=V.str "0")=decide (n % 10=0):=by
 have h:n % 10<10:=Nat.mod_lt _ (by decide)
 generalize n % 10=d at*
 rcases(by omega:d=0\/d=1\/d=2\/d=3\/d=4\/d=5\/d=6\/d=7\/d=8\/d=9) with rfl|rfl|rfl|rfl|rfl|rfl|rfl|rfl|rfl|rfl<;>decide+kernel
theorem U5f{U r:Int}(u0:0<=U)(u1:U<=B0 r)(r1:1<=r)(r2:r<=24):G9 U>r↔U=B0 r:=by
 have tp:=J7d r1
 rcases(show U=0\/0<U by omega) with e|e
 . rw[e]
   have:G9 0=1:=by decide+kernel
   omega
 . refine⟨fun h=>?_,fun h=>?_⟩
   . refine Classical.byContradiction fun z=>?_
     have:=(Z3h e (show U<B0 r by omega) r2).2.1
     omega
   . have b:=C1a (SzL.sz (t:=U) ⟨e,Int.lt_of_le_of_lt u1 (Int.lt_of_lt_of_le (show B0 r<B0 25 from Int.lt_of_le_of_lt (U8 r2) (by decide+kernel)) (U8 (by decide)))⟩)
     refine Classical.byContradiction fun z=>?_
     have:=U8 (show G9 U<=r by omega)
     omega
noncomputable def Y1z (b:Bool):List Str:=if b=true then ["faint","sunk"] else []
theorem Y2w(b:Bool):(List.replicate (if b=true then(1:Int) else 0).toNat [V.str "faint",V.str "sunk"]).flatten=(Y1z b).map V.str:=by cases b<;>rfl
theorem Y0v(b:Bool)(y z:V):(List.replicate (if b=true then(1:Int) else 0).toNat [y,z]).flatten.length<=2:=by cases b<;>simp
theorem Y0f(b:Bool)(y z:V): [y,z].length*(if b=true then(1:Int) else 0).toNat<=sizeLine:=by
 cases b
 . exact C9 (by simp)
 . exact C9 (by simp)
section
variable{P:Program}{w:World}{K:Frag}{mg:Str ->Option Value}{base:Heap}
noncomputable def G1b:Sp:=fun vs H Q _=>∃pq eq,∃(v:Cv) (s t b n i:Int),vs=[.ref pq,.int s,.ref eq,.int i]/\H pq=some (.tup v.vs)/\v.Ok/\H eq=some (.tup [.int t,.int b,.int n])/\RatIn t b n/\0<=s/\s<=1/\∀q H',Same H H' ->Y2f H' q (setL v s (.rat t b n) i) ->Q (.ref q) H'
theorem scLSet12:FnScope ["_law_parts","_law_sign","_law_exact","_law_ideal","_law_room","_law_name","_law_least","_law_most","_law_top_here","_law_bottom","_law_power","_law_first","_law_finest","_law_high","_law_low","_law_whole_here","_law_left","_law_some","_law_part"] ["_law_parts","_law_sign","_law_exact","_law_ideal"] (A1 A5h):=scK
theorem J9e (D :Def K mg "_law_settled" ["_law_parts","_law_sign","_law_exact","_law_ideal"] A5h f fd) (dA:Def K mg "_law_ten" ["_law_count"] B9f f1 fd1) (dB:FnOk P w K mg base (CX1 P w) 1 f1 fd1 ["_law_count"] G6g)
   (dC:Def K mg "_law_goes_up" ["_law_name","_law_sign","_law_near","_law_part"] B2v f2 fd2) (dD:FnOk P w K mg base (CX1 P w) 1 f2 fd2 ["_law_name","_law_sign","_law_near","_law_part"] J5t) (dE:Def K mg "_law_to_end" ["_law_name","_law_sign"] A5e f3 fd3) (dF:FnOk P w K mg base (CX1 P w) 1 f3 fd3 ["_law_name","_law_sign"] G0b)
   (dG:Def K mg "_law_lead" ["_law_whole_here","_law_power"] G6v f4 fd4) (dH:FnOk P w K mg base (CX1 P w) 1 f4 fd4 ["_law_whole_here","_law_power"] Y6w) (O:Own mg):FnOk P w K mg base (CX1 P w) 2 f fd ["_law_parts","_law_sign","_law_exact","_law_ideal"] G1b:=by
 refine D.F.okE scLSet12 (fun vs H Q E h=>?_) (fun X cdv A outer s H vs Q E hX hr hx h=>?_)
 . obtain⟨pq,eq,v,sg,t,b,n,i,rfl,_⟩:=h
   rfl
 . subst hX
   obtain⟨pq,eq,v,sg,t,b,n,i,rfl,ep,ok,ee,ri,s0,s1,k⟩:=h
   refine⟨_,(A7 (C7 (G6t (pv 0) (G6z rfl (Y8 (V6 (i:=4) scLSet12.nd rfl (Or.inl rfl)) (Y8 (V6 (i:=5) scLSet12.nd rfl (Or.inl rfl)) (Y8 (V6 (i:=6) scLSet12.nd rfl (Or.inl rfl)) (Y8 (V6 (i:=7) scLSet12.nd rfl (Or.inl rfl)) B9w)))))))
     (A7 (C7 (G6t (pv 2) (G6z rfl (Y8 (V6 (i:=8) scLSet12.nd rfl (Or.inl rfl)) (Y8 (V6 (i:=9) scLSet12.nd rfl (Or.inl rfl)) (Y8 (V6 (i:=10) scLSet12.nd rfl (Or.inl rfl)) B9w))))))
     (A7 (C7 (D3 (i:=11) scLSet12.nd rfl (Or.inl rfl) (B7 G8 (B7 U2 (U9 Y2 (by rfl) O.len_ PySem.boot_len (A0 (J0 V5 (by rfl) O.str_ boot_str (A0 (pv 8) A8)) A8)) (U9 Y2 (by rfl) O.len_ PySem.boot_len (A0 (J0 V5 (by rfl) O.str_ boot_str (A0 (pv 9) A8)) A8))) (pv 10))))
     (A7 (C7 (J9 (D0 C0c (B7 G7 (pv 8) (G0 dA dB hr hx (A0 (U9 (A0a rfl) (by rfl) O.max_ boot_max (A0 (B7 U2 (pv 10) (pv 11)) (A0 A3 A8))) A8))) (B7 G7 (pv 9) (G0 dA dB hr hx (A0 (U9 (A0a rfl) (by rfl) O.max_ boot_max (A0 (B7 U2 (pv 11) (pv 10)) (A0 A3 A8))) A8))) (C8 _)) (B3 (C7 (C0u (i:=11) scLSet12.nd rfl (Or.inl rfl) A3 Y7n))) D4))
     (A7 (C7 (D3 (i:=12) scLSet12.nd rfl (Or.inl rfl) (U9 (A0a rfl) (by rfl) O.max_ boot_max (A0 (B7 G8 (B7 U2 (pv 11) (pv 4)) A3) (A0 (B7 G8 (B7 U2 (pv 6) (pv 4)) A3) A8)))))
     (A7 (C7 (D3 (i:=13) scLSet12.nd rfl (Or.inl rfl) (B7 G7 (pv 8) (G0 dA dB hr hx (A0 (U9 (A0a rfl) (by rfl) O.max_ boot_max (A0 (B7 U2 (pv 10) (pv 12)) (A0 A3 A8))) A8)))))
     (A7 (C7 (D3 (i:=14) scLSet12.nd rfl (Or.inl rfl) (B7 G7 (pv 9) (G0 dA dB hr hx (A0 (U9 (A0a rfl) (by rfl) O.max_ boot_max (A0 (B7 U2 (pv 12) (pv 10)) (A0 A3 A8))) A8)))))
     (A7 (C7 (D3 (i:=15) scLSet12.nd rfl (Or.inl rfl) (B7 D9 (pv 13) (pv 14))))
     (A7 (C7 (D3 (i:=16) scLSet12.nd rfl (Or.inl rfl) (B7 U2 (pv 13) (B7 G7 (pv 15) (pv 14)))))
     (A7 (C7 (D3 (i:=17) scLSet12.nd rfl (Or.inl rfl) (U4 A8)))
     (A7 (C7 (J9 (D0 U0 (pv 16) A3 (C8 _)) (A7 (C7 (B4s PassesOwn.leaving (PW.pt (C1t (D0 C0c (pv 12) (pv 3) (C8 _)) (B4u (D0 U0 (U5 U7a (J0 V5 (by rfl) O.str_ boot_str (A0 (pv 15) A8)) (G0r C0k A3) (fun _ _=>rfl)) C5 (C8 _))))) (A7 (C7 (D3 (i:=15) scLSet12.nd rfl (Or.inl rfl) (B7 D9 (pv 15) A3)))
     (B3 (C7 (C0u (i:=12) scLSet12.nd rfl (Or.inl rfl) A3 D0x))))))
     (B3 (C7 (D3 (i:=17) scLSet12.nd rfl (Or.inl rfl) (B7 C0v (B7 G7n (U4 (A0 C5 A8)) (J0 A2m (by rfl) O.int_ boot_int (A0 (G3 C2b (pv 12) (pv 3) (C8 _)) A8))) (B7 G7n (U4 (A0 C5 A8)) (J0 A2m (by rfl) O.int_ boot_int (A0 (G3 C0c (pv 11) (pv 6) (C8 _)) A8)))))))) (A7 (C7 (D3 (i:=18) scLSet12.nd rfl (Or.inl rfl) (B7 G8 (B7 G8 A3 (J0 A2m (by rfl) O.int_ boot_int (A0 (G3 J5r (B7 G7 A3 (pv 16)) (pv 14) (C8 _)) A8))) (J0 A2m (by rfl) O.int_ boot_int (A0 (G3 C2b (B7 G7 A3 (pv 16)) (pv 14) (C8 _)) A8)))))
     (A7 (C7 (C0u (i:=15) scLSet12.nd rfl (Or.inl rfl) (J0 A2m (by rfl) O.int_ boot_int (A0 (G0 dC dD hr hx (A0 (pv 5) (A0 (pv 1) (A0 (pv 15) (A0 (pv 18) A8))))) A8)) D0x))
     (A7 (C7 (J9 (D0 C2b (U9 Y2 (by rfl) O.len_ PySem.boot_len (A0 (J0 V5 (by rfl) O.str_ boot_str (A0 (pv 15) A8)) A8)) (pv 4) (C8 _)) (A7 (C7 (D3 (i:=15) scLSet12.nd rfl (Or.inl rfl) (B7 D9 (pv 15) A3)))
     (B3 (C7 (C0u (i:=12) scLSet12.nd rfl (Or.inl rfl) A3 D0x)))) D4))
     (B3 (C7 (D3 (i:=17) scLSet12.nd rfl (Or.inl rfl) (B7 C0v (U4 (A0 C5 (A0 C5 A8))) (B7 G7n (U4 (A0 C5 (A0 C5 A8))) (J0 A2m (by rfl) O.int_ boot_int (A0 (G3 C0c (pv 11) (pv 6) (C8 _)) A8))))))))))))
     (A7 (C7 (J9 (PW.pt (G1h (D0 U0 (pv 15) A3 (C8 _)) (C1d (D0 U4f (G0 dG dH hr hx (A0 (pv 15) (A0 (pv 12) A8))) (pv 7) (C8 _))))) (B3 (C4 (Y9 (A0 (Y9 (A0 C5 (A0 (pv 1) (A0 (pv 15) (A0 (pv 12) A8))))) (A0 (pv 17) A8))))) D4))
     (A7 (C7 (J9 (Y0 (G0 dE dF hr hx (A0 (pv 5) (A0 (pv 1) A8)))) (B3 (C4 (Y9 (A0 (Y9 (A0 C5 (A0 (pv 1) (A0 A3 (A0 A3 A8))))) (A0 (U4 (A0 C5 (A0 C5 (A0 C5 A8)))) A8))))) D4))
     (B3 (C4 (Y9 (A0 (Y9 (A0 C5 (A0 (pv 1) (A0 (B7 U2 (G0 dA dB hr hx (A0 (pv 4) A8)) A3) (A0 (B7 G8 (B7 U2 (pv 7) (pv 4)) A3) A8))))) (A0 (U4 (A0 C5 (A0 C5 (A0 C5 A8)))) A8)))))))))))))))))),?_⟩
   have S:=ri.set (v:=v) ok s0 s1
   have t1:=ri.t1;have b1:=ri.b1;have n0:=ri.n0;have n1:=ri.n1
   have r1:=ok.r1;have r2:=ok.r2;have l1:=ok.l1;have l2:=ok.l2;have m1:=ok.m1;have m2:=ok.m2
   have lt:=ri.st.log
   have lb:=ri.sb.log
   have ht:=ri.st.sz
   have hb:=ri.sb.sz
   have lf:=ri.lf
   have ft:=J7e ri.t1 ri.t2 (by decide)
   have fb:=J7e ri.b1 ri.b2 (by decide)
   have z0:0<=sizeLine:=Nat.zero_le _
   have z1:1<=sizeLine:=C9 (by decide)
   have z2:2<=sizeLine:=C9 (by decide)
   have z3:3<=sizeLine:=C9 (by decide)
   have z4:4<=sizeLine:=C9 (by decide)
   refine⟨fun σ' H'=>H'=H/\σ'=[some (.ref pq),some (.int sg),some (.ref eq),some (.int i),some (.int v.r),some (.str v.y.name),some (.int v.l),some (.int v.m),none,none,none,none,none,none,none,none,none,none,none],⟨_,rfl,pq,_,rfl,SqT.of ep,rfl,_,_,rfl,_,_,rfl,_,_,rfl,_,_,rfl,rfl,rfl,rfl⟩,?_⟩
   rintro σ' H1 ⟨rfl,rfl⟩
   refine⟨fun σ' H'=>H'=H1/\σ'=stS pq eq sg i v t b n none none none none none none none none,⟨_,rfl,eq,_,rfl,SqT.of ee,rfl,_,_,rfl,_,_,rfl,_,_,rfl,rfl,rfl,rfl⟩,?_⟩
   rintro σ' H2 ⟨rfl,rfl⟩
   refine⟨fun σ' H'=>H'=H2/\σ'=stS pq eq sg i v t b n (some (.int (G9 t-G9 b+n))) none none none none none none none,⟨_,rfl,_,rfl,lt,_,rfl,int_text_fits lt,_,rfl,_,rfl,lb,_,rfl,int_text_fits lb,_,_,rfl,rfl,_,rfl,_,_,rfl,rfl,rfl,rfl⟩,?_⟩
   rintro σ' H3 ⟨rfl,rfl⟩
   have e1:n-(G9 t-G9 b+n)= -(G9 t-G9 b):=by omega
   have e2:G9 t-G9 b+n-n=G9 t-G9 b:=by omega
   refine⟨fun σ' H'=>H'=H3/\σ'=stS pq eq sg i v t b n (some (.int (n+B5 t b))) none none none none none none none,?_,?_⟩
   . refine⟨_,rfl,_,rfl,_,rfl,_,_,rfl,rfl,_,_,rfl,(n-(G9 t-G9 b+n)).toNat,Y1b _,by omega,_,_,rfl,rfl,B5x ht (by omega),_,rfl,_,rfl,_,rfl,_,_,rfl,rfl,_,_,rfl,(G9 t-G9 b+n-n).toNat,Y1b _,by omega,_,_,rfl,rfl,B5x hb (by omega),_,_,rfl,rfl,_,rfl,Y3 (fun c=>?_) (fun c=>⟨rfl,?_⟩)⟩
     . have c:t*B0 (n-(G9 t-G9 b+n))<b*B0 (G9 t-G9 b+n-n):=c
       rw[e1,e2] at c
       refine⟨_,?_,fun _ _ h=>h⟩
       refine⟨_,rfl,_,_,rfl,rfl,rfl,?_⟩
       unfold B5
       rw[if_pos c,show n+(G9 t-G9 b-1)=G9 t-G9 b+n-1 by omega]
       rfl
     . have c:¬t*B0 (n-(G9 t-G9 b+n))<b*B0 (G9 t-G9 b+n-n):=c
       rw[e1,e2] at c
       unfold B5
       rw[if_neg c,show n+(G9 t-G9 b)=G9 t-G9 b+n by omega]
   rintro σ' H4 ⟨rfl,rfl⟩
   refine⟨fun σ' H'=>H'=H4/\σ'=stS pq eq sg i v t b n (some (.int (n+B5 t b))) (some (.int (v.fin (n+B5 t b)))) none none none none none none,⟨_,rfl,_,rfl,_,_,rfl,rfl,_,_,rfl,rfl,_,rfl,_,rfl,_,_,rfl,rfl,_,_,rfl,rfl,_,_,rfl,rfl,rfl⟩,?_⟩
   rintro σ' H5 ⟨rfl,rfl⟩
   have fb':=Z5e ok (n+B5 t b)
   have w0:=S.w0
   have w1:=S.w1
   have nr:=S.near i
   have u0:=S.up0
   have sle:=Y2p v sg (.rat t b n) i
   have p0':=Z6e S.ps (v.fin (n+B5 t b))
   have pti:=Z3k (.rat t b n) (v.fin (n+B5 t b)) S.ps
   have eqn:v.fin (n+B5 t b)-n= -(n-v.fin (n+B5 t b)):=by omega
   have n600:n-v.fin (n+B5 t b)<=600/\ -(n-v.fin (n+B5 t b))<=600:=by omega
   refine⟨fun σ' H'=>H'=H5/\σ'=stS pq eq sg i v t b n (some (.int (n+B5 t b))) (some (.int (v.fin (n+B5 t b)))) (some (.int (t*B0 (n-v.fin (n+B5 t b))))) none none none none none,⟨_,rfl,_,rfl,_,rfl,_,_,rfl,rfl,_,_,rfl,(n-v.fin (n+B5 t b)).toNat,Y1b _,by omega,_,_,rfl,rfl,B5x ht (by omega),rfl,rfl⟩,?_⟩
   rintro σ' H6 ⟨rfl,rfl⟩
   refine⟨fun σ' H'=>H'=H6/\σ'=stS pq eq sg i v t b n (some (.int (n+B5 t b))) (some (.int (v.fin (n+B5 t b)))) (some (.int (t*B0 (n-v.fin (n+B5 t b))))) (some (.int (b*B0 (-(n-v.fin (n+B5 t b)))))) none none none none,?_,?_⟩
   . refine⟨_,rfl,_,rfl,_,rfl,_,_,rfl,rfl,_,_,rfl,(v.fin (n+B5 t b)-n).toNat,Y1b _,by omega,_,_,rfl,rfl,B5x hb (by omega),rfl,?_⟩
     rw[<-eqn]
     rfl
   rintro σ' H7 ⟨rfl,rfl⟩
   have lp:0<(b*B0 (-(n-v.fin (n+B5 t b)))):=Int.mul_pos (by omega) (J1 _)
   have ll:(b*B0 (-(n-v.fin (n+B5 t b)))).natAbs.log2<9000:=U6f hb (by omega)
   refine⟨fun σ' H'=>H'=H7/\σ'=stS pq eq sg i v t b n (some (.int (n+B5 t b))) (some (.int (v.fin (n+B5 t b)))) (some (.int (t*B0 (n-v.fin (n+B5 t b))))) (some (.int (b*B0 (-(n-v.fin (n+B5 t b)))))) (some (.int (whI t b (n-v.fin (n+B5 t b))))) none none none,⟨_,rfl,_,rfl,_,_,rfl,rfl,⟨lp,ll⟩,rfl,rfl⟩,?_⟩
   rintro σ' H8 ⟨rfl,rfl⟩
   refine⟨fun σ' H'=>H'=H8/\σ'=stS pq eq sg i v t b n (some (.int (n+B5 t b))) (some (.int (v.fin (n+B5 t b)))) (some (.int (t*B0 (n-v.fin (n+B5 t b))))) (some (.int (b*B0 (-(n-v.fin (n+B5 t b)))))) (some (.int (whI t b (n-v.fin (n+B5 t b))))) (some (.int ((t*B0 (n-v.fin (n+B5 t b)))- (whI t b (n-v.fin (n+B5 t b)))*(b*B0 (-(n-v.fin (n+B5 t b))))))) none none,⟨_,rfl,_,rfl,_,rfl,_,_,rfl,rfl,Y6y ht hb (by omega) (by omega),_,_,rfl,rfl,rfl,rfl⟩,?_⟩
   rintro σ' H9 ⟨rfl,rfl⟩
   refine⟨fun σ' H'=>∃l,Same H9 H'/\σ'=stS pq eq sg i v t b n (some (.int (n+B5 t b))) (some (.int (v.fin (n+B5 t b)))) (some (.int (t*B0 (n-v.fin (n+B5 t b))))) (some (.int (b*B0 (-(n-v.fin (n+B5 t b)))))) (some (.int (whI t b (n-v.fin (n+B5 t b))))) (some (.int ((t*B0 (n-v.fin (n+B5 t b)))- (whI t b (n-v.fin (n+B5 t b)))*(b*B0 (-(n-v.fin (n+B5 t b))))))) (some (.ref l)) none,⟨Nat.zero_le _,fun l nl=>⟨l,Same.upd nl,rfl⟩⟩,?_⟩
   rintro σ' H10 ⟨l0,s10,rfl⟩
   have wl:=D1u (t:=t) (s:=n-v.fin (n+B5 t b)) (show 0<b by omega)
   have wsz:(whI t b (n-v.fin (n+B5 t b)))<B0 v.r:=w1
   have w0:0<=(whI t b (n-v.fin (n+B5 t b))):=w0
   have zero:(t*B0 (n-v.fin (n+B5 t b)))- (whI t b (n-v.fin (n+B5 t b)))*(b*B0 (-(n-v.fin (n+B5 t b))))=0↔(ptI t b (n-v.fin (n+B5 t b)))=0:=by
     unfold ptI
     generalize (t*B0 (n-v.fin (n+B5 t b)))- (whI t b (n-v.fin (n+B5 t b)))*(b*B0 (-(n-v.fin (n+B5 t b))))=a at wl
     generalize (b*B0 (-(n-v.fin (n+B5 t b))))=c at wl
     refine⟨fun z=>U4u z (by omega),fun z=>Classical.byContradiction fun y=>?_⟩
     unfold Z7 at z
     rw[decide_eq_true (show 0<a by omega)] at z
     have x1:=Y7c (decide (c<=2*a))
     have x2:=Y7c (decide (c<2*a))
     have z:(1:Int)+(if decide (c<=2*a)=true then 1 else 0)+(if decide (c<2*a)=true then 1 else 0)=0:=z
     omega
   have t24:B0 v.r<=B0 24:=U8 r2
   refine⟨fun σ' H'=>∃F G z13 z14 z16 l z18,∃zs:List Str,Same H9 H'/\Z3 v sg (whI t b (n-v.fin (n+B5 t b))) (ptI t b (n-v.fin (n+B5 t b))) (v.fin (n+B5 t b)) i=(F,G)/\H' l=some (.lst (zs.map V.str))/\(∀z,z∈zs↔z∈A0p (ptI t b (n-v.fin (n+B5 t b))) (decide (G>i))++A0q v.l (n+B5 t b) (ptI t b (n-v.fin (n+B5 t b))))/\zs.length<=4/\σ'=stS pq eq sg i v t b n (some (.int (n+B5 t b))) (some (.int G)) z13 z14 (some (.int F)) z16 (some (.ref l)) z18,?_,?_⟩
   . refine ⟨_,rfl,rfl,_,rfl,?_⟩
     by_cases z:(t*B0 (n-v.fin (n+B5 t b)))- (whI t b (n-v.fin (n+B5 t b)))*(b*B0 (-(n-v.fin (n+B5 t b))))=0
     . have pz :=zero.mp z
       rw[decide_eq_true (congrArg V.int z)]
       refine Y6 ?_
       have en:Z3 v sg (whI t b (n-v.fin (n+B5 t b))) (ptI t b (n-v.fin (n+B5 t b))) (v.fin (n+B5 t b)) i=Z4 i (whI t b (n-v.fin (n+B5 t b))) (v.fin (n+B5 t b)):=by unfold Z3;rw[if_pos pz]
       refine⟨fun σ' H'=>H'=H10/\∃F G:Int,Z4 i (whI t b (n-v.fin (n+B5 t b))) (v.fin (n+B5 t b))=(F,G)/\σ'=stS pq eq sg i v t b n (some (.int (n+B5 t b))) (some (.int G)) (some (.int (t*B0 (n-v.fin (n+B5 t b))))) (some (.int (b*B0 (-(n-v.fin (n+B5 t b)))))) (some (.int F)) (some (.int ((t*B0 (n-v.fin (n+B5 t b)))- (whI t b (n-v.fin (n+B5 t b)))*(b*B0 (-(n-v.fin (n+B5 t b))))))) (some (.ref l0)) none,?_,?_⟩
       . refine B4q (fun σ H5=>H5=H10/\∃F G:Int,0<=F/\F<=(whI t b (n-v.fin (n+B5 t b)))/\Z4 i F G=Z4 i (whI t b (n-v.fin (n+B5 t b))) (v.fin (n+B5 t b))/\σ=stS pq eq sg i v t b n (some (.int (n+B5 t b))) (some (.int G)) (some (.int (t*B0 (n-v.fin (n+B5 t b))))) (some (.int (b*B0 (-(n-v.fin (n+B5 t b)))))) (some (.int F)) (some (.int ((t*B0 (n-v.fin (n+B5 t b)))- (whI t b (n-v.fin (n+B5 t b)))*(b*B0 (-(n-v.fin (n+B5 t b))))))) (some (.ref l0)) none) (fun σ _=>match σ with| [_,_,_,_,_,_,_,_,_,_,_,_,some (.int g),_,_,_,_,_,_]=>(i-g).toNat|_=>0) ⟨rfl,_,_,w0,Int.le_refl _,rfl,rfl⟩ ?_ ?_
         . rintro σ H5 ⟨rfl,F,G,F0,F1,es,rfl⟩
           obtain⟨nF,enF⟩:=Int.eq_ofNat_of_zero_le F0
           have stop:¬(G<i/\F % 10=0) ->Z4 i (whI t b (n-v.fin (n+B5 t b))) (v.fin (n+B5 t b))=(F,G):=fun h=>by rw[<-es];exact C0t h
           refine⟨_,rfl,_,rfl,_,_,rfl,rfl,_,rfl,Y3 (fun c=>?_) (fun c=>U1 ⟨rfl,F,G,stop (fun h=>c h.1),rfl⟩)⟩
           have lg:F.natAbs.log2<1920:=G5p F0 (by omega)
           refine⟨_,rfl,_,rfl,lg,_,rfl,_,_,_,rfl,rfl,int_text_fits lg,by rw[enF];exact J6z nF,rfl,_,rfl,?_⟩
           rw[Y9s]
           by_cases d:nF % 10=0
           . rw[decide_eq_true d]
             refine Y6 ?_
             refine⟨fun σ' H'=>H'=H5/\σ'=stS pq eq sg i v t b n (some (.int (n+B5 t b))) (some (.int G)) (some (.int (t*B0 (n-v.fin (n+B5 t b))))) (some (.int (b*B0 (-(n-v.fin (n+B5 t b)))))) (some (.int (F/10))) (some (.int ((t*B0 (n-v.fin (n+B5 t b)))- (whI t b (n-v.fin (n+B5 t b)))*(b*B0 (-(n-v.fin (n+B5 t b))))))) (some (.ref l0)) none,⟨_,rfl,_,_,rfl,rfl,⟨by decide,by decide+kernel⟩,rfl,rfl⟩,?_⟩
             rintro σ' H6' ⟨rfl,rfl⟩
             refine⟨_,?_,fun _ _ h=>h⟩
             refine⟨_,rfl,_,_,rfl,rfl,⟨rfl,F/10,G+1,by omega,by omega,?_,rfl⟩,?_⟩
             . rw[<-es]
               exact(C1s c (by omega)).symm
             . show(i-(G+1)).toNat<(i-G).toNat
               have c:G<i:=c
               omega
           . rw[decide_eq_false d]
             exact U1 ⟨rfl,F,G,stop (fun h=>d (by have:=h.2;omega)),rfl⟩
         . rintro σ H5 Q1 Q2 hQ ⟨v1,e1,v2,e2,i1,j1,e6,e7,bb,eb,z⟩
           refine⟨v1,e1,v2,e2,i1,j1,e6,e7,bb,eb,?_⟩
           by_cases hb:bb=true
           . rw[if_pos hb] at z ⊢
             obtain⟨u1,f1,u2,f2,lg,u3,f3,a1,a2,a3,f4,f5,f6,f7,f8,u4,f9,z⟩:=z
             exact⟨u1,f1,u2,f2,lg,u3,f3,a1,a2,a3,f4,f5,f6,f7,f8,u4,f9,hQ _ _ z⟩
           . rw[if_neg hb] at z ⊢
             exact hQ _ _ z
       rintro σ' H11 ⟨rfl,F,G,es,rfl⟩
       refine⟨_,?_,fun _ _ h=>h⟩
       refine⟨z1,fun l1 n1=>⟨_,rfl,_,rfl,_,_,rfl,rfl,.inr ⟨_,rfl,l1,_,_,rfl,rfl,A6,(B9g _ .non).1,(B9g _ .non).2.1,(B9g _ _).2.2,fun p1 np1=>?_⟩⟩⟩
       refine⟨z1,fun l2 n2=>⟨_,rfl,_,rfl,_,_,rfl,rfl,.inr ⟨_,rfl,l2,_,_,rfl,rfl,A6,(B9g _ .non).1,(B9g _ .non).2.1,(B9g _ _).2.2,fun p2 np2=>?_⟩⟩⟩
       refine⟨p1,p2,_,_,rfl,rfl,Same.upd np2 _ _ (Same.upd n2 _ _ A6),A6,C9 (Nat.le_trans (Nat.add_le_add (J5x _ _) (J5x _ _)) (by decide)),fun p3 np3=>?_⟩
       refine⟨F,G,_,_,_,p3,none,G6d (decide (G>i)) "cut"++G6d (decide (n+B5 t b<v.l)) "faint",s10.trans ((Same.upd n1).trans ((Same.upd np1).trans ((Same.upd n2).trans ((Same.upd np2).trans (Same.upd np3))))),by rw[en,es],by rw[A6,J6r,J6r,List.map_append],fun y=>?_,?_,rfl⟩
       . rw[List.mem_append,J7f,J7f,List.mem_append]
         unfold A0p A0q
         rw[if_pos pz,if_pos pz]
         by_cases c1:G>i
         . rw[decide_eq_true c1,if_pos rfl]
           by_cases c2:n+B5 t b>=v.l
           . rw[if_pos c2,decide_eq_false (by omega)];simp
           . rw[if_neg c2,decide_eq_true (by omega)];simp
         . rw[decide_eq_false c1,if_neg Bool.false_ne_true]
           by_cases c2:n+B5 t b>=v.l
           . rw[if_pos c2,decide_eq_false (by omega)];simp
           . rw[if_neg c2,decide_eq_true (by omega)];simp
       . rw[List.length_append]
         have:=G1d (decide (G>i)) "cut"
         have:=G1d (decide (n+B5 t b<v.l)) "faint"
         omega
     . have pz:(ptI t b (n-v.fin (n+B5 t b)))≠0:=fun y=>z (zero.mpr y)
       rw[decide_eq_false (fun y=>z (V.int.inj y))]
       refine U1 ?_
       have wl0:0<((t*B0 (n-v.fin (n+B5 t b)))- (whI t b (n-v.fin (n+B5 t b)))*(b*B0 (-(n-v.fin (n+B5 t b))))):=by omega
       have ept:(ptI t b (n-v.fin (n+B5 t b)))=1+(if decide (2*((t*B0 (n-v.fin (n+B5 t b)))- (whI t b (n-v.fin (n+B5 t b)))*(b*B0 (-(n-v.fin (n+B5 t b)))))>=(b*B0 (-(n-v.fin (n+B5 t b)))))=true then(1:Int) else 0)+(if decide (2*((t*B0 (n-v.fin (n+B5 t b)))- (whI t b (n-v.fin (n+B5 t b)))*(b*B0 (-(n-v.fin (n+B5 t b)))))>(b*B0 (-(n-v.fin (n+B5 t b)))))=true then(1:Int) else 0):=by
         unfold ptI Z7
         rw[decide_eq_true wl0]
         rfl
       have mC:∀x:Int,IntMulOk 2 x:=fun x=>CMul.ok (.inl ⟨by decide,by decide⟩)
       refine⟨fun σ' H'=>H'=H10/\σ'=stS pq eq sg i v t b n (some (.int (n+B5 t b))) (some (.int (v.fin (n+B5 t b)))) (some (.int (t*B0 (n-v.fin (n+B5 t b))))) (some (.int (b*B0 (-(n-v.fin (n+B5 t b)))))) (some (.int (whI t b (n-v.fin (n+B5 t b))))) (some (.int ((t*B0 (n-v.fin (n+B5 t b)))- (whI t b (n-v.fin (n+B5 t b)))*(b*B0 (-(n-v.fin (n+B5 t b))))))) (some (.ref l0)) (some (.int (ptI t b (n-v.fin (n+B5 t b))))),?_,?_⟩
       . refine⟨_,rfl,_,_,rfl,rfl,mC _,_,rfl,_,_,rfl,rfl,.inr ⟨_,rfl,_,_,rfl,rfl,_,rfl,_,_,rfl,rfl,mC _,_,rfl,_,_,rfl,rfl,.inr ⟨_,rfl,_,_,rfl,rfl,rfl,?_⟩⟩⟩
         rw[ept]
         rfl
       rintro σ' H11 ⟨rfl,rfl⟩
       have up:=S.up0
       have up:0<=(upI v.y sg (whI t b (n-v.fin (n+B5 t b))) (ptI t b (n-v.fin (n+B5 t b))))/\(upI v.y sg (whI t b (n-v.fin (n+B5 t b))) (ptI t b (n-v.fin (n+B5 t b))))<=B0 v.r:=up
       refine⟨fun σ' H'=>Same H11 H'/\σ'=stS pq eq sg i v t b n (some (.int (n+B5 t b))) (some (.int (v.fin (n+B5 t b)))) (some (.int (t*B0 (n-v.fin (n+B5 t b))))) (some (.int (b*B0 (-(n-v.fin (n+B5 t b)))))) (some (.int (upI v.y sg (whI t b (n-v.fin (n+B5 t b))) (ptI t b (n-v.fin (n+B5 t b)))))) (some (.int ((t*B0 (n-v.fin (n+B5 t b)))- (whI t b (n-v.fin (n+B5 t b)))*(b*B0 (-(n-v.fin (n+B5 t b))))))) (some (.ref l0)) (some (.int (ptI t b (n-v.fin (n+B5 t b))))),?_,?_⟩
       . obtain⟨nw,enw⟩:=Int.eq_ofNat_of_zero_le w0
         have pti:0<=(ptI t b (n-v.fin (n+B5 t b)))/\(ptI t b (n-v.fin (n+B5 t b)))<=3:=pti
         refine⟨_,rfl,_,rfl,_,rfl,_,rfl,_,rfl,v.y,sg,(ptI t b (n-v.fin (n+B5 t b))),nw,by rw[<-enw];rfl,?_,by omega,by omega,fun H8 s8=> .inr ⟨_,rfl,_,_,rfl,rfl,s8,?_⟩⟩
         . have e3:B0 24<2^300:=by decide+kernel
           have:(nw:Int)<((2^300:Nat):Int):=by
             rw[<-enw]
             show _<(2:Int)^300
             omega
           exact Int.ofNat_lt.mp this
         . rw[Z4z pz,enw]
           rfl
       rintro σ' H12 ⟨s12,rfl⟩
       have lgU:(upI v.y sg (whI t b (n-v.fin (n+B5 t b))) (ptI t b (n-v.fin (n+B5 t b)))).natAbs.log2<1920:=G5p up.1 (by omega)
       have fr:=U5f up.1 up.2 r1 r2
       refine⟨fun σ' H'=>H'=H12/\∃F G:Int,B4p v.r (upI v.y sg (whI t b (n-v.fin (n+B5 t b))) (ptI t b (n-v.fin (n+B5 t b)))) (v.fin (n+B5 t b))=(F,G)/\σ'=stS pq eq sg i v t b n (some (.int (n+B5 t b))) (some (.int G)) (some (.int (t*B0 (n-v.fin (n+B5 t b))))) (some (.int (b*B0 (-(n-v.fin (n+B5 t b)))))) (some (.int F)) (some (.int ((t*B0 (n-v.fin (n+B5 t b)))- (whI t b (n-v.fin (n+B5 t b)))*(b*B0 (-(n-v.fin (n+B5 t b))))))) (some (.ref l0)) (some (.int (ptI t b (n-v.fin (n+B5 t b))))),?_,?_⟩
       . refine⟨_,rfl,_,rfl,lgU,_,rfl,int_text_fits lgU,_,rfl,_,_,rfl,rfl,_,rfl,Y3 (fun c=>?_) (fun c=>?_)⟩
         . have c:G9 (upI v.y sg (whI t b (n-v.fin (n+B5 t b))) (ptI t b (n-v.fin (n+B5 t b))))>v.r:=c
           refine⟨fun σ' H'=>H'=H12/\σ'=stS pq eq sg i v t b n (some (.int (n+B5 t b))) (some (.int (v.fin (n+B5 t b)))) (some (.int (t*B0 (n-v.fin (n+B5 t b))))) (some (.int (b*B0 (-(n-v.fin (n+B5 t b)))))) (some (.int ((upI v.y sg (whI t b (n-v.fin (n+B5 t b))) (ptI t b (n-v.fin (n+B5 t b))))/10))) (some (.int ((t*B0 (n-v.fin (n+B5 t b)))- (whI t b (n-v.fin (n+B5 t b)))*(b*B0 (-(n-v.fin (n+B5 t b))))))) (some (.ref l0)) (some (.int (ptI t b (n-v.fin (n+B5 t b))))),⟨_,rfl,_,_,rfl,rfl,⟨by decide,by decide+kernel⟩,rfl,rfl⟩,?_⟩
           rintro σ' H13 ⟨rfl,rfl⟩
           refine⟨_,?_,fun _ _ h=>h⟩
           refine⟨_,rfl,_,_,rfl,rfl,rfl,(upI v.y sg (whI t b (n-v.fin (n+B5 t b))) (ptI t b (n-v.fin (n+B5 t b))))/10,(v.fin (n+B5 t b))+1,?_,rfl⟩
           unfold B4p
           rw[if_pos (fr.mp c)]
         . have c:¬G9 (upI v.y sg (whI t b (n-v.fin (n+B5 t b))) (ptI t b (n-v.fin (n+B5 t b))))>v.r:=c
           refine⟨rfl,(upI v.y sg (whI t b (n-v.fin (n+B5 t b))) (ptI t b (n-v.fin (n+B5 t b)))),(v.fin (n+B5 t b)),?_,rfl⟩
           unfold B4p
           rw[if_neg (fun y=>c (fr.mpr y))]
       rintro σ' H13 ⟨rfl,F,G,eR,rfl⟩
       refine⟨_,?_,fun _ _ h=>h⟩
       refine⟨z2,fun l1 n1=>⟨z2,fun l2 n2=>⟨_,rfl,_,rfl,_,_,rfl,rfl,.inr ⟨_,rfl,l2,_,_,rfl,rfl,A6,(B9g _ .non).1,(B9g _ .non).2.1,Y0f _ _ _,fun p2 np2=>?_⟩⟩⟩⟩
       refine⟨l1,p2,_,_,rfl,rfl,Same.upd np2 _ _ (Same.upd n2 _ _ A6),A6,C9 (Nat.le_trans (Nat.add_le_add (Nat.le_refl 2) (Y0v _ _ _)) (by decide)),fun p3 np3=>?_⟩
       refine⟨F,G,_,_,_,p3,_,(["off","cut"]:List Str)++Y1z (decide (n+B5 t b<v.l)),s10.trans (s12.trans ((Same.upd n1).trans ((Same.upd n2).trans ((Same.upd np2).trans (Same.upd np3))))),?_,?_,fun y=>?_,?_,rfl⟩
       . unfold Z3
         rw[if_neg pz]
         exact eR
       . rw[A6,Y2w,List.map_append]
         rfl
       . unfold A0p A0q Y1z
         rw[if_neg pz,if_neg pz]
         by_cases c2:n+B5 t b>=v.l
         . rw[if_pos c2,decide_eq_false (by omega)];simp
         . rw[if_neg c2,decide_eq_true (by omega),if_pos rfl]
           rw[List.mem_append,List.mem_append]
           refine or_congr Iff.rfl ?_
           simp only[List.mem_cons,List.not_mem_nil,or_false]
           exact Or.comm
       . unfold Y1z
         split<;>decide
   rintro σ' H11 ⟨F,G,z13,z14,z16,l,z18,zs,s11,en,el,mem,l4,rfl⟩
   have sn:neL v sg (.rat t b n) i=(F,G):=en
   rw[sn] at sle nr
   have nf0:0<=F:=nr.f0
   have nf1:F<B0 v.r:=nr.f1
   have lgF:F.natAbs.log2<1920:=G5p nf0 (by omega)
   by_cases bc:A1x v.m F G=true
   . rw[if_pos bc] at sle
     unfold A1x at bc
     have f0:F≠0:=fun y=>by rw[if_pos y] at bc;cases bc
     rw[if_neg f0] at bc
     have bc:=of_decide_eq_true bc
     refine⟨fun σ' H'=>H'=H11/\σ'=stS pq eq sg i v t b n (some (.int (n+B5 t b))) (some (.int G)) z13 z14 (some (.int F)) z16 (some (.ref l)) z18,?_,?_⟩
     . exact⟨_,rfl,rfl,_,rfl,V3 (fun y=>f0 (V.int.inj y)) ⟨_,rfl,_,rfl,F,G,rfl,lgF,_,rfl,_,_,rfl,rfl,_,rfl,V3 (show¬G9 F-1+G<=v.m by omega) ⟨rfl,rfl⟩⟩⟩
     rintro σ' H12 ⟨rfl,rfl⟩
     refine⟨fun σ' H'=>Same H12 H'/\v.y.toEnd sg=false/\σ'=stS pq eq sg i v t b n (some (.int (n+B5 t b))) (some (.int G)) z13 z14 (some (.int F)) z16 (some (.ref l)) z18,?_,?_⟩
     . refine⟨_,rfl,_,rfl,v.y,sg,rfl,s0,s1,fun H13 s13=>⟨_,rfl,Y0k (fun e=>?_) (fun e=>⟨s13,e,rfl⟩)⟩⟩
       refine⟨_,rfl,z4,fun p1 np1=>⟨z3,fun p2 np2=>⟨z2,fun p3 np3=>k p3 _ (s11.trans (s13.trans ((Same.upd np1).trans ((Same.upd np2).trans (Same.upd np3))))) ?_⟩⟩⟩
       rw[sle]
       refine⟨p1,p2,["burst","off","cut"],A6,?_,Same.upd np3 _ _ A6,fun _=>Iff.rfl,by decide⟩
       rw[(Same.upd np2).trans (Same.upd np3) _ _ A6]
       unfold B5n
       rw[if_pos e]
       rfl
     rintro σ' H13 ⟨s13,e,rfl⟩
     obtain⟨nr',enr,eTr⟩:=Y1x (show 0<=v.r by omega)
     refine⟨_,rfl,_,rfl,nr',by show [V.int v.r]=_;rw[enr],by omega,_,_,rfl,rfl,_,rfl,_,rfl,_,_,rfl,rfl,_,_,rfl,rfl,z4,fun p1 np1=>⟨z3,fun p2 np2=>⟨z2,fun p3 np3=>k p3 _ (s11.trans (s13.trans ((Same.upd np1).trans ((Same.upd np2).trans (Same.upd np3))))) ?_⟩⟩⟩
     rw[sle]
     refine⟨p1,p2,["burst","off","cut"],A6,?_,Same.upd np3 _ _ A6,fun _=>Iff.rfl,by decide⟩
     rw[(Same.upd np2).trans (Same.upd np3) _ _ A6,eTr]
     unfold B5n
     rw[if_neg (by rw[e];exact Bool.false_ne_true)]
     rfl
   . rw[if_neg bc] at sle
     refine⟨fun σ' H'=>False,?_,fun _ _ h=>h.elim⟩
     have fin:∀p1,H11 p1=none ->∀p2,upd H11 p1 (.tup [.str "plain",.int sg,.int F,.int G]) p2=none ->Q (.ref p2) (upd (upd H11 p1 (.tup [.str "plain",.int sg,.int F,.int G])) p2 (.tup [.ref p1,.ref l])):=fun p1 np1 p2 np2=>by
       refine k p2 _ (s11.trans ((Same.upd np1).trans (Same.upd np2))) ?_
       rw[sle]
       exact⟨p1,l,zs,A6,Same.upd np2 _ _ A6,(Same.upd np1).trans (Same.upd np2) _ _ el,mem,l4⟩
     refine⟨_,rfl,rfl,_,rfl,Y3 (fun y=>?_) (fun y=>?_)⟩
     . exact⟨_,rfl,_,rfl,_,rfl,z4,fun p1 np1=>⟨_,rfl,z2,fun p2 np2=>fin p1 np1 p2 np2⟩⟩
     . have f0:F≠0:=fun h=>y (congrArg V.int h)
       unfold A1x at bc
       rw[if_neg f0] at bc
       have bc:¬G+G9 F-1>v.m:=fun h=>bc (decide_eq_true h)
       exact⟨_,rfl,_,rfl,F,G,rfl,lgF,_,rfl,_,_,rfl,rfl,_,rfl,A1w (show G9 F-1+G<=v.m by omega) ⟨_,rfl,_,rfl,_,rfl,z4,fun p1 np1=>⟨_,rfl,z2,fun p2 np2=>fin p1 np1 p2 np2⟩⟩⟩
end
noncomputable abbrev A5c:Stmt:=(top 61)
theorem szT{t:Int}(h1:1<=t)(h2:t<B0 28):SzL t:=⟨h1,Int.lt_of_lt_of_le h2 (U8 (by decide))⟩
theorem U7d{t:Int}{n:Int}(h1:1<=t)(h2:t<B0 n)(hn:n<=28):1<=G9 t/\G9 t<=n:=by
 have b:=C1a (szT h1 (Int.lt_of_lt_of_le h2 (U8 hn))).sz
 refine⟨b.2.2,Classical.byContradiction fun z=>?_⟩
 have:=U8 (show n<=G9 t-1 by omega)
 omega
theorem b9{b:Int}(h:b<=1000000000):b<B0 10:=by
 have e:B0 10=10000000000:=by decide+kernel
 omega
theorem at3(a b c n:Int):∃v,(v=a\/v=b\/v=c)/\atI ([.int a,.int b,.int c]:List V) (n % 3)=some (.int v):=by
 rcases(by omega:n % 3=0\/n % 3=1\/n % 3=2) with h|h|h
 . exact⟨a,.inl rfl,by rw[h];exact D7 (j:=0) rfl⟩
 . exact⟨b,.inr (.inl rfl),by rw[h];exact D7 (j:=1) rfl⟩
 . exact⟨c,.inr (.inr rfl),by rw[h];exact D7 (j:=2) rfl⟩
section
variable{P:Program}{w:World}{K:Frag}{mg:Str ->Option Value}{base:Heap}
noncomputable def G0e:Sp:=fun vs H Q _=>∃c pq,∃v:Cv,vs=[.int c,.ref pq]/\H pq=some (.tup v.vs)/\v.Ok/\∀t b g q H',1<=t ->t<B0 27 ->1<=b ->b<=1000000000 -> -80<=g ->g<=80 ->Same H H' ->H' q=some (.tup [.int t,.int b,.int (g-G9 t+G9 b)]) ->Q (.ref q) H'
theorem scLValue:FnScope ["_law_cell","_law_parts","_law_top_here","_law_number","_law_bottom","_law_goal"] ["_law_cell","_law_parts"] (A1 A5c):=scK
theorem J8t(D:Def K mg "_law_value" ["_law_cell","_law_parts"] A5c f fd)(dA:Def K mg "_law_mixed" ["_law_cell","_law_k"] A4u f1 fd1)(dB:FnOk P w K mg base (CX1 P w) 1 f1 fd1 ["_law_cell","_law_k"] B9t)
   (dC:Def K mg "_law_top" ["_law_cell"] C1n f2 fd2) (dD:FnOk P w K mg base (CX1 P w) 2 f2 fd2 ["_law_cell"] U7x) (O:Own mg):FnOk P w K mg base (CX1 P w) 3 f fd ["_law_cell","_law_parts"] G0e:=by
 refine D.F.okE scLValue (fun vs H Q E h=>?_) (fun X cdv A outer s H vs Q E hX hr hx h=>?_)
 . obtain⟨c,pq,v,rfl,_⟩:=h
   rfl
 . subst hX
   obtain⟨c,pq,v,rfl,ev,ok,k⟩:=h
   refine⟨_,(A7 (C7 (D3 (i:=2) scLValue.nd rfl (Or.inl rfl) (G0 dC dD hr hx (A0 (G0 dA dB hr hx (A0 (pv 0) (A0 A3 A8))) A8))))
     (A7 (C7 (D3 (i:=3) scLValue.nd rfl (Or.inl rfl) (G0 dA dB hr hx (A0 (pv 0) (A0 A3 A8)))))
     (A7 (C7 (D3 (i:=4) scLValue.nd rfl (Or.inl rfl) (U5 A1d (U4 (A0 A3 (A0 A3 (A0 A3 (A0 A3 (A0 A3 (A0 A3 (A0 A3 (A0 (B7 G8 A3 (B7 G5 (B7 D9 (pv 3) A3) (B7 U6w A3 A3))) A8))))))))) (B7 G5 (B7 D9 (pv 3) A3) A3) (fun _ _=>rfl))))
     (A7 (C7 (D3 (i:=5) scLValue.nd rfl (Or.inl rfl) (U5 A1d (U4 (A0 (B7 U2 (U5 V1 (pv 1) A3 (fun _ _=>rfl)) (B7 G5 (B7 D9 (pv 3) A3) A3)) (A0 (B7 G8 (U5 V1 (pv 1) A3 (fun _ _=>rfl)) (B7 G5 (B7 D9 (pv 3) A3) A3)) (A0 (B7 U2 (U5 V1 (pv 1) A3 (fun _ _=>rfl)) (B7 G5 (B7 D9 (pv 3) A3) A3)) A8)))) (B7 G5 (pv 3) A3) (fun _ _=>rfl))))
     (A7 (C7 (D3 (i:=5) scLValue.nd rfl (Or.inl rfl) (U5 A1d (U4 (A0 (pv 5) (A0 (pv 5) (A0 (B7 G8 (U5 V1 (pv 1) A3 (fun _ _=>rfl)) (B7 G5 (B7 D9 (pv 3) A3) A3)) (A0 (B7 U2 (B7 G5 (B7 D9 (pv 3) A3) A3) A3) A8))))) (B7 G5 (B7 D9 (pv 3) A3) A3) (fun _ _=>rfl))))
     (B3 (C4 (Y9 (A0 (pv 2) (A0 (pv 4) (A0 (B7 G8 (B7 U2 (pv 5) (U9 Y2 (by rfl) O.len_ PySem.boot_len (A0 (J0 V5 (by rfl) O.str_ boot_str (A0 (pv 2) A8)) A8))) (U9 Y2 (by rfl) O.len_ PySem.boot_len (A0 (J0 V5 (by rfl) O.str_ boot_str (A0 (pv 4) A8)) A8))) A8))))))))))),?_⟩
   have r1:=ok.r1;have r2:=ok.r2;have l1:=ok.l1;have l2:=ok.l2;have m1:=ok.m1;have m2:=ok.m2
   have z3:3<=sizeLine:=C9 (by decide)
   have z4:4<=sizeLine:=C9 (by decide)
   have z8:8<=sizeLine:=C9 (by decide)
   have d64:=dv (n:=64) (by decide) (by decide+kernel)
   have p4:(0:Int)<4:=by decide
   refine⟨fun σ' H'=>∃t:Int,Same H H'/\1<=t/\t<B0 27/\σ'=[some (.int c),some (.ref pq),some (.int t),none,none,none],⟨_,rfl,c,1,rfl,by decide,by decide,fun m _ _=>⟨m,rfl,fun t H' t1 t2 s'=>⟨t,s',t1,t2,rfl⟩⟩⟩,?_⟩
   rintro σ' H1 ⟨t,s1,t1,t2,rfl⟩
   have ev1:=s1 _ _ ev
   refine⟨fun σ' H'=>∃n:Int,H'=H1/\σ'=[some (.int c),some (.ref pq),some (.int t),some (.int n),none,none],⟨_,rfl,c,2,rfl,by decide,by decide,fun m _ _=>⟨m,rfl,rfl⟩⟩,?_⟩
   rintro σ' H2 ⟨n,rfl,rfl⟩
   refine⟨fun σ' H'=>∃b:Int,Same H2 H'/\1<=b/\b<=1000000000/\σ'=[some (.int c),some (.ref pq),some (.int t),some (.int n),some (.int b),none],?_,?_⟩
   . obtain⟨b,hb,ix⟩:=ixs (xs:=[1,1,1,2,3,7,8,1+n/64 % 10^(9:Int).toNat]) (i:=n/8 % 8) (Int.emod_nonneg _ (by decide)) (by show n/8 % 8<8;exact Int.emod_lt_of_pos _ (by decide))
     have e9:(10:Int)^(9:Int).toNat=1000000000:=by decide+kernel
     have e0:=Int.emod_nonneg (n/64) (show(1000000000:Int)≠0 by decide)
     have e1:=Int.emod_lt_of_pos (n/64) (show(0:Int)<1000000000 by decide)
     refine⟨_,rfl,_,_,rfl,rfl,d64,_,_,rfl,rfl,⟨by decide,by decide,by decide⟩,_,_,rfl,rfl,(show(0:Int)<10^(9:Int).toNat by rw[e9];decide),_,_,rfl,rfl,z8,fun p np=>⟨_,rfl,_,_,rfl,rfl,dv (n:=8) (by decide) (by decide+kernel),_,_,rfl,rfl,(by decide:(0:Int)<8),p,_,_,_,rfl,rfl,SqL.of A6,ix,b,Same.upd np,?_,?_,rfl⟩⟩
     all_goals
       simp only[List.mem_cons,List.not_mem_nil,or_false] at hb
       rw[e9] at hb
       omega
   rintro σ' H3 ⟨b,s3,b1,b2,rfl⟩
   have ev3:=s3 _ _ ev1
   refine⟨fun σ' H'=>∃g:Int,Same H3 H'/\ -63<=g/\g<=60/\σ'=[some (.int c),some (.ref pq),some (.int t),some (.int n),some (.int b),some (.int g)],?_,?_⟩
   . obtain⟨g,hg,ix⟩:=at3 (v.l-n/64 % 4) (v.l+n/64 % 30) (v.m-n/64 % 4) n
     have e0:=Int.emod_nonneg (n/64) (show(4:Int)≠0 by decide)
     have e1:=Int.emod_lt_of_pos (n/64) (show(0:Int)<4 by decide)
     have f0:=Int.emod_nonneg (n/64) (show(30:Int)≠0 by decide)
     have f1:=Int.emod_lt_of_pos (n/64) (show(0:Int)<30 by decide)
     refine⟨_,rfl,pq,_,_,_,rfl,rfl,SqT.of ev3,D7 (j:=2) rfl,_,rfl,_,_,rfl,rfl,d64,_,_,rfl,rfl,p4,_,_,rfl,rfl,_,rfl,pq,_,_,_,rfl,rfl,SqT.of ev3,D7 (j:=2) rfl,_,rfl,_,_,rfl,rfl,d64,_,_,rfl,rfl,(by decide:(0:Int)<30),_,_,rfl,rfl,_,rfl,pq,_,_,_,rfl,rfl,SqT.of ev3,D7 (j:=3) rfl,_,rfl,_,_,rfl,rfl,d64,_,_,rfl,rfl,p4,_,_,rfl,rfl,z3,fun p np=>⟨_,rfl,_,_,rfl,rfl,(by decide:(0:Int)<3),p,_,_,_,rfl,rfl,SqL.of A6,ix,g,Same.upd np,?_,?_,rfl⟩⟩
     . rcases hg with rfl|rfl|rfl<;>omega
     . rcases hg with rfl|rfl|rfl<;>omega
   rintro σ' H4 ⟨g,s4,g0,g1,rfl⟩
   have ev4:=s4 _ _ ev3
   refine⟨fun σ' H'=>∃g:Int,Same H4 H'/\ -80<=g/\g<=80/\σ'=[some (.int c),some (.ref pq),some (.int t),some (.int n),some (.int b),some (.int g)],?_,?_⟩
   . obtain⟨g',hg,ix⟩:=ixs (xs:=[g,g,v.m+n/64 % 3,n/64 % 161-80]) (i:=n/512 % 4) (Int.emod_nonneg _ (by decide)) (by show n/512 % 4<4;exact Int.emod_lt_of_pos _ (by decide))
     have e0:=Int.emod_nonneg (n/64) (show(3:Int)≠0 by decide)
     have e1:=Int.emod_lt_of_pos (n/64) (show(0:Int)<3 by decide)
     have f0:=Int.emod_nonneg (n/64) (show(161:Int)≠0 by decide)
     have f1:=Int.emod_lt_of_pos (n/64) (show(0:Int)<161 by decide)
     refine⟨_,rfl,_,rfl,_,rfl,pq,_,_,_,rfl,rfl,SqT.of ev4,D7 (j:=3) rfl,_,rfl,_,_,rfl,rfl,d64,_,_,rfl,rfl,(by decide:(0:Int)<3),_,_,rfl,rfl,_,rfl,_,_,rfl,rfl,d64,_,_,rfl,rfl,(by decide:(0:Int)<161),_,_,rfl,rfl,z4,fun p np=>⟨_,rfl,_,_,rfl,rfl,dv (n:=512) (by decide) (by decide+kernel),_,_,rfl,rfl,p4,p,_,_,_,rfl,rfl,SqL.of A6,ix,g',Same.upd np,?_,?_,rfl⟩⟩
     all_goals
       simp only[List.mem_cons,List.not_mem_nil,or_false] at hg
       omega
   have s4':=s4
   clear g0 g1 ev4
   rintro σ' H5 ⟨g',s5,g0,g1,rfl⟩
   have lt:t.natAbs.log2<1920:=(szT t1 (Int.lt_of_lt_of_le t2 (U8 (by decide)))).log
   have lb:b.natAbs.log2<1920:=(szT b1 (Int.lt_of_lt_of_le (b9 b2) (U8 (by decide)))).log
   exact⟨_,rfl,_,rfl,_,rfl,_,rfl,_,rfl,lt,_,rfl,int_text_fits lt,_,_,rfl,rfl,_,rfl,_,rfl,lb,_,rfl,int_text_fits lb,_,_,rfl,rfl,z3,fun p np=>k t b g' p _ t1 t2 b1 b2 g0 g1 (((s1.trans s3).trans s4').trans (s5.trans (Same.upd np))) A6⟩
end
noncomputable abbrev A0v:Stmt:=(top 63)
section
variable{P:Program}{w:World}{K:Frag}{mg:Str ->Option Value}{base:Heap}
end
noncomputable abbrev C2a:Stmt:=(top 62)
structure CaughtA(K:Frag)(mg:Str ->Option Value)(CT CR:Addr):Prop where
 gT:mg "Trapped"=some (.ref CT)
 gR:mg "ReckonError"=some (.ref CR)
 c:Clause K CR
 sub:subIn K (.ref CT) (.ref CR)=some true
 k:ExcK K CT
 dict:∃cd,clsIn K CT=some cd/\cd.hasDict=true
 nosig:findIn K (.ref CT) "signal"=some none
 kT:kitOne K (.ref CT) (.ref CT)=some true
 kv:kitOne K (.ref CT) (.type "ValueError")=some true
noncomputable def AnsT (H:Hp) (t:Addr):Prop:=(∃x:Nm,H t=some (.tup x.vs))\/∃z:Str,H t=some (.tup [.str "refused",.str z])
theorem Y8h(k:Kd):¬V.str k.str=V.str "refused":=by cases k<;>decide+kernel
section
variable{P:Program}{w:World}{K:Frag}{mg:Str ->Option Value}{base:Heap}
noncomputable def C1u:Sp:=fun vs H Q _=>∃t,vs=[.ref t]/\AnsT H t/\∀H',Same H H' ->Q (.bl true) H'
theorem G5y:FnScope ["_law_found"] ["_law_found"] (A1 A0v):=scK
theorem G1r(D:Def K mg "_law_whole" ["_law_found"] A0v f fd)(O:Own mg)(T:Kit K):FnOk P w K mg base (CX1 P w) 1 f fd ["_law_found"] C1u:=by
 refine FnOk.up (D.F.ok G5y (fun vs H Q E h=>?_) (fun cdv A outer s H vs Q E hr h=>?_))
 . obtain⟨t,rfl,_⟩:=h
   rfl
 . obtain ⟨t,rfl,an,k⟩:=h
   refine⟨_,(A7 (C7 (J9 (PW.pt (G1h (A2y (Y0 (D0n O.isi (pv 0) (pty O.tuple_ boot_tuple)))) (C1d (A2y (Y0 (D0n O.isi (U5 V1 (pv 0) A3 (fun _ _=>rfl)) (pty O.str_ boot_str))))))) (B3 (C4 A3h)) D4))
     (A7 (C7 (J9 (D0 U0 (U5 V1 (pv 0) A3 (fun _ _=>rfl)) C5 (C8 _)) (B3 (C4 A3h)) D4))
     (B3 (C4 (U9 (U4t hr.hd) (by rfl) O.all_ boot_all (A0 (J8n (N:=["_law_one_here"]) (F:=[]) (js:=[]) (CompScopeF.of0 ⟨rfl,by decide+kernel,by decide+kernel,by decide+kernel,by decide+kernel⟩ (by rfl)) (.inl hr.hd) rfl (U5q (U4h Y9n (pv 0) (Y2g A3) Y2n)) rfl (fun C s₀ H₀ ex pn h=>V6 (i:=0) (by decide+kernel:(["_law_one_here"]:List Str).Nodup) rfl (Or.inl rfl)) (fun C s₀ H₀ ex pn h=>(B2x (J6y (K:=K) rfl O.isi (pv 0) (pty O.int_ boot_int)) (A2r (U7w (J6y (K:=K) rfl O.isi (pv 0) (pty O.bool_ boot_bool))))))) A8)))))),?_⟩
   rcases an with⟨x,et⟩|⟨z,et⟩
   . refine⟨fun σ' H'=>H'=H/\σ'=[some (.ref t)],⟨_,rfl,_,_,_,_,true,rfl,rfl,Y6t et,T.tuple_tuple,_,rfl,U1 ⟨_,rfl,t,_,_,_,rfl,rfl,SqT.of et,D7 (j:=0) rfl,_,_,_,_,true,rfl,rfl,G0g _,T.str_str,_,rfl,U1 ⟨rfl,rfl⟩⟩⟩,?_⟩
     rintro σ' H1 ⟨rfl,rfl⟩
     refine⟨fun σ' H'=>H'=H1/\σ'=[some (.ref t)],⟨_,rfl,t,_,_,_,rfl,rfl,SqT.of et,D7 (j:=0) rfl,rfl,_,rfl,V3 (Y8h _) ⟨rfl,rfl⟩⟩,?_⟩
     rintro σ' H2 ⟨rfl,rfl⟩
     refine⟨_,rfl,_,rfl,t,_,rfl,SqT.of et,(show¬(HT.sIx 4 0 (some 1)=0/\HT.sIx 4 4 none=4) by decide),fun p np=>?_⟩
     have u:=Same.upd (o:= .tup [.int x.s,.int x.f,.int x.p]) np
     refine⟨p,rfl,⟨_,SqT.of A6⟩,J8s (J:=Itt K p) (n:=3) (fun _ y _=>y= .bl true) (by decide) (fun _ _ _ _ _ _ h _ _=>h) (fun i H3 Qy hi sm hy=>?_) (fun H3 sm=>⟨_,SqT.of (sm _ _ A6),Nat.le_refl 3⟩) (fun D H3 ys sm nD eD hl hr'=>?_)⟩
     . have at_:∃j:Int,([.int x.s,.int x.f,.int x.p]:List V)[i]?=some (.int j):=by
         rcases(by omega:i=0\/i=1\/i=2) with rfl|rfl|rfl<;>exact⟨_,rfl⟩
       obtain⟨j,hj⟩:=at_
       refine⟨⟨_,_,SqT.of (sm _ _ A6),hj⟩,fun y H4 yl=>?_⟩
       obtain⟨rfl,yl⟩:=yl
       have e:([.int x.s,.int x.f,.int x.p]:List V)[i]?=some y:=yl _ (SqT.of (sm _ _ A6))
       rw[hj] at e
       obtain rfl:=(Option.some.inj e).symm
       exact⟨_,rfl,_,_,_,_,true,rfl,rfl,J5w _,T.int_int,_,rfl,Y6 ⟨_,rfl,_,_,_,_,false,rfl,rfl,J5w _,T.int_bool,_,rfl,hy _ _ (Same.refl _) rfl⟩⟩
     . have ey:ys=[.bl true,.bl true,.bl true]:=by
         have a:∀i<3,ys[i]?=some (.bl true):=fun i hi=>by
           have h1:i<ys.length:=by omega
           rw[List.getElem?_eq_getElem h1,hr' i ys[i] (List.getElem?_eq_getElem h1)]
         apply List.ext_getElem?
         intro i
         rcases(show i<3\/3<=i by omega) with h|h
         . rw[a i h]
           rcases(by omega:i=0\/i=1\/i=2) with rfl|rfl|rfl<;>rfl
         . rw[List.getElem?_eq_none (by omega),List.getElem?_eq_none (by show 3<=i;omega)]
       exact⟨D,[true,true,true],rfl,SqL.of (by rw[eD,ey];rfl),k _ (u.trans sm)⟩
   . refine⟨fun σ' H'=>H'=H/\σ'=[some (.ref t)],⟨_,rfl,_,_,_,_,true,rfl,rfl,Y6t et,T.tuple_tuple,_,rfl,U1 ⟨_,rfl,t,_,_,_,rfl,rfl,SqT.of et,D7 (j:=0) rfl,_,_,_,_,true,rfl,rfl,G0g _,T.str_str,_,rfl,U1 ⟨rfl,rfl⟩⟩⟩,?_⟩
     rintro σ' H1 ⟨rfl,rfl⟩
     refine⟨fun σ' H'=>False,⟨_,rfl,t,_,_,_,rfl,rfl,SqT.of et,D7 (j:=0) rfl,rfl,_,rfl,A1w rfl (k _ (Same.refl _))⟩,fun _ _ h=>h.elim⟩
end
section
variable{P:Program}{w:World}{K:Frag}{mg:Str ->Option Value}{base:Heap}
theorem U5h{X:Cx}{e:Expr}{f:Str}{pos:Pos}{ta:TE}(hK:X.K=K)(he:PE X e ta)(hb:attributeBase e f X.env (eval e X.env)=eval e X.env):PE X (.Attribute e f pos) (Y6r K ta f):=by
 subst hK
 exact Y2k he hb
theorem J8r{X:Cx}{k:Nat}{EH:EK}{x y:Str}{p p1 pos:Pos}{i i1:Nat}(hx:G2 X EH)(hr:Room k X.A)(hN:X.N[i]?=some x)(hv:Vis X.env.scope x)(hN1:X.N[i1]?=some y)(hv1:Vis X.env.scope y)(e1:X.prog=P)(e2:X.w=w)(e3:X.K=K)(e4:X.mg=mg)(e5:X.base=base)(hex:X.ex=[]:=by rfl)(hd:(x==("__debug__":Str))=false:=by decide)(hcd:(x==("__classdict__":Str))=false:=by decide)(hd1:(y==("__debug__":Str))=false:=by decide)(hcd1:(y==("__classdict__":Str))=false:=by decide)
   (he:starEach [.Name y p1] X.env=(false,eval (.Name y p1) X.env)::starEach [] X.env:=by rfl) (hpl:(backTo pos (starEach [] X.env)).any (·.1)=false:=by rfl):
   PE X (.Call (.Name x p) [.Name y p1] [] pos) (U7r P w K mg base k i i1 EH):=by
 subst e1 e2 e3 e4 e5
 exact U7q hN hv hN1 hv1 hr hx hex hd hcd hd1 hcd1 he hpl
noncomputable def Z8c (CN:Addr) (Q:VK):VK:=fun v H1=>∃n x,v= .ref n/\NumIs CN H1 n x/\∀t,H1 t=none ->Q (.ref t) (upd H1 t (.tup (Nm.vs x)))
noncomputable def Z9h (CT:Addr) (Q:VK):XK:=fun C dd H1=>∃d sg,C= .ref CT/\dd=some d/\H1 d=some (.xd [("signal",.str sg)])/\∀t H2,Same H1 H2 ->H1 t=none ->H2 t=some (.tup [.str "refused",.str sg]) ->Q (.ref t) H2
noncomputable def G6y (P:Program) (w:World) (K:Frag) (mg:Str ->Option Value) (base:Heap) (k:Nat) (CN CT:Addr):Sp:=fun vs H Q _=>∃f v J spd,vs=[.ref f,v]/\DeedOk1 P w K mg base k f J spd/\J H/\
 ∀(Qd:VK) (Ed:XK),(∀v H1,Z8c CN Q v H1 ->Qd v H1) ->(∀C dd H1,Z9h CT Q C dd H1 ->Ed C dd H1) ->spd v H Qd Ed
theorem scLAns:FnScope ["_law_deed","_law_context","e"] ["_law_deed","_law_context"] (A1 C2a):=scK
theorem Y1t{k:Nat}{f f1 CN CB CT CR:Addr}(hk:2<=k)(D:Def K mg "_law_answer" ["_law_deed","_law_context"] C2a f fd)(dA:Def K mg "told" ["number"] C1p f1 fd1)(dB:FnOk P w K mg base (CX1 P w) 2 f1 fd1 ["number"] (U4z K CN CB))(R:CaughtA K mg CT CR)(O:Own mg):
   FnOk P w K mg base (CX1 P w) (k+1) f fd ["_law_deed","_law_context"] (G6y P w K mg base k CN CT):=by
 refine D.F.okE scLAns (fun vs H Q E h=>?_) (fun X cdv A outer s H vs Q E hX hr hx h=>?_)
 . obtain⟨f,v,J,spd,rfl,_⟩:=h
   rfl
 . subst hX
   obtain⟨g,v,J,spd,rfl,DO,hJ,h⟩:=h
   have z2:2<=sizeLine:=C9 (by decide)
   refine⟨_,(A7 (Y8x ⟨rfl,rfl,rfl⟩ (by rfl) R.gR R.c scLAns.nd (i:=2) rfl rfl (fun pins Ew EHb hc=>(B3 (C4 (G0 (hj:=hk) dA dB hr hc (A0 (J8r (P:=P) (w:=w) (K:=K) (mg:=mg) (base:=base) (i:=0) (i1:=1) hc hr rfl (.inl rfl) rfl (.inl rfl) rfl rfl rfl rfl rfl) A8)))))
     (fun pins a=>(B3 (J9 (PW.pt (C1t (Y0 (J6y (K:=K) rfl O.isi (pv 2) (Y3g R.gT))) (B4u (Y0 (J6y (K:=K) rfl O.isi (pv 2) (pty O.ValueError_ (show bootBuiltins "ValueError"=some (.type "ValueError") by decide+kernel))))))) (B3 (C4 (Y9 (A0 C5 (A0 (U5h (K:=K) rfl (pv 2) rfl) A8))))) D4))))
     (B3 (C4 (Y9 (A0 C5 (A0 C5 A8)))))),?_⟩
   refine⟨g,v,J,_,rfl,rfl,DO,hJ,h _ _ (fun v H1 ⟨n,x,ev,num,k⟩=>?_) (fun C dd H1 ⟨d,sg,eC,ed,e,k⟩=>?_)⟩
   . subst ev
     exact⟨_,rfl,.inl ⟨n,_,_,_,_,rfl,num,k⟩⟩
   . subst eC ed
     refine⟨R.sub,fun a t T na=>?_⟩
     have u:=Same.upd (o:= .frz (Z6 (.ref CT) t (some d) (.ref T)) (.own a)) na
     have u2:∀p,upd H1 a (.frz (Z6 (.ref CT) t (some d) (.ref T)) (.own a)) p=none ->H1 p=none:=fun p np=>u.free np
     have ty:TyE K (upd H1 a (.frz (Z6 (.ref CT) t (some d) (.ref T)) (.own a))) (.ref a) (.ref CT):= .excD A6 (u _ _ e) R.k
     refine⟨_,rfl,_,_,_,_,true,rfl,rfl,ty,R.kT,_,rfl,Y6 ⟨_,rfl,_,_,_,_,true,rfl,rfl,ty,R.kv,_,rfl,Y6 ?_⟩⟩
     refine⟨_,rfl,a,CT,_,_,d,_,_,_,rfl,A6,u _ _ e,R.k,R.dict,R.nosig,rfl,z2,fun p np=>?_⟩
     exact k p _ (u.trans (Same.upd np)) (u2 p np) A6
end
theorem CtxAt.hide{CC:Addr}{H:Hp}{cs:List Addr}{c:Addr}{r:Int}{y:Wy}{l m:Int}{a b:Addr}{xs ys:List V}(h:CtxAt CC H c r y l m a b xs ys)(A:AllFrz cs H):CtxAt CC (V0 cs H) c r y l m a b xs ys:=by
 obtain⟨⟨dx,e⟩,ha,hb⟩:=h
 exact⟨⟨dx,A.hide e (fun _ z=>by cases z)⟩,A.hide ha (fun _ z=>by cases z),A.hide hb (fun _ z=>by cases z)⟩
theorem NumIs.back{CN:Addr}{H H':Hp}{cs:List Addr}{n:Addr}{x:Nm}(h:NumIs CN H' n x)(hn:∀c∈cs,H' c=none):NumIs CN (Z2 cs H H') n x:=by
 obtain⟨dx,e⟩:=h
 exact⟨dx,by rw[V2 fun z=>by rw[hn n z] at e;cases e];exact e⟩
theorem CtxAt.keep{CC:Addr}{H H':Hp}{c:Addr}{r:Int}{y:Wy}{l m:Int}{a b:Addr}{xs ys:List V}(h:CtxAt CC H c r y l m a b xs ys)(s:Z0a H H'):CtxAt CC H' c r y l m a b xs ys:=by
 obtain⟨⟨dx,e⟩,ha,hb⟩:=h
 exact⟨⟨dx,s _ _ (fun _ z=>by cases z) e⟩,s _ _ (fun _ z=>by cases z) ha,s _ _ (fun _ z=>by cases z) hb⟩
theorem G0x{cs:List Addr}{c:Addr}{H H1:Hp}(x:Exc c (V0 cs H) H1):Exc c H (Z2 cs H H1):=fun b o e n=>by
 by_cases hb:b∈cs
 . rw[D1m hb];exact e
 . rw[V2 hb]
   exact x b o (by rw[V7 hb];exact e) n
theorem CtxAt.back{CC:Addr}{H H':Hp}{cs:List Addr}{c:Addr}{r:Int}{y:Wy}{l m:Int}{a b:Addr}{xs ys:List V}(h:CtxAt CC H' c r y l m a b xs ys)(hn:∀c∈cs,H' c=none):CtxAt CC (Z2 cs H H') c r y l m a b xs ys:=by
 obtain⟨⟨dx,e⟩,ha,hb⟩:=h
 have out:∀{p:Addr} {o:HO},H' p=some o ->p ∉ cs:=fun e z=>by rw[hn _ z] at e;cases e
 exact⟨⟨dx,by rw[V2 (out e)];exact e⟩,by rw[V2 (out ha)];exact ha,by rw[V2 (out hb)];exact hb⟩
theorem Ends2.hide{CN CC CT:Addr}{H:Hp}{cs:List Addr}{c:Addr}{v:Cv}{b:Addr}{xs ys:List Str}{res:Nm×List Str}{Q:VK}{E:XK}(k:Ends2 CN CC CT H c v b xs ys res Q E):
   Ends2 CN CC CT (V0 cs H) c v b xs ys res (fun u H1=>(∀c∈cs,H1 c=none) ->Q u (Z2 cs H H1)) (fun C d H1=>(∀c∈cs,H1 c=none) ->E C d (Z2 cs H H1)):=
 ⟨fun hn m a' H1 x ct nm no=>k.1 hn m a' _ (G0x x) (CtxAt.back ct no) (nm.back no),fun z hz a' d H1 x ct ed no=>k.2 z hz a' d _ (G0x x) (CtxAt.back ct no) (by rw[V2 fun q=>by rw[no _ q] at ed;cases ed];exact ed)⟩
theorem J9f{tr zs ws:List Str}(h:∀z,z∈zs↔z∈ws):hit tr zs=hit tr ws:=by
 unfold hit
 congr 1
 funext t
 rw[Bool.eq_iff_iff]
 simp[h]
theorem FnOk.toG{P:Program}{w:World}{K:Frag}{mg:Str ->Option Value}{base:Heap}{CX:CXT}{k:Nat}{ps:List Str}{sp:Sp}(F:FnOk P w K mg base CX k f fd ps sp):FnOkG P w K mg base CX k f fd ps sp:=⟨F.len,fun A outer s H args us vs Q E _=>F.run A outer s H args us vs Q E⟩
theorem U7g{P:Program}{w:World}{K:Frag}{mg:Str ->Option Value}{base:Heap}{k:Nat}{qual:Str}{params:Arguments}{body:Expr}{scope:Scope}{cl:List (Str×Addr)}{vs:List V}{sp:V ->Hp ->VK ->XK ->Prop}{pr:Str}{H0:Hp}(_:LamAt H0 f qual params body scope cl)
   (S:LamS (cl.map (·.1)) scope) (hp:scope.names.lookup pr=some .local) (hF:cl.length=vs.length) (hnd:(cl.map (·.2)).Nodup)
   (hb0:∀(pm:Value) (c':Addr) (ctv:Value) (u:Value),bindArgs (kla_fn "<lambda>" qual params body scope cl pm (.ref c') ctv) ⟨[u],[]⟩=pure [(pr,u)])
   (hbody:∀(X:Cx) (cdv:Value) (A:Around) (outer:List Env) (s:Shared) (H:Hp) (y:V) (Q:VK) (E:XK),X=C0s (CX1 P w) P w K mg base (pr::cl.map (·.1)) qual scope f cdv cl A outer s (V0 (cl.map (·.2)) H) (fun C d H'=>(∀c∈cl.map (·.2),H' c=none) ->E C d (Z2 (cl.map (·.2)) H H')) ->Room k X.A ->
     G2 X (fun C dd _ H'=>(∀c∈cl.map (·.2),H' c=none) ->E C dd (Z2 (cl.map (·.2)) H H')) ->sp y H Q E ->AllFrz (cl.map (·.2)) H ->
     ∃t,PE (C0s (CX1 P w) P w K mg base (pr::cl.map (·.1)) qual scope f cdv cl A outer s (V0 (cl.map (·.2)) H) (fun C d H'=>(∀c∈cl.map (·.2),H' c=none) ->E C d (Z2 (cl.map (·.2)) H H'))) body t/\t (some y::vs.map some) (V0 (cl.map (·.2)) H) (fun v H'=>(∀c∈cl.map (·.2),H' c=none) ->Q v (Z2 (cl.map (·.2)) H H'))):
   DeedOk1 P w K mg base (k+1) f (Y9q f qual params body scope cl vs) sp:=U6j S hp hF hnd hb0 hbody
theorem TabOk.exc{P0:Addr}{pos:Pos}{q:Str}{H3 H6:Hp}{c C0 d0:Addr}{F:List (Str×V)}(h:TabOk P0 pos q H3)(x:Exc c H3 H6)(ec:H3 c=some (.ins C0 d0 F)):TabOk P0 pos q H6:=by
 obtain⟨ps,eP,rest⟩:=id h
 refine h.at fun b o e hb=>?_
 rcases hb with rfl|⟨oc,rfl⟩
 . rw[eP] at e
   cases e
   exact x _ _ eP (U6 eP ec (by intro z;cases z))
 . exact x _ _ e (U6 e ec (by intro z;cases z))
section
variable{P:Program}{w:World}{K:Frag}{mg:Str ->Option Value}{base:Heap}{CN CC CT:Addr}
theorem Z0c{k:Nat}{qual:Str}{params:Arguments}{body:Expr}{scope:Scope}{cl:List (Str×Addr)}{vs:List V}{spd:V ->Hp ->VK ->XK ->Prop}{H3 H4:Hp}{f c a b:Addr}{v:Cv}{xs ys:List Str}{res:Nm×List Str}{Q:VK}{E:XK}
   (la:LamAt H3 f qual params body scope cl) (hn:∀c∈cl.map (·.2),H3 c=none) (ho:∀b,b ∉ cl.map (·.2) ->H4 b=H3 b) (A4:AllFrz (cl.map (·.2)) H4) (kn:∀(i:Nat) (x:Str) (c:Addr),cl[i]?=some (x,c) ->∃v,vs[i]?=some v/\U5r H4 c v)
   (DO:DeedOk1 P w K mg base k f (Y9q f qual params body scope cl vs) spd) (ct:CtxV CC H3 c v a b xs ys)
   (hD:∀Qd Ed,Same H3 H4 ->CtxV CC H4 c v a b xs ys ->Ends2 CN CC CT H4 c v b xs ys res Qd Ed ->spd (.ref c) H4 Qd Ed)
   (fin1:hit ys res.2=none ->∀tt a' H6,Exc c H3 H6 ->CtxV CC H6 c v a' b (V9 (xs++res.2)) ys ->H6 tt=some (.tup res.1.vs) ->Q (.ref tt) H6)
   (fin2:∀z,hit ys res.2=some z ->∀tt a' H6,Exc c H3 H6 ->CtxV CC H6 c v a' b (V9 (xs++res.2)) ys ->H6 tt=some (.tup [.str "refused",.str z]) ->Q (.ref tt) H6):
   G6y P w K mg base k CN CT [.ref f,.ref c] H4 (fun u H'=>(∀c∈cl.map (·.2),H' c=H4 c) ->Q u (V0 (cl.map (·.2)) H')) E:=by
 have k34:Same H3 H4:=fun b o e=>by
   rw[ho b fun z=>by rw[hn b z] at e;cases e]
   exact e
 obtain⟨dx,ec⟩:=(ct.same k34).ins
 have rest:∀{H5 H6:Hp} {tt:Addr} {o:HO},Exc c H4 H5 ->Same H5 H6 ->H5 tt=none ->H6 tt=some o ->AllFrz (cl.map (·.2)) H6/\Exc c H3 (V0 (cl.map (·.2)) H6)/\V0 (cl.map (·.2)) H6 tt=some o:=fun{H5 H6 tt o} x5 s6 nt et=>by
   have A5:∀c'∈cl.map (·.2),∃o,H5 c'=some (.frz o (.own c')):=fun c' hc'=>by
     obtain⟨o,e⟩:=A4 c' hc'
     exact⟨o,x5 _ _ e (U6 e ec (by intro z;cases z))⟩
   refine⟨fun c' hc'=>?_,fun b o e nb=>?_,?_⟩
   . obtain⟨o,e⟩:=A5 c' hc'
     exact⟨o,s6 _ _ e⟩
   . rw[V7 fun z=>by rw[hn b z] at e;cases e]
     exact s6 _ _ (x5 _ _ (k34 _ _ e) nb)
   . rw[V7 fun z=>?_]
     . exact et
     . obtain⟨o,e⟩:=A5 tt z
       rw[nt] at e
       cases e
 refine⟨f,.ref c,_,spd,rfl,DO,⟨la.kept (fun b o e=>k34 b _ e),kn⟩,fun Qd Ed hQ hE=>hD Qd Ed k34 (ct.same k34) ⟨fun hh m a' H5 x5 ct5 num=>hQ _ _ ⟨m,res.1,rfl,num,fun tt nt _=>?_⟩,fun z hz a' d H5 x5 ct5 ed=>hE _ _ _ ⟨d,z,rfl,rfl,ed,fun tt H6 s6 nt et _=>?_⟩⟩⟩
 . obtain⟨r1,r2,r3⟩:=rest x5 (Same.upd nt) nt (A6 (o:= .tup res.1.vs))
   exact fin1 hh tt a' _ r2 (CtxAt.hide (ct5.same (Same.upd nt)) r1) r3
 . obtain⟨r1,r2,r3⟩:=rest x5 s6 nt et
   exact fin2 z hz tt a' _ r2 (CtxAt.hide (ct5.same s6) r1) r3
end
noncomputable abbrev G6s:Stmt:=(top 64)
theorem flat_strs(zs:List Str):(zs.map V.str).all B2c=true:=by
 rw[List.all_eq_true]
 intro x hx
 obtain⟨z,_,rfl⟩:=List.mem_map.mp hx
 rfl
theorem C8y{K:Frag}{l:Addr}{zs:List Str}{g:TG}{tc:TT}{te:TE}{σ0:L2.St}{H1:Hp}{QD:Addr ->Hp ->Prop}(f:Str ->Bool)(el:H1 l=some (.lst (zs.map V.str)))(hn:zs.length<=1000)
   (step:∀(z:Str) (H3:Hp) (Qy:VK) (Qn:Hp ->Prop),Same H1 H3 ->(f z=true ->Qy (.str z) H3) ->(f z=false ->Qn H3) ->g (.str z) σ0 H3 fun σ4 H4=>tc σ4 H4 fun b H5=>if b=true then te σ4 H5 Qy else Qn H5)
   (k:∀D H',Same H1 H' ->H1 D=none ->H' D=some (.lst ((zs.filter f).map V.str)) ->QD D H'):∀D,H1 D=none ->
   ∃ (m:Nat) (W:Nat ->List V ->Hp ->Prop),W 0 [] (upd H1 D (.lst []))/\∀i ys H2,W i ys H2 ->i<=m/\H2 D=some (.lst ys)/\(((Itl K l).stop i H2/\QD D H2)\/(i<m/\(Itl K l).go i H2/\∀x H3,(Itl K l).yld i H2 x H3 ->
     g x σ0 H3 fun σ4 H4=>tc σ4 H4 fun b H5=>if b=true then te σ4 H5 fun y H6=>H6 D=some (.lst ys)/\ys.length<sizeLine/\W (i+1) (ys++ [y]) (upd H6 D (.lst (ys++ [y]))) else W (i+1) ys H5)):=by
 have sq:∀{H2},Same H1 H2 ->SqL K H2 l (zs.map V.str):=fun s=>SqL.of (s _ _ el)
 refine G1n (J:=Itl K l) (n:=zs.length) (fun i=>f (zs.getD i "")) (fun i y _=>y= .str (zs.getD i "")) hn (fun _ _ _ _ _ _ h _ _=>h) (fun i H2 Qy Qn hi sm hy hnn=>?_) (fun H2 s2=>⟨_,sq s2,by rw[List.length_map];exact Nat.le_refl _⟩) (fun D H' ys s' nD eD hl hr=>k D H' s' nD ?_)
 . have at_:(zs.map V.str)[i]?=some (.str (zs.getD i "")):=by
     rw[List.getElem?_map,List.getElem?_eq_getElem hi]
     simp[hi]
   refine⟨⟨_,_,sq sm,at_⟩,fun x H3 y=>?_⟩
   obtain⟨rfl,yl⟩:=y
   have ex:=yl _ (sq sm)
   rw[at_] at ex
   obtain rfl:=(Option.some.inj ex).symm
   exact step _ _ Qy Qn sm (fun e=>hy e _ _ (Same.refl _) rfl) (fun e=>hnn e _ (Same.refl _))
 . rw[eD,Y1w hl hr]
noncomputable def A5g (zs ys:List Str):List Str:=sigS.filter fun z=>inV (.str z) (zs.map V.str)&&inV (.str z) (ys.map V.str)
theorem G6f{zs ys:List Str}(s:SubS ys):(A5g zs ys).head?=hit ys zs:=by
 obtain⟨p,rfl⟩:=s
 have e:A5g zs (sigS.filter p)=(sigS.filter p).filter fun z=>zs.contains z:=by
   unfold A5g
   rw[List.filter_filter]
   refine List.filter_congr fun z hz=>?_
   rw[A1a,A1a]
   congr 1
   rw[Bool.eq_iff_iff,List.contains_iff_mem,List.mem_filter]
   exact⟨fun x=>x.2,fun x=>⟨hz,x⟩⟩
 rw[e,List.head?_filter]
 rfl
theorem Y2s(a:Str)(l:List Str):PyData.eqv (rdS (a::l)) (rdS [])=false:=by
 simp[rdS,PyData.eqv,PyData.eqvAll]
theorem J9w(zs ys:List Str):OkL (A5g zs ys):=SubS.ok ⟨_,rfl⟩
section
variable{P:Program}{w:World}{K:Frag}{mg:Str ->Option Value}{base:Heap}
noncomputable def Y6p:Sp:=fun vs H Q _=>∃dt dl tl,∃(x:Nm) (zs ys:List Str),vs=[.ref dt,.ref dl,.ref tl]/\H dt=some (.tup x.vs)/\H dl=some (.lst (zs.map V.str))/\H tl=some (.lst (ys.map V.str))/\SubS ys/\
 (hit ys zs=none ->∀H',Same H H' ->Q (.ref dt) H')/\(∀z,hit ys zs=some z ->∀q H',Same H H' ->H' q=some (.tup [.str "refused",.str z]) ->Q (.ref q) H')
theorem scLDa:FnScope ["_law_found","_law_some","_law_traps","_law_caught"] ["_law_found","_law_some","_law_traps"] (A1 G6s):=scK
theorem Y8u(D:Def K mg "_law_due_answer" ["_law_found","_law_some","_law_traps"] G6s f fd)(dA:Def K mg "_law_signals" [] B4r f1 fd1)(dB:FnOk P w K mg base (CX1 P w) 1 f1 fd1 [] D1e):FnOk P w K mg base (CX1 P w) 2 f fd ["_law_found","_law_some","_law_traps"] Y6p:=by
 refine D.F.okE scLDa (fun vs H Q E h=>?_) (fun X cdv A outer s H vs Q E hX hr hx h=>?_)
 . obtain⟨dt,dl,tl,x,zs,ys,rfl,_⟩:=h
   rfl
 . subst hX
   obtain⟨dt,dl,tl,x,zs,ys,rfl,edt,edl,etl,sy,k1,k2⟩:=h
   refine⟨_,(A7 (C7 (U8a (i:=3) (N:=["_law_name"]) (F:=["_law_traps","_law_some"]) (js:=[2,1]) (CompScopeF.of2 ⟨rfl,by decide+kernel,by decide+kernel,by decide+kernel,by decide+kernel⟩ (by rfl) (by rfl) ⟨_,by rfl⟩ (by rfl) (by rfl) (by rfl) ⟨_,by rfl⟩ (by rfl) (by rfl)) (.inl hr.hd) rfl (B9x (D1v dA dB hr hx)) rfl (fun C s₀ H₀ ex pn h=>V6 (i:=0) (by decide+kernel:(["_law_name","_law_traps","_law_some"]:List Str).Nodup) rfl (Or.inl rfl)) (fun C s₀ H₀ ex pn h=>(PW.pt (C1t (D0 (A4w (K:=K) rfl) (pv 0) (pv 2) (by rfl)) (B4u (D0 (A4w (K:=K) rfl) (pv 0) (pv 1) (by rfl)))))) (fun C s₀ H₀ ex pn h=>(pv 0)) scLDa.nd rfl (Or.inl rfl)))
     (B3 (C4 (A2s (D0 (U4w hr.units) (pv 3) (U4 A8) (C8 _)) (Y9 (A0 C5 (A0 (U5 A1d (pv 3) A3 (fun _ _=>rfl)) A8))) (pv 0))))),?_⟩
   refine⟨fun σ' H'=>∃cl,Same H H'/\H' cl=some (.lst ((A5g zs ys).map V.str))/\σ'=[some (.ref dt),some (.ref dl),some (.ref tl),some (.ref cl)],?_,?_⟩
   . refine⟨rfl,fun l nl=>⟨l,rfl,⟨_,SqL.of A6⟩,?_⟩⟩
     have u:=Same.upd (o:= .lst (sigS.map V.str)) nl
     refine C8y (fun z=>inV (.str z) (zs.map V.str)&&inV (.str z) (ys.map V.str)) A6 (by decide) (fun z H3 Qy Qn sm hy hn=>⟨_,rfl,_,rfl,dl,_,rfl,.inl (SqL.of (sm _ _ (u _ _ edl))),rfl,flat_strs _,_,rfl,Y0k (fun e1=>⟨_,rfl,_,rfl,tl,_,rfl,.inl (SqL.of (sm _ _ (u _ _ etl))),rfl,flat_strs _,_,rfl,Y0k (fun e2=>⟨_,rfl,hy ?_⟩) (fun e2=>hn ?_)⟩) (fun e1=>hn ?_)⟩) (fun D H' s' nD eD=>⟨D,u.trans s',eD,rfl⟩)
     . have e1:inV (.str z) (zs.map V.str)=true:=e1
       have e2:inV (.str z) (ys.map V.str)=true:=e2
       rw[e1,e2];rfl
     . have e2:inV (.str z) (ys.map V.str)=false:=e2
       rw[e2,Bool.and_false]
     . have e1:inV (.str z) (zs.map V.str)=false:=e1
       rw[e1];rfl
   rintro σ' H1 ⟨cl,s1,ecl,rfl⟩
   have ch:=G6f (zs:=zs) sy
   refine⟨_,rfl,Nat.zero_le _,fun l2 n2=>⟨rdS (A5g zs ys),rdS [],B5m (Same.upd n2 _ _ ecl),B5m A6,shS (J9w zs ys),shS ⟨by simp,by simp⟩,_,rfl,?_⟩⟩
   have u2:=Same.upd (o:= .lst []) n2
   rw[if_pos rfl]
   cases hc:A5g zs ys with
   | nil=>
     rw[hc] at ch
     rw[Y8s]
     exact U1 ⟨_,rfl,k1 ch.symm _ (s1.trans u2)⟩
   | cons z l=>
     rw[hc] at ch ecl
     rw[Y2s]
     refine Y6 ⟨_,rfl,cl,_,_,_,rfl,rfl,SqL.of (u2 _ _ ecl),D7 (j:=0) rfl,C9 (show 2<=1000 by decide),fun q nq=>k2 z ch.symm q _ (s1.trans (u2.trans (Same.upd nq))) A6⟩
end
noncomputable abbrev B9e:Stmt:=(top 65)
noncomputable def Y8k:Str:=("_law_one":Str)++".<locals>."++"<lambda>"
noncomputable def Y7s:Pos:=⟨396,35,396,146⟩
theorem Y9z(us:List Str):sigS.filter (fun z=>inV (.str z) (us.map V.str))=V9 us:=by
 unfold V9
 refine List.filter_congr fun z _=>?_
 rw[A1a]
theorem Y9x{us zs ws:List Str}(h:∀z,z∈zs↔z∈ws):V9 (V9 us++ws)=V9 (us++zs):=by
 unfold V9
 refine List.filter_congr fun z hz=>?_
 rw[Bool.eq_iff_iff,List.contains_iff_mem,List.contains_iff_mem,List.mem_append,List.mem_append,List.mem_filter,List.contains_iff_mem,h]
 exact or_congr ⟨fun x=>x.2,fun x=>⟨hz,x⟩⟩ Iff.rfl
theorem Z3q(us:List Str):(V9 us).length<=7:=List.length_filter_le _ _
theorem U7h(us:List Str):OkL (V9 us):=(U7m us).ok
noncomputable def G1y (a b:Str):PyData:= .tuple [.str a,.str b]
theorem Z3r{K:Frag}{H:Hp}{d:Addr}{a b:Str}(h:H d=some (.tup [.str a,.str b])):RdD K H (.ref d) (G1y a b):= .tup (SqT.of h) (.cons (.str _) (.cons (.str _) .nil))
theorem Z5z{a b:Str}(h1:PyData.strOk a=true)(h2:PyData.strOk b=true):SeqAt.shaped (G1y a b)=true:=by
 unfold SeqAt.shaped G1y
 simp[PyData.canLay0,PyData.canLayAll0,PyData.depth,PyData.depthAll,h1,h2]
theorem Z8b(a b:Str):PyData.eqv (G1y a b) (G1y a b)=true:=by
 simp[G1y,PyData.eqv,PyData.eqvAll]
noncomputable def Z1 (u t:Addr):List (Key×V):=[(.inr "up",.ref u),(.inr "traps",.ref t)]
theorem G0d:¬(("up":Str)="traps")/\¬(("traps":Str)="up"):=by decide+kernel
theorem J6p(u t:Addr):B2p (Z1 u t) (.inr "up")=some (.ref u):=by
 simp[Z1,B2p,G0d]
theorem D0z(u t:Addr):B2p (Z1 u t) (.inr "traps")=some (.ref t):=by
 simp[Z1,B2p,G0d]
theorem U5n(u t u':Addr):A4f (Z1 u t) (.inr "up") (.ref u')=Z1 u' t:=by
 simp[Z1,A4f,G0d]
theorem Y9c(u t t':Addr):A4f (Z1 u t) (.inr "traps") (.ref t')=Z1 u t':=by
 simp[Z1,A4f,G0d]
structure H11(CC P0:Addr)(K:Frag)(sc:Addr)(ns:List Int)(t c b m u tl:Addr)(v:Cv)(xs us ys:List Str)(H:Hp)(a:Addr):Prop where
 et:H t=some (.tup v.vs)
 ct:CtxV CC H c v a b xs ys
 em:H m=some (.dK (Z1 u tl))
 eu:H u=some (.lst (us.map V.str))
 etl:H tl=some (.lst (ys.map V.str))
 tab:TabOk P0 Y7s Y8k H
 scr:SqL K H sc (ns.map V.int)
section
variable{CC P0:Addr}{K:Frag}{sc:Addr}{ns:List Int}{t c b m u tl:Addr}{v:Cv}{xs us ys:List Str}{H H':Hp}{a:Addr}
theorem H11.same(h:H11 CC P0 K sc ns t c b m u tl v xs us ys H a)(s:Same H H'):H11 CC P0 K sc ns t c b m u tl v xs us ys H' a:=⟨s _ _ h.et,h.ct.same s,s _ _ h.em,s _ _ h.eu,s _ _ h.etl,h.tab.same s,s.seq h.scr⟩
theorem H11.lam(h:H11 CC P0 K sc ns t c b m u tl v xs us ys H a)(s:SameT P0 H H')(tab:TabOk P0 Y7s Y8k H'):H11 CC P0 K sc ns t c b m u tl v xs us ys H' a/\Z0a H H':=by
 obtain⟨ps,eP,_⟩:=h.tab
 have k:=s.keep eP
 refine⟨⟨k _ _ (fun _ z=>by cases z) h.et,CtxAt.keep h.ct k,k _ _ (fun _ z=>by cases z) h.em,k _ _ (fun _ z=>by cases z) h.eu,k _ _ (fun _ z=>by cases z) h.etl,tab,h.scr.kept fun o e hb=>k _ _ ?_ e⟩,k⟩
 rcases hb with rfl|⟨oc,rfl⟩<;>exact fun _ z=>by cases z
theorem H11.exc{xs':List Str}{a':Addr}(h:H11 CC P0 K sc ns t c b m u tl v xs us ys H a)(x:Exc c H H')(ct:CtxV CC H' c v a' b xs' ys):H11 CC P0 K sc ns t c b m u tl v xs' us ys H' a':=by
 obtain⟨dx,ec⟩:=h.ct.ins
 refine⟨x _ _ h.et (U6 h.et ec (by intro z;cases z)),ct,x _ _ h.em (U6 h.em ec (by intro z;cases z)),x _ _ h.eu (U6 h.eu ec (by intro z;cases z)),x _ _ h.etl (U6 h.etl ec (by intro z;cases z)),TR.TabOk.exc h.tab x ec,h.scr.kept fun o e hb=>?_⟩
 rcases hb with rfl|⟨oc,rfl⟩
 . exact x _ _ e (U6 e ec (by intro z;cases z))
 . exact x _ _ e (U6 e ec (by intro z;cases z))
theorem H11.dict{u' tl':Addr}{us' ys':List Str}{b':Addr}(h:H11 CC P0 K sc ns t c b m u tl v xs us ys H a)(x:Exc m H H')(em:H' m=some (.dK (Z1 u' tl')))(eu:H' u'=some (.lst (us'.map V.str)))(etl:H' tl'=some (.lst (ys'.map V.str)))(ct:CtxV CC H' c v a b' xs ys'):H11 CC P0 K sc ns t c b' m u' tl' v xs us' ys' H' a:=by
 have e:=h.em
 refine⟨x _ _ h.et (U6 h.et e (by intro z;cases z)),ct,em,eu,etl,?_,h.scr.kept fun o e' hb=>?_⟩
 . obtain⟨ps,eP,rest⟩:=id h.tab
   refine h.tab.at fun b o e' hb=>?_
   rcases hb with rfl|⟨oc,rfl⟩
   . rw[eP] at e'
     cases e'
     exact x _ _ eP (U6 eP e (by intro z;cases z))
   . exact x _ _ e' (U6 e' e (by intro z;cases z))
 . rcases hb with rfl|⟨oc,rfl⟩
   . exact x _ _ e' (U6 e' e (by intro z;cases z))
   . exact x _ _ e' (U6 e' e (by intro z;cases z))
theorem CtxAt.exc_d{r:Int}{y:Wy}{l mm:Int}{zs ws:List V}{kv:List (Key×V)}(h:CtxAt CC H c r y l mm a b zs ws)(x:Exc m H H')(e:H m=some (.dK kv)):CtxAt CC H' c r y l mm a b zs ws:=by
 obtain⟨⟨dx,e1⟩,e2,e3⟩:=h
 exact⟨⟨dx,x _ _ e1 (U6 e1 e (by intro z;cases z))⟩,x _ _ e2 (U6 e2 e (by intro z;cases z)),x _ _ e3 (U6 e3 e (by intro z;cases z))⟩
end
theorem Y8w(n:Nat):([n+1+1+1+1,n+1+1+1,n+1+1]:List Nat).Nodup:=by
 refine List.nodup_cons.mpr ⟨fun h=>?_,List.nodup_cons.mpr ⟨fun h=>?_,List.nodup_cons.mpr ⟨fun h=>?_,List.nodup_nil⟩⟩⟩
 . simp only[List.mem_cons,List.not_mem_nil,or_false] at h
   omega
 . simp only[List.mem_cons,List.not_mem_nil,or_false] at h
   omega
 . simp only[List.not_mem_nil] at h
theorem Z0b{ys zs:List Str}{z:Str}(h:hit ys zs=some z):z∈ys:=List.mem_of_find?_eq_some h
noncomputable abbrev C5e (c t m:Addr) (cell:Int) (sg ex nu fr id fo so du an:Option V):L2.St:=[some (.ref c),some (.ref t),some (.ref m),some (.int cell),sg,ex,nu,fr,id,fo,so,du,an]
section
variable{P:Program}{w:World}{K:Frag}{mg:Str ->Option Value}{base:Heap}
noncomputable def Z9y (CN CC CT c q:Addr) (v:Cv) (b:Addr) (xs ys:List Str) (t bo n:Int) (res:Nm×List Str):V ->Hp ->VK ->XK ->Prop:=fun y H Q E=>y= .ref c/\(∃a,CtxV CC H c v a b xs ys)/\H q=some (.tup [.int t,.int bo,.int n])/\Ends2 CN CC CT H c v b xs ys res Q E
noncomputable def U6u (CC P0:Addr) (K:Frag):Sp:=fun vs H Q _=>∃sc ns c t m b u tl a,∃(cell:Int) (v:Cv) (us ys:List Str),vs=[.ref c,.ref t,.ref m,.int cell]/\H11 CC P0 K sc ns t c b m u tl v (V9 us) us ys H a/\v.Ok/\SubS ys/\us.length<=100/\
 ∀us' u' a' H',us'.length<=us.length+4 ->H11 CC P0 K sc ns t c b m u' tl v (V9 us') us' ys H' a' ->Q (.bl true) H'
theorem scLOne:FnScope ["_law_context","_law_parts","_law_mine","_law_cell","_law_sign","_law_exact","_law_number","_law_far","_law_ideal","_law_found","_law_some","_law_due","_law_answer_here"] ["_law_context","_law_parts","_law_mine","_law_cell"] (A1 B9e):=scK
theorem Y2t{f cc P0 f1 f2 f3 f4 f5 f6 f7 f8 fR CC CN CT CR CE:Addr}{fd fd1 fd2 fd3 fd4 fd5 fd6 fd7 fd8 fdR:FuncData}{d0:Value}{gP:List Value ->List Value ->List Value}{vP:List V ->List V ->List V}(D:Def K mg "_law_one" ["_law_context","_law_parts","_law_mine","_law_cell"] B9e f fd)(hcode:fd.code= .ref cc)(LB:LamB mg base cc P0)
   (dA:Def K mg "_law_mixed" ["_law_cell","_law_k"] A4u f1 fd1) (dB:FnOk P w K mg base (CX1 P w) 1 f1 fd1 ["_law_cell","_law_k"] B9t) (dC:Def K mg "_law_value" ["_law_cell","_law_parts"] A5c f2 fd2) (dD:FnOk P w K mg base (CX1 P w) 3 f2 fd2 ["_law_cell","_law_parts"] G0e)
   (dE:Def K mg "_law_settled" ["_law_parts","_law_sign","_law_exact","_law_ideal"] A5h f3 fd3) (dF:FnOk P w K mg base (CX1 P w) 2 f3 fd3 ["_law_parts","_law_sign","_law_exact","_law_ideal"] G1b) (dG:Def K mg "_law_due_answer" ["_law_found","_law_some","_law_traps"] G6s f4 fd4) (dH:FnOk P w K mg base (CX1 P w) 2 f4 fd4 ["_law_found","_law_some","_law_traps"] Y6p)
   (dJ:Def K mg "_law_answer" ["_law_deed","_law_context"] C2a f5 fd5) (dL:FnOkG P w K mg base (CX1 P w) 9 f5 fd5 ["_law_deed","_law_context"] (G6y P w K mg base 8 CN CT)) (dM:Def K mg "_law_whole" ["_law_found"] A0v f6 fd6) (dN:FnOk P w K mg base (CX1 P w) 1 f6 fd6 ["_law_found"] C1u)
   (dP:Def K mg "_law_signals" [] B4r f7 fd7) (dQ:FnOk P w K mg base (CX1 P w) 1 f7 fd7 [] D1e) (dS:Def K mg "settled" ["context","sign","exact","ideal"] A2u f8 fd8) (dU:FnOk P w K mg base (CX1 P w) 6 f8 fd8 ["context","sign","exact","ideal"] (C8q CN CC CT CR))
   (MR:MakeR P w K mg base CR fR fdR d0 gP vP) (R:RatC K mg CR CE) (C:CtxC K mg CC) (MF:Has P w K mg base CC "flags" 1 ["self"] (B3a CC)):FnOkG P w K mg base (CX1 P w) 10 f fd ["_law_context","_law_parts","_law_mine","_law_cell"] (U6u CC P0 K):=by
 refine D.F.okEL hcode scLOne (fun vs H Q E h=>?_) (fun X A outer s H vs Q E hX HG hr hx h=>?_)
 . obtain⟨sc,ns,c,t,m,b,u,tl,a,cell,v,us,ys,rfl,_⟩:=h
   rfl
 . subst hX
   obtain⟨sc,ns,c,t,m,b,u,tl,a,ce,v,us,ys,rfl,h0,ok,sy,lu,kk⟩:=h
   obtain⟨ff,fdf,mf,gf,bf⟩:=MF
   have HU:=Nat.lt_of_le_of_lt (Nat.add_le_add_left (by decide:1<=64) _) hr.units
   have CZ0:CellsZ [("_law_sign",s.heap.objs.size+1+1+1+1),("_law_ideal",s.heap.objs.size+1+1+1),("_law_exact",s.heap.objs.size+1+1)] [4,8,5] ["_law_context","_law_parts","_law_mine","_law_cell","_law_sign","_law_exact","_law_number","_law_far","_law_ideal","_law_found","_law_some","_law_due","_law_answer_here"] (envOfC "_law_one" (A1 B9e) s.heap.objs.size f (.ref cc)):=⟨fun i x c h=>by
     rcases i with _|_|_|i
     . obtain⟨rfl,rfl⟩:=Prod.mk.inj (Option.some.inj h)
       exact⟨rfl,rfl,fun j hj=>by cases hj;rfl⟩
     . obtain⟨rfl,rfl⟩:=Prod.mk.inj (Option.some.inj h)
       exact⟨rfl,rfl,fun j hj=>by cases hj;rfl⟩
     . obtain⟨rfl,rfl⟩:=Prod.mk.inj (Option.some.inj h)
       exact⟨rfl,rfl,fun j hj=>by cases hj;rfl⟩
     . cases h⟩
   refine⟨_,(A7 (C7 (D3 (i:=4) scLOne.nd rfl (Or.inr rfl) (B7 G5 (G0 dA dB hr hx (A0 (pv 3) (A0 A3 A8))) A3)))
     (A7 (C7 (D3 (i:=5) scLOne.nd rfl (Or.inr rfl) (G0 dC dD hr hx (A0 (pv 3) (A0 (pv 1) A8)))))
     (A7 (C7 (D3 (i:=6) scLOne.nd rfl (Or.inl rfl) (G0 dA dB hr hx (A0 (pv 3) (A0 A3 A8)))))
     (A7 (C7 (D3 (i:=7) scLOne.nd rfl (Or.inl rfl) (B7 D9 (pv 6) A3)))
     (A7 (C7 (D3 (i:=8) scLOne.nd rfl (Or.inr rfl) (U5 A1d (U4 (A0 (U5 V1 (pv 5) A3 (fun _ _=>rfl)) (A0 A3 (A0 (B7 U2 (B7 G8 (U5 V1 (pv 5) A3 (fun _ _=>rfl)) (B7 G5 (pv 7) A3)) A3) (A0 (B7 U2 (B7 G5 (pv 7) A3) A3) (A0 (B7 U2 (U5 V1 (pv 1) A3 (fun _ _=>rfl)) (U5 V1 (pv 1) A3 (fun _ _=>rfl))) A8)))))) (B7 G5 (pv 6) A3) (fun _ _=>rfl))))
     (A7 (C7 (G6t (G0 dE dF hr hx (A0 (pv 1) (A0 (pv 4) (A0 (pv 5) (A0 (pv 8) A8))))) (G6z rfl (Y8 (V6 (i:=9) scLOne.nd rfl (Or.inl rfl)) (Y8 (V6 (i:=10) scLOne.nd rfl (Or.inl rfl)) B9w)))))
     (A7 (C7 (D3 (i:=11) scLOne.nd rfl (Or.inl rfl) (G0 dG dH hr hx (A0 (pv 9) (A0 (pv 10) (A0 (B4k HU (pv 2) C5 (fun _ _=>rfl)) A8))))))
     (A7 (C7 (D3 (i:=12) scLOne.nd rfl (Or.inl rfl) (U7j dJ dL HG hr hx CZ0 (A0 (J8b LB rfl (by rfl)) (A0 (pv 0) A8)))))
     (A7 (C7 (D0w HU (pv 2) C5 (B7 C0v (B4k HU (pv 2) C5 (fun _ _=>rfl)) (pv 10)) (by rfl)))
     (A7 (C7 (J9 (PW.pt (G1h (A2y (Y0 (G0 dM dN hr hx (A0 (pv 12) A8)))) (C1d (D0 (U4w hr.units) (pv 12) (pv 11) (C8 _))))) (B3 (C4 A3h)) D4))
     (B3 (C4 (G3 (U6e hr.units) (A4z (pv 0) C.cl mf gf hr bf .nil hx) (C0q (N:=["_law_name"]) (F:=["_law_mine"]) (js:=[2]) (CompScopeF.of1 ⟨rfl,by decide+kernel,by decide+kernel,by decide+kernel,by decide+kernel⟩ (by rfl) (by rfl) ⟨_,by rfl⟩ (by rfl) (by rfl)) (.inl hr.hd) rfl (B9x (D1v dP dQ hr hx)) rfl (fun C s₀ H₀ ex pn h=>V6 (i:=0) (by decide+kernel:(["_law_name","_law_mine"]:List Str).Nodup) rfl (Or.inl rfl)) (fun C s₀ H₀ ex pn h=>(D0 (A4w (K:=K) rfl) (pv 0) (B4k HU (pv 1) C5 (fun _ _=>rfl)) (by rfl))) (fun C s₀ H₀ ex pn h=>(pv 0))) (C8 _)))))))))))))),?_⟩
   have z2:2<=sizeLine:=C9 (by decide)
   have z5:5<=sizeLine:=C9 (by decide)
   refine⟨fun σ' H'=>∃sg:Int,H'=H/\0<=sg/\sg<=1/\σ'=C5e c t m ce (some (.int sg)) none none none none none none none none,⟨_,rfl,ce,3,rfl,by decide,by decide,fun mm m0 m1=>⟨_,_,rfl,rfl,(by decide:(0:Int)<2),_,rfl,by omega,by omega,rfl⟩⟩,?_⟩
   rintro σ' H1 ⟨sg,rfl,sg0,sg1,rfl⟩
   refine⟨fun σ' H'=>∃q,∃tp bo n:Int,Same H1 H'/\RatIn tp bo n/\H' q=some (.tup [.int tp,.int bo,.int n])/\σ'=C5e c t m ce (some (.int sg)) (some (.ref q)) none none none none none none none,?_,?_⟩
   . refine⟨_,rfl,_,rfl,ce,t,v,rfl,h0.et,ok,fun tp bo g q H' t1 t2 b1 b2 g0 g1 s' e=>⟨q,tp,bo,_,s',?_,e,rfl⟩⟩
     have ft:=U7d t1 t2 (by decide)
     have fb:=U7d b1 (b9 b2) (by decide)
     exact⟨t1,Int.lt_of_lt_of_le t2 (U8 (by decide)),b1,Int.lt_of_lt_of_le (b9 b2) (U8 (by decide)),by omega,by omega⟩
   rintro σ' H2 ⟨q,tp,bo,n,s2,ri,eq,rfl⟩
   have h2:=h0.same s2
   refine⟨fun σ' H'=>∃nu:Int,H'=H2/\σ'=C5e c t m ce (some (.int sg)) (some (.ref q)) (some (.int nu)) none none none none none none,⟨_,rfl,ce,4,rfl,by decide,by decide,fun mm m0 m1=>⟨_,rfl,rfl⟩⟩,?_⟩
   rintro σ' H3 ⟨nu,rfl,rfl⟩
   refine⟨fun σ' H'=>∃fr:Int,H'=H3/\σ'=C5e c t m ce (some (.int sg)) (some (.ref q)) (some (.int nu)) (some (.int fr)) none none none none none,⟨_,rfl,_,_,rfl,rfl,dv (n:=5) (by decide) (by decide+kernel),_,rfl,rfl⟩,?_⟩
   rintro σ' H4 ⟨fr,rfl,rfl⟩
   refine⟨fun σ' H'=>∃id:Int,Same H4 H'/\σ'=C5e c t m ce (some (.int sg)) (some (.ref q)) (some (.int nu)) (some (.int fr)) (some (.int id)) none none none none,?_,?_⟩
   . obtain⟨id,_,ix⟩:=ixs (xs:=[n,0,n+fr % 41-20,fr % 401-200,v.l-v.r]) (i:=nu % 5) (Int.emod_nonneg _ (by decide)) (by show nu % 5<5;exact Int.emod_lt_of_pos _ (by decide))
     exact⟨_,rfl,q,_,_,_,rfl,rfl,SqT.of eq,D7 (j:=2) rfl,_,rfl,q,_,_,_,rfl,rfl,SqT.of eq,D7 (j:=2) rfl,_,rfl,_,_,rfl,rfl,(by decide:(0:Int)<41),_,_,rfl,rfl,_,_,rfl,rfl,_,rfl,_,_,rfl,rfl,(by decide:(0:Int)<401),_,_,rfl,rfl,_,rfl,t,_,_,_,rfl,rfl,SqT.of h2.et,D7 (j:=2) rfl,_,rfl,t,_,_,_,rfl,rfl,SqT.of h2.et,D7 (j:=0) rfl,_,_,rfl,rfl,z5,fun l nl=>⟨_,rfl,_,_,rfl,rfl,(by decide:(0:Int)<5),l,_,_,_,rfl,rfl,SqL.of A6,ix,id,Same.upd nl,rfl⟩⟩
   rintro σ' H5 ⟨id,s5,rfl⟩
   have h5:=h2.same s5
   have eq5:=s5 _ _ eq
   refine⟨fun σ' H'=>∃dt dl,∃zs:List Str,Same H5 H'/\H' dt=some (.tup (setL v sg (.rat tp bo n) id).1.vs)/\H' dl=some (.lst (zs.map V.str))/\(∀z,z∈zs↔z∈(setL v sg (.rat tp bo n) id).2)/\zs.length<=4/\σ'=C5e c t m ce (some (.int sg)) (some (.ref q)) (some (.int nu)) (some (.int fr)) (some (.int id)) (some (.ref dt)) (some (.ref dl)) none none,?_,?_⟩
   . refine⟨_,rfl,_,rfl,_,rfl,_,rfl,t,q,v,sg,tp,bo,n,id,rfl,h5.et,ok,eq5,ri,sg0,sg1,fun r H' s' du=>?_⟩
     obtain⟨dt,dl,zs,e1,e2,e3,mem,l4⟩:=du
     exact⟨r,_,rfl,SqT.of e1,rfl,_,_,rfl,_,_,rfl,rfl,dt,dl,zs,s',e2,e3,mem,l4,rfl⟩
   rintro σ' H6 ⟨dt,dl,zs,s6,edt,edl,mem,l4,rfl⟩
   have h6:=h5.same s6
   have eq6:=s6 _ _ eq5
   have hh:hit ys (setL v sg (.rat tp bo n) id).2=hit ys zs:=(J9f mem).symm
   refine⟨fun σ' H'=>∃dq,Same H6 H'/\((hit ys zs=none/\H' dq=some (.tup (setL v sg (.rat tp bo n) id).1.vs))\/∃z,hit ys zs=some z/\H' dq=some (.tup [.str "refused",.str z]))/\σ'=C5e c t m ce (some (.int sg)) (some (.ref q)) (some (.int nu)) (some (.int fr)) (some (.int id)) (some (.ref dt)) (some (.ref dl)) (some (.ref dq)) none,?_,?_⟩
   . refine⟨_,rfl,_,rfl,_,rfl,m,.ref tl,rfl,(by have:=DGet.k (k:= .inr "traps") h6.em;rw[D0z] at this;exact this),dt,dl,tl,(setL v sg (.rat tp bo n) id).1,zs,ys,rfl,edt,edl,h6.etl,sy,fun hn H' s'=>⟨dt,s',.inl ⟨hn,s' _ _ edt⟩,rfl⟩,fun z hz q' H' s' e=>⟨q',s',.inr ⟨z,hz,e⟩,rfl⟩⟩
   rintro σ' H7 ⟨dq,s7,edq,rfl⟩
   have h7:=h6.same s7
   have eq7:=s7 _ _ eq6
   have edl7:=s7 _ _ edl
   refine⟨fun σ' H'=>∃tt a',H11 CC P0 K sc ns t c b m u tl v (V9 (us++zs)) us ys H' a'/\H' dl=some (.lst (zs.map V.str))/\((H' dq=some (.tup (setL v sg (.rat tp bo n) id).1.vs)/\H' tt=some (.tup (setL v sg (.rat tp bo n) id).1.vs))\/∃z,z∈ys/\H' dq=some (.tup [.str "refused",.str z])/\H' tt=some (.tup [.str "refused",.str z]))/\σ'=C5e c t m ce (some (.int sg)) (some (.ref q)) (some (.int nu)) (some (.int fr)) (some (.int id)) (some (.ref dt)) (some (.ref dl)) (some (.ref dq)) (some (.ref tt)),?_,?_⟩
   . refine⟨h7.tab,fun fl H8 sT nf la tab8 oth=>?_⟩
     obtain⟨h8,k8⟩:=h7.lam sT tab8
     refine⟨_,rfl,?_⟩
     intro hn H9 ho A9 kn
     have DO:=U7g (P:=P) (w:=w) (K:=K) (mg:=mg) (base:=base) (k:=7) (pr:="_law_here") (vs:=[.int sg,.int id,.ref q]) (sp:=Z9y CN CC CT c q v b (V9 us) ys tp bo n (setL v sg (.rat tp bo n) id)) la (show LamS ["_law_sign","_law_ideal","_law_exact"] _ from⟨rfl,rfl,rfl,by decide+kernel,by decide+kernel,by decide+kernel,by decide+kernel⟩) rfl rfl (Y8w _) (fun _ _ _ _=>rfl) (fun X cdv A' outer' s' H' y Q' E' hX hr' hx' hsp af=>by
       subst hX
       obtain⟨rfl,⟨a',hc'⟩,eq',k'⟩:=hsp
       refine⟨_,G0 dS dU hr' hx' (A0 (pv 0) (A0 (pv 1) (A0 (C9r MR.m MR.g hr' R.g MR.b3 .nil hx' (A0 (U5 V1 (pv 3) A3 (fun _ _=>rfl)) (A0 (U5 V1 (pv 3) A3 (fun _ _=>rfl)) (A0 (U5 V1 (pv 3) A3 (fun _ _=>rfl)) A8)))) (A0 (pv 2) A8)))),?_⟩
       have eh:V0 _ H' q=some (.tup [.int tp,.int bo,.int n]):=af.hide eq' (fun _ z=>by cases z)
       refine⟨_,rfl,_,rfl,_,rfl,q,_,_,_,rfl,rfl,SqT.of eh,D7 (j:=0) rfl,_,rfl,q,_,_,_,rfl,rfl,SqT.of eh,D7 (j:=1) rfl,_,rfl,q,_,_,_,rfl,rfl,SqT.of eh,D7 (j:=2) rfl,fun r dr m1 m2 me=>Z4f m1 m2 me fun H1 s1' ra=>⟨rfl,?_⟩⟩
       have ld:=D1x ri.st.sz ri.sb.sz n
       have rin:=(U6v (v:=v) ok ri.st ri.sb (n:=n) (by have:=ri.n0;omega) (by have:=ri.n1;omega)).1
       exact⟨_,rfl,c,v,a',b,V9 us,ys,r,tp,bo,n,n+B5 tp bo,sg,id,rfl,(CtxAt.hide hc' af).same s1',ok,Nat.le_trans (Z3q us) (by decide),ra,ri.st.sz,ri.sb.sz,ld,rin.1,rin.2,sg0,sg1,k'.hide.same s1'⟩)
     have fin:∀{tt:Addr} {a':Addr} {H10:Hp},Exc c H8 H10 ->CtxV CC H10 c v a' b (V9 (V9 us++(setL v sg (.rat tp bo n) id).2)) ys ->H11 CC P0 K sc ns t c b m u tl v (V9 (us++zs)) us ys H10 a'/\H10 dl=some (.lst (zs.map V.str))/\∀{p:Addr} {xs:List V},H7 p=some (.tup xs) ->H10 p=some (.tup xs):=fun x10 ct10=>by
       obtain⟨dc,ec⟩:=h8.ct.ins
       rw[Y9x mem] at ct10
       have e8:=k8 _ _ (fun _ z=>by cases z) edl7
       refine⟨h8.exc x10 ct10,x10 _ _ e8 (U6 e8 ec (by intro z;cases z)),fun e=>?_⟩
       have e8:=k8 _ _ (fun _ z=>by cases z) e
       exact x10 _ _ e8 (U6 e8 ec (by intro z;cases z))
     refine Z0c la hn ho A9 (fun j x' c' hj=>?_) DO h8.ct (fun Qd Ed s89 ct9 en=>⟨rfl,⟨a,ct9⟩,s89 _ _ (k8 _ _ (fun _ z=>by cases z) eq7),en⟩) (fun hz tt a' H10 x10 ct10 ett=>?_) (fun z hz tt a' H10 x10 ct10 ett=>?_)
     . rcases j with _|_|_|j
       . exact⟨_,rfl,kn 0 x' c' 4 _ hj rfl rfl⟩
       . exact⟨_,rfl,kn 1 x' c' 8 _ hj rfl rfl⟩
       . exact⟨_,rfl,kn 2 x' c' 5 _ hj rfl rfl⟩
       . cases hj
     . obtain⟨g1,g2,g3⟩:=fin (tt:=tt) x10 ct10
       rw[hh] at hz
       rcases edq with⟨_,e⟩|⟨z,h1,_⟩
       . exact⟨tt,a',g1,g2,.inl ⟨g3 e,ett⟩,rfl⟩
       . rw[h1] at hz
         cases hz
     . obtain⟨g1,g2,g3⟩:=fin (tt:=tt) x10 ct10
       rw[hh] at hz
       rcases edq with⟨h1,_⟩|⟨z',h1,e⟩
       . rw[h1] at hz
         cases hz
       . rw[h1] at hz
         cases hz
         exact⟨tt,a',g1,g2,.inr ⟨z,Z0b h1,g3 e,ett⟩,rfl⟩
   clear edq h7 eq7 edl7 s7 h6 eq6 edt edl s6
   rintro σ' H8 ⟨tt,a8,h8,edl,eans,rfl⟩
   refine⟨fun σ' H'=>∃u',H11 CC P0 K sc ns t c b m u' tl v (V9 (us++zs)) (us++zs) ys H' a8/\((H' dq=some (.tup (setL v sg (.rat tp bo n) id).1.vs)/\H' tt=some (.tup (setL v sg (.rat tp bo n) id).1.vs))\/∃z,z∈ys/\H' dq=some (.tup [.str "refused",.str z])/\H' tt=some (.tup [.str "refused",.str z]))/\σ'=C5e c t m ce (some (.int sg)) (some (.ref q)) (some (.int nu)) (some (.int fr)) (some (.int id)) (some (.ref dt)) (some (.ref dl)) (some (.ref dq)) (some (.ref tt)),?_,?_⟩
   . refine⟨_,rfl,m,.ref u,rfl,(by have:=DGet.k (k:= .inr "up") h8.em;rw[J6p] at this;exact this),_,rfl,u,dl,_,_,rfl,rfl,h8.eu,edl,C9 (by rw[List.length_map,List.length_map];omega),fun p np=>?_⟩
     have up:=Same.upd (o:= .lst (us.map V.str++zs.map V.str)) np
     have h9:=h8.same up
     have ep:upd H8 p (.lst (us.map V.str++zs.map V.str)) p=some (.lst ((us++zs).map V.str)):=by rw[A6,List.map_append]
     have eans9:∀{p':Addr} {xs:List V},H8 p'=some (.tup xs) ->upd H8 p (.lst (us.map V.str++zs.map V.str)) p'=some (.tup xs):=fun e=>up _ _ e
     generalize upd H8 p (.lst (us.map V.str++zs.map V.str))=H9 at h9 ep eans9
     refine⟨_,rfl,m,_,rfl,DPut.k (k:= .inr "up") h9.em (C9 (show 2<1000 by decide)),?_⟩
     rw[U5n]
     have xm:Exc m H9 (upd H9 m (.dK (Z1 p tl))):=Exc.upd
     refine⟨p,h9.dict xm A6 (xm _ _ ep (U6 ep h9.em (by intro z;cases z))) (xm _ _ h9.etl (U6 h9.etl h9.em (by intro z;cases z))) (TR.CtxAt.exc_d h9.ct xm h9.em),?_,rfl⟩
     have ke:∀{p':Addr} {xs:List V},H8 p'=some (.tup xs) ->upd H9 m (.dK (Z1 p tl)) p'=some (.tup xs):=fun e=>xm _ _ (eans9 e) (U6 (eans9 e) h9.em (by intro z;cases z))
     rcases eans with⟨e1,e2⟩|⟨z,hz,e1,e2⟩
     . exact .inl ⟨ke e1,ke e2⟩
     . exact .inr ⟨z,hz,ke e1,ke e2⟩
   clear eans h8 edl
   rintro σ' H9 ⟨u',h9,eans,rfl⟩
   have l24:(us++zs).length<=us.length+4:=by rw[List.length_append];omega
   generalize us++zs=vs at h9 l24
   refine⟨fun σ' H'=>H11 CC P0 K sc ns t c b m u' tl v (V9 vs) vs ys H' a8/\σ'=C5e c t m ce (some (.int sg)) (some (.ref q)) (some (.int nu)) (some (.int fr)) (some (.int id)) (some (.ref dt)) (some (.ref dl)) (some (.ref dq)) (some (.ref tt)),?_,?_⟩
   . rcases eans with⟨e1,e2⟩|⟨z,hz,e1,e2⟩
     . refine⟨_,rfl,tt,rfl,.inl ⟨_,e2⟩,fun H10 s10=>⟨_,rfl,U1 ?_⟩⟩
       refine⟨_,rfl,_,rfl,G0u _ _ _ _,G0u _ _ _ _,rdD (s10 _ _ e2),rdD (s10 _ _ e1),shD _ _ _ (okK _),shD _ _ _ (okK _),_,rfl,?_⟩
       rw[if_pos rfl,eqD]
       exact U1 ⟨h9.same s10,rfl⟩
     . refine⟨_,rfl,tt,rfl,.inr ⟨z,e2⟩,fun H10 s10=>⟨_,rfl,U1 ?_⟩⟩
       have oz:PyData.strOk z=true:=Y7e z (sy.mem z hz)
       refine⟨_,rfl,_,rfl,G1y "refused" z,G1y "refused" z,Z3r (s10 _ _ e2),Z3r (s10 _ _ e1),Z5z (by decide+kernel) oz,Z5z (by decide+kernel) oz,_,rfl,?_⟩
       rw[if_pos rfl,Z8b]
       exact U1 ⟨h9.same s10,rfl⟩
   rintro σ' H10 ⟨h10,rfl⟩
   obtain⟨dc,ec⟩:=h10.ct.ins
   refine⟨_,rfl,c,dc,_,rfl,ec,D0p _ _ _ _ _ _,c,v.r,v.y,v.l,v.m,a8,b,_,_,rfl,h10.ct,fun l1 n1=>⟨rfl,fun l2 n2=>⟨l2,rfl,⟨_,SqL.of A6⟩,?_⟩⟩⟩
   have u1:=Same.upd (o:= .lst ((V9 vs).map V.str)) n1
   have u2:=Same.upd (o:= .lst (sigS.map V.str)) n2
   have h12:=(h10.same u1).same u2
   refine C8y (fun z=>inV (.str z) (vs.map V.str)) A6 (by decide) (fun z H3 Qy Qn sm hy hn=>⟨_,rfl,_,rfl,m,.ref u',rfl,(by have:=DGet.k (k:= .inr "up") (sm _ _ h12.em);rw[J6p] at this;exact this),u',_,rfl,.inl (SqL.of (sm _ _ h12.eu)),rfl,flat_strs _,_,rfl,Y0k (fun e=>⟨_,rfl,hy e⟩) hn⟩) (fun D H13 s13 nD eD=>?_)
   rw[Y9z] at eD
   refine⟨rdS (V9 vs),rdS (V9 vs),B5m (s13 _ _ (u2 _ _ A6)),B5m eD,shS (U7h vs),shS (U7h vs),?_⟩
   rw[if_neg Bool.false_ne_true,Y8s]
   exact kk vs u' a8 _ l24 (h12.same s13)
end
noncomputable abbrev D1y:Stmt:=(top 66)
noncomputable def bt7 (i:Nat):Int:=([8,16,32,64,128,256,512]:List Int).getD i 8
theorem Y9v:∀i<7,([.int 8,.int 16,.int 32,.int 64,.int 128,.int 256,.int 512]:List V)[i]?=some (.int (bt7 i))/\0<bt7 i/\(bt7 i).natAbs.log2<9000:=by decide+kernel
theorem U5g(u t:Addr):B2u [] [((.inr "up":Key),V.ref u),(.inr "traps",.ref t)]=Z1 u t:=by
 simp[B2u,A4f,Z1,G0d]
theorem U7k(H:Hp):V0 [] H=H:=funext fun b=>V7 (by simp)
theorem H11.retrap{CC P0:Addr}{K:Frag}{sc:Addr}{ns:List Int}{t c b b' m u tl D':Addr}{v:Cv}{xs us ys ks:List Str}{H H6 H':Hp}{a C0 d0:Addr}{F:List (Str×V)}(h:H11 CC P0 K sc ns t c b m u tl v xs us ys H a)(xm:Exc m H H6)(em:H6 m=some (.dK (Z1 u D')))(eD:H6 D'=some (.lst (ks.map V.str)))(ec:H6 c=some (.ins C0 d0 F))(x:Exc c H6 H')(ct:CtxV CC H' c v a b' xs ks):H11 CC P0 K sc ns t c b' m u D' v xs us ks H' a:=by
 have e:=h.em
 have k1:∀{p:Addr} {o:HO},H p=some o ->(∀kv,o≠ .dK kv) ->(∀C d F,o≠ .ins C d F) ->H' p=some o:=fun e1 n1 n2=>x _ _ (xm _ _ e1 (U6 e1 e (n1 _))) (U6 (xm _ _ e1 (U6 e1 e (n1 _))) ec (n2 _ _ _))
 refine⟨k1 h.et (fun _ z=>by cases z) (fun _ _ _ z=>by cases z),ct,x _ _ em (U6 em ec (by intro z;cases z)),k1 h.eu (fun _ z=>by cases z) (fun _ _ _ z=>by cases z),x _ _ eD (U6 eD ec (by intro z;cases z)),h.tab.at fun b o e' hb=>?_,h.scr.kept fun o e' hb=>?_⟩
 . rcases hb with rfl|⟨oc,rfl⟩
   . obtain⟨ps,eP,_⟩:=h.tab
     rw[eP] at e'
     cases e'
     exact k1 eP (fun _ z=>by cases z) (fun _ _ _ z=>by cases z)
   . exact k1 e' (fun _ z=>by cases z) (fun _ _ _ z=>by cases z)
 . rcases hb with rfl|⟨oc,rfl⟩<;>exact k1 e' (fun _ z=>by cases z) (fun _ _ _ z=>by cases z)
noncomputable abbrev stL (sc t c m:Addr) (k ce bi:Option V):L2.St:=[some (.ref sc),some (.ref t),some (.ref c),some (.ref m),k,ce,bi]
section
variable{P:Program}{w:World}{K:Frag}{mg:Str ->Option Value}{base:Heap}
noncomputable def J6b (K:Frag) (P0:Addr):Sp:=fun vs H Q _=>∃a ns,vs=[.ref a]/\(ns:List Int).length<=63/\SqL K H a (ns.map V.int)/\H P0=some (.tbl #[])/\∀H',Q (.bl true) H'
theorem scLaw:FnScope ["_law_script","_law_parts","_law_context","_law_mine","_law_k","_law_cell","_law_bits"] ["_law_script"] (A1 D1y):=scK
theorem Y7v{f P0 f1 f2 f3 f4 f5 fJ CC CB:Addr}{fd fd1 fd2 fd3 fd4 fd5 fdJ:FuncData}(D:Def K mg "law" ["_law_script"] D1y f fd)
   (dA:Def K mg "_law_cell_at" ["_law_script","_law_k"] C0d f1 fd1) (dB:FnOk P w K mg base (CX1 P w) 1 f1 fd1 ["_law_script","_law_k"] (U5m K)) (dC:Def K mg "_law_mixed" ["_law_cell","_law_k"] A4u f2 fd2) (dD:FnOk P w K mg base (CX1 P w) 1 f2 fd2 ["_law_cell","_law_k"] B9t)
   (dE:Def K mg "_law_drawn_context" ["_law_cell"] B2z f3 fd3) (dF:FnOk P w K mg base (CX1 P w) 2 f3 fd3 ["_law_cell"] J5q) (dG:Def K mg "_law_signals" [] B4r f4 fd4) (dH:FnOk P w K mg base (CX1 P w) 1 f4 fd4 [] D1e)
   (dJ:Def K mg "_law_one" ["_law_context","_law_parts","_law_mine","_law_cell"] B9e f5 fd5) (dL:FnOkG P w K mg base (CX1 P w) 10 f5 fd5 ["_law_context","_law_parts","_law_mine","_law_cell"] (U6u CC P0 K)) (MC:MakeC P w K mg base CC CB fJ fdJ) (B4:L2.Binds K fdJ ["self","room","way","least","most"] []) (C:CtxC K mg CC)
   (MT:Has P w K mg base CC "traps" 1 ["self"] (B2s CC)) (MP:Has P w K mg base CC "trap" 2 ["self","names"] (G7g K CC CB)) (ME:Has P w K mg base CC "clear" 1 ["self"] (B2r CC)) (O:Own mg):FnOkG P w K mg base (CX1 P w) 11 f fd ["_law_script"] (J6b K P0):=by
 refine D.F.okEG scLaw (fun vs H Q E h=>?_) (fun X cdv A outer s H vs Q E hX HG hr hx h=>?_)
 . obtain⟨a,ns,rfl,_⟩:=h
   rfl
 . subst hX
   obtain⟨sc,ns,rfl,n63,hS,hP,kk⟩:=h
   obtain⟨ft,fdt,mt,gt,bt⟩:=MT
   obtain⟨fp,fdp,mp,gp,bp⟩:=MP
   obtain⟨fe,fde,me,ge,be⟩:=ME
   have HU:=Nat.lt_of_le_of_lt (Nat.add_le_add_left (by decide:1<=64) _) hr.units
   have CZE:∀N env,CellsZ [] [] N env:=fun _ _=>⟨fun i x c h=>by cases h⟩
   refine⟨_,(A7 (C7 (D3 (i:=1) scLaw.nd rfl (Or.inl rfl) (G0 dE dF hr hx (A0 (G0 dC dD hr hx (A0 (G0 dA dB hr hx (A0 (pv 0) (A0 A3 A8))) (A0 A3 A8))) A8))))
     (A7 (C7 (D3 (i:=2) scLaw.nd rfl (Or.inl rfl) (C9r MC.m MC.g hr C.g B4 .nil hx (A0 (U5 V1 (pv 1) A3 (fun _ _=>rfl)) (A0 (U5 V1 (pv 1) A3 (fun _ _=>rfl)) (A0 (U5 V1 (pv 1) A3 (fun _ _=>rfl)) (A0 (U5 V1 (pv 1) A3 (fun _ _=>rfl)) A8)))))))
     (A7 (C7 (D3 (i:=3) scLaw.nd rfl (Or.inl rfl) (Y1m (G1k C5 (U4 A8) (G1k C5 (U4 A8) Y2v)) rfl rfl (by simp) (by decide))))
     (A7 (C7 (G5t PassesOwn.leaving rfl (J9s rfl O.range_ (A0 A3 A8)) (V6 (i:=4) scLaw.nd rfl (Or.inl rfl)) (A7 (C7 (D3 (i:=5) scLaw.nd rfl (Or.inr rfl) (G0 dC dD hr hx (A0 (G0 dA dB hr hx (A0 (pv 0) (A0 (B7 G8 A3 (pv 4)) A8))) (A0 (B7 G8 A3 (pv 4)) A8)))))
     (A7 (C7 (J9 (D0 U0 (B7 G5 (pv 5) A3) A3 (C8 _)) (A7 (C7 (D3 (i:=6) scLaw.nd rfl (Or.inr rfl) (U4 (A0 A3 (A0 A3 (A0 A3 (A0 A3 (A0 A3 (A0 A3 (A0 A3 A8))))))))))
     (A7 (C7 (D0w HU (pv 3) C5 (C0q (N:=["_law_j","_law_name"]) (F:=["_law_cell","_law_bits"]) (js:=[5,6]) (CompScopeF.of2 ⟨rfl,by decide+kernel,by decide+kernel,by decide+kernel,by decide+kernel⟩ (by rfl) (by rfl) ⟨_,by rfl⟩ (by rfl) (by rfl) (by rfl) ⟨_,by rfl⟩ (by rfl) (by rfl)) (.inl hr.hd) rfl (Y0r rfl O.enumerate_ (A0 (D1v dG dH hr hx) A8)) rfl (fun C s₀ H₀ ex pn h=>Y0x (K:=K) (n:=2) rfl h (Y8 (V6 (i:=0) (by decide+kernel:(["_law_j","_law_name","_law_cell","_law_bits"]:List Str).Nodup) rfl (Or.inl rfl)) (Y8 (V6 (i:=1) (by decide+kernel:(["_law_j","_law_name","_law_cell","_law_bits"]:List Str).Nodup) rfl (Or.inl rfl)) B9w))) (fun C s₀ H₀ ex pn h=>(D0 U0 (B7 G5 (B7 D9 (pv 2) (U5 (U6b (K:=K) rfl) (pv 3) (pv 0) (fun _ _=>rfl))) A3) A3 (C8 _))) (fun C s₀ H₀ ex pn h=>(pv 1))) (by rfl)))
     (B3 (C7 (A1b (C1y (pv 2) C.cl mp gp hr bp .nil hx (A0 (J0 A4x (by rfl) O.list_ boot_list (A0 (B4k HU (pv 3) C5 (fun _ _=>rfl)) A8)) A8))))))) D4))
     (A7 (C7 (J9 (D0 U0 (B7 G5 (B7 D9 (pv 5) A3) A3) A3 (C8 _)) (A7 (C7 (A1b (A4z (pv 2) C.cl me ge hr be .nil hx)))
     (B3 (C7 (D0w HU (pv 3) C5 (U4 A8) (by rfl))))) D4))
     (B3 (C7 (J9 (A2y (Y0 (U7j dJ dL HG hr hx (CZE _ _) (A0 (pv 2) (A0 (pv 1) (A0 (pv 3) (A0 (B7 D9 (pv 5) A3) A8))))))) (B3 (C4 A3h)) D4))))))))
     (B3 (C4 (G3 (U6e hr.units) (A4z (pv 2) C.cl mt gt hr bt .nil hx) (B4k HU (pv 3) C5 (fun _ _=>rfl)) (C8 _)))))))),?_⟩
   have tb:TabOk P0 Y7s Y8k H:=⟨_,hP,trivial,.inl rfl⟩
   have z7:7<=sizeLine:=C9 (by decide)
   refine⟨fun σ' H'=>∃t v,Same H H'/\H' t=some (.tup (Cv.vs v))/\v.Ok/\σ'=[some (.ref sc),some (.ref t),none,none,none,none,none],?_,?_⟩
   . exact⟨_,rfl,sc,ns,0,rfl,hS,by decide,fun c0=>⟨c0,1,rfl,by decide,by decide,fun m m0 m1=>⟨m,rfl,m0,fun t r y l mo H' r1 r2 l1 l2 m1 m2 s' e=>⟨t,⟨r,y,l,mo⟩,s',e,⟨r1,r2,l1,l2,m1,m2⟩,rfl⟩⟩⟩⟩
   rintro σ' H1 ⟨t,v,s1,et,ok,rfl⟩
   refine⟨fun σ' H'=>∃c a b,Same H H'/\H' t=some (.tup v.vs)/\CtxV CC H' c v a b [] []/\σ'=[some (.ref sc),some (.ref t),some (.ref c),none,none,none,none],?_,?_⟩
   . exact⟨_,rfl,t,_,_,_,rfl,rfl,SqT.of et,D7 (j:=0) rfl,_,rfl,t,_,_,_,rfl,rfl,SqT.of et,D7 (j:=1) rfl,_,rfl,t,_,_,_,rfl,rfl,SqT.of et,D7 (j:=2) rfl,_,rfl,t,_,_,_,rfl,rfl,SqT.of et,D7 (j:=3) rfl,fun x dx n1 n2 ne=>Z3u n1 n2 ne rfl ok.r1 ok.r2 rfl (.inr ⟨rfl,ok.l1,ok.l2⟩) rfl ok.m1 ok.m2 fun a b H4 s4 hc=>⟨rfl,x,a,b,s1.trans s4,s4 _ _ et,hc,rfl⟩⟩
   clear et s1 H1
   rintro σ' H1 ⟨c,a,b,s1,et,ct,rfl⟩
   refine⟨fun σ' H'=>∃m u tl,H11 CC P0 K sc ns t c b m u tl v [] [] [] H' a/\σ'=stL sc t c m none none none,?_,?_⟩
   . intro d nd
     refine⟨Nat.zero_le _,fun u nu=>⟨Nat.zero_le _,fun tl nt=>⟨Same.upd nt _ _ (Same.upd nu _ _ A6),[(.inr "up",.ref u),(.inr "traps",.ref tl)],rfl,by show 2<=15;decide,?_⟩⟩⟩
     have u0:=Same.upd (o:= .dK []) nd
     have u1:=Same.upd (o:= .lst []) nu
     have u2:=Same.upd (o:= .lst []) nt
     have s2:=u0.trans (u1.trans u2)
     have ed:=u2 _ _ (u1 _ _ (A6 (H:=H1) (a:=d) (o:= .dK [])))
     have eu:=u2 _ _ (A6 (H:=upd H1 d (.dK [])) (a:=u) (o:= .lst []))
     have et':=A6 (H:=upd (upd H1 d (.dK [])) u (.lst [])) (a:=tl) (o:= .lst [])
     rw[U5g]
     generalize upd (upd (upd H1 d (.dK [])) u (.lst [])) tl (.lst [])=G at*
     have xd:Exc d G (upd G d (.dK (Z1 u tl))):=Exc.upd
     have k1:∀{p:Addr} {o:HO},G p=some o ->(∀kv,o≠ .dK kv) ->upd G d (.dK (Z1 u tl)) p=some o:=fun e n=>xd _ _ e (U6 e ed (n _))
     refine⟨d,u,tl,⟨k1 (s2 _ _ et) (fun _ z=>by cases z),TR.CtxAt.exc_d (ct.same s2) xd ed,A6,k1 eu (fun _ z=>by cases z),k1 et' (fun _ z=>by cases z),(tb.same (s1.trans s2)).at fun b o e hb=>?_,((s1.trans s2).seq hS).kept fun o e hb=>?_⟩,rfl⟩
     . rcases hb with rfl|⟨oc,rfl⟩
       . have eP:=(s1.trans s2) _ _ hP
         rw[eP] at e
         cases e
         exact k1 eP (fun _ z=>by cases z)
       . exact k1 e (fun _ z=>by cases z)
     . rcases hb with rfl|⟨oc,rfl⟩<;>exact k1 e (fun _ z=>by cases z)
   clear et ct s1 tb hP hS
   rintro σ' H1 ⟨m,u,tl,h1,rfl⟩
   refine⟨fun σ' H'=>∃a b u tl us ys z4 z5 z6,H11 CC P0 K sc ns t c b m u tl v (V9 us) us ys H' a/\SubS ys/\σ'=stL sc t c m z4 z5 z6,?_,?_⟩
   . refine ⟨6,rfl,by decide,by decide,?_⟩
     refine J8y (fun i σ' H'=>∃a b u tl us ys z4 z5 z6,us.length<=4*i/\H11 CC P0 K sc ns t c b m u tl v (V9 us) us ys H' a/\SubS ys/\σ'=stL sc t c m z4 z5 z6) ⟨a,b,u,tl,[],[],none,none,none,Nat.zero_le _,by rw[G0z];exact h1,⟨fun _=>false,by simp⟩,rfl⟩ ?_ (fun σ' H' ⟨a,b,u,tl,us,ys,z4,z5,z6,_,h,s,e⟩=>⟨a,b,u,tl,us,ys,z4,z5,z6,h,s,e⟩)
     clear h1
     rintro i σ' H2 hi ⟨a,b,u,tl,us,ys,z4,z5,z6,lu,h2,sy,rfl⟩
     refine⟨fun σ' H'=>∃kx ce:Int,H'=H2/\σ'=stL sc t c m (some (.int kx)) (some (.int ce)) z6,?_,?_⟩
     . exact⟨_,rfl,_,rfl,_,_,rfl,rfl,sc,ns,_,rfl,h2.scr,by omega,fun c1=>⟨_,rfl,_,_,rfl,rfl,c1,_,rfl,by omega,by omega,fun m m0 m1=>⟨_,m,rfl,rfl⟩⟩⟩
     rintro σ' H3 ⟨kx,ce,rfl,rfl⟩
     refine⟨fun σ' H'=>∃b tl ys z6,H11 CC P0 K sc ns t c b m u tl v (V9 us) us ys H' a/\SubS ys/\σ'=stL sc t c m (some (.int kx)) (some (.int ce)) z6,?_,?_⟩
     . refine⟨_,rfl,_,_,rfl,rfl,(by decide:(0:Int)<4),rfl,_,rfl,Y3 (fun _=>?_) (fun _=>⟨b,tl,ys,z6,h2,sy,rfl⟩)⟩
       refine⟨fun σ' H'=>∃bl,Same H3 H'/\H' bl=some (.lst [.int 8,.int 16,.int 32,.int 64,.int 128,.int 256,.int 512])/\σ'=stL sc t c m (some (.int kx)) (some (.int ce)) (some (.ref bl)),⟨z7,fun bl nb=>⟨bl,Same.upd nb,A6,rfl⟩⟩,?_⟩
       rintro σ' H4 ⟨bl,s4,ebl,rfl⟩
       have h4:=h2.same s4
       refine⟨fun σ' H'=>∃tl' ks H5,SubS ks/\H11 CC P0 K sc ns t c b m u tl v (V9 us) us ys H5 a/\Exc m H5 H'/\H' m=some (.dK (Z1 u tl'))/\H' tl'=some (.lst (ks.map V.str))/\CtxV CC H' c v a b (V9 us) ys/\σ'=stL sc t c m (some (.int kx)) (some (.int ce)) (some (.ref bl)),?_,?_⟩
       . refine⟨rfl,fun l nl=>?_⟩
         have ul:=Same.upd (o:= .lst (sigS.map V.str)) nl
         have el:upd H4 l (.lst (sigS.map V.str)) l=some (.lst B5t):=A6
         refine⟨l,rfl,⟨_,SqL.of el⟩,G1n (J:=Ite K l) (n:=7) (fun i=>decide (ce/bt7 i % 2=1)) (fun i y _=>B5t[i]?=some y) (by decide) (fun _ _ _ _ _ _ h _ _=>h) (fun i H2 Qy Qn hi sm hy hn=>⟨⟨B5t,_,SqL.of (sm _ _ el),U6c i hi⟩,fun x H3 yl=>?_⟩) (fun H2 sm=>⟨B5t,SqL.of (sm _ _ el),by decide⟩) (fun D' H' zs sm nD eD hlen hR=>?_)⟩
         . obtain⟨tt,y,rfl,nt,rfl,hy'⟩:=yl
           have ey:=hy' _ (SqL.of (sm _ _ el))
           obtain⟨ix,p1,p2⟩:=Y9v i hi
           refine⟨tt,_,rfl,SqT.of A6,rfl,_,_,rfl,_,_,rfl,rfl,?_⟩
           refine⟨_,rfl,_,rfl,_,rfl,bl,_,_,_,rfl,rfl,SqL.of (Same.upd nt _ _ (sm _ _ (ul _ _ ebl))),D7 (j:=i) ix,_,_,rfl,rfl,dv p1 p2,_,_,rfl,rfl,(by decide:(0:Int)<2),rfl,_,rfl,Y3 (fun h=>?_) (fun h=>?_)⟩
           . have h:ce/bt7 i % 2=1:=V.int.inj h
             exact⟨_,rfl,hy (decide_eq_true h) y _ (Same.upd nt) ey⟩
           . have h:¬ce/bt7 i % 2=1:=fun e=>h (congrArg V.int e)
             exact hn (decide_eq_false h) _ (Same.upd nt)
         . have h5:=(h4.same ul).same sm
           have eks:=eD
           rw[Y0j hlen hR] at eks
           refine⟨_,rfl,m,_,rfl,DPut.k (k:= .inr "traps") h5.em (C9 (show 2<1000 by decide)),?_⟩
           rw[Y9c]
           have xm:Exc m H' (upd H' m (.dK (Z1 u D'))):=Exc.upd
           exact⟨D',_,H',U5u _,h5,xm,A6,xm _ _ eks (U6 eks h5.em (by intro z;cases z)),TR.CtxAt.exc_d h5.ct xm h5.em,rfl⟩
       rintro σ' H6 ⟨tl',ks,H5,sk,h5,xm,em6,etl6,ct6,rfl⟩
       refine⟨_,?_,fun _ _ h=>h⟩
       obtain⟨dc,ec⟩:=CtxAt.ins ct6
       refine⟨_,rfl,c,dc,_,rfl,ec,G1v _ _ _ _ _ _,_,rfl,m,.ref tl',rfl,(by have:=DGet.k (k:= .inr "traps") em6;rw[D0z] at this;exact this),tl',_,rfl,.inl (SqL.of etl6),fun l2 n2=>?_⟩
       have u2:=Same.upd (o:= .lst (ks.map V.str)) n2
       refine⟨c,v.r,v.y,v.l,v.m,a,b,_,_,_,rfl,CtxAt.same ct6 u2,.inl ⟨l2,ks,rfl,A6,sk.mem,fun b' H7 x7 nb ct7=>?_⟩⟩
       rw[G0n sk (fun _=>Iff.rfl)] at ct7
       exact⟨b',tl',ks,_,h5.retrap (xm.trans (.of u2)) (u2 _ _ em6) (u2 _ _ etl6) (u2 _ _ ec) x7 ct7,sk,rfl⟩
     clear h2 sy
     rintro σ' H4 ⟨b,tl,ys,z6,h4,sy,rfl⟩
     refine⟨fun σ' H'=>∃a u us',us'.length<=us.length/\H11 CC P0 K sc ns t c b m u tl v (V9 us') us' ys H' a/\σ'=stL sc t c m (some (.int kx)) (some (.int ce)) z6,?_,?_⟩
     . refine⟨_,rfl,_,_,rfl,rfl,dv (n:=4) (by decide) (by decide+kernel),_,_,rfl,rfl,(by decide:(0:Int)<3),rfl,_,rfl,Y3 (fun _=>?_) (fun _=>⟨a,u,us,Nat.le_refl _,h4,rfl⟩)⟩
       refine⟨fun σ' H'=>∃a,H11 CC P0 K sc ns t c b m u tl v [] us ys H' a/\σ'=stL sc t c m (some (.int kx)) (some (.int ce)) z6,?_,?_⟩
       . obtain⟨dc,ec⟩:=h4.ct.ins
         exact⟨_,rfl,c,dc,_,rfl,ec,D1r _ _ _ _ _ _,c,v.r,v.y,v.l,v.m,a,b,_,_,rfl,h4.ct,fun a' H5 x5 na ct5=>⟨a',h4.exc (xs':=[]) x5 ct5,rfl⟩⟩
       rintro σ' H5 ⟨a5,h5,rfl⟩
       refine⟨_,?_,fun _ _ h=>h⟩
       refine⟨Nat.zero_le _,fun p np=>?_⟩
       have up:=Same.upd (o:= .lst []) np
       have h6:=h5.same up
       have ep:=A6 (H:=H5) (a:=p) (o:= .lst [])
       generalize upd H5 p (.lst [])=H6 at*
       refine⟨_,rfl,m,_,rfl,DPut.k (k:= .inr "up") h6.em (C9 (show 2<1000 by decide)),?_⟩
       rw[U5n]
       have xm:Exc m H6 (upd H6 m (.dK (Z1 p tl))):=Exc.upd
       refine⟨a5,p,[],Nat.zero_le _,?_,rfl⟩
       rw[G0z]
       exact h6.dict xm A6 (xm _ _ ep (U6 ep h6.em (by intro z;cases z))) (xm _ _ h6.etl (U6 h6.etl h6.em (by intro z;cases z))) (TR.CtxAt.exc_d h6.ct xm h6.em)
     rintro σ' H5 ⟨a5,u5,us5,l5,h5,rfl⟩
     refine⟨_,?_,fun _ _ h=>h⟩
     refine⟨_,rfl,_,rfl,_,rfl,_,rfl,_,_,rfl,rfl,dv (n:=12) (by decide) (by decide+kernel),?_⟩
     intro _ H6 ho _ _
     obtain rfl:H6=H5:=funext fun b=>ho b (by simp)
     refine⟨sc,ns,c,t,m,b,u5,tl,a5,ce/12,v,us5,ys,rfl,h5,ok,sy,by omega,fun us' u' a' H7 l' h7 _=>?_⟩
     have h8:H11 CC P0 K sc ns t c b m u' tl v (V9 us') us' ys (V0 [] H7) a':=by rw[U7k];exact h7
     exact⟨_,rfl,U1 ⟨a',b,u',tl,us',ys,_,_,_,by omega,h8,sy,rfl⟩⟩
   rintro σ' H2 ⟨a,b,u,tl,us,ys,z4,z5,z6,h2,sy,rfl⟩
   obtain⟨dc,ec⟩:=h2.ct.ins
   refine⟨_,rfl,c,dc,_,rfl,ec,D1b _ _ _ _ _ _,c,v.r,v.y,v.l,v.m,a,b,_,_,rfl,h2.ct,fun l1 n1=>?_⟩
   have u1:=Same.upd (o:= .lst (ys.map V.str)) n1
   have h3:=h2.same u1
   refine⟨_,rfl,m,.ref tl,rfl,(by have:=DGet.k (k:= .inr "traps") h3.em;rw[D0z] at this;exact this),rdS ys,rdS ys,B5m A6,B5m h3.etl,shS sy.ok,shS sy.ok,?_⟩
   rw[if_neg Bool.false_ne_true,Y8s]
   exact kk _
end
end TR
namespace TR
open PySem L2 PySem.W PyProof.Rows
theorem all_mk{cc P0:Addr}{l:OpenLaw}{w:World}{K:Frag}{h:Heap}{mg:Str ->Option Value}{fa CW W0 A4s W1 A4m W2 A4n W3 A4j W4 A4r W5 A4k W6 A4p W7 A4q CN D0a A0k A1n A0g A1r A0f A1p A0h A1j A0j A1h A0m A1q A0e A1s A0d A1k CC C9y V4s A3c A1t A9d A1m A3d CQ C9u V0k A0y B1s CE C1 C2 C3 CR fX aS A3f A4t B1c D8b C4f D3s V2s J4w J2d D8n V9g B7r B6u C4h B8g A9h C3b C4t D2z D9s B8f B6t D4u B7w D2t D8k J1p D9k C4g J3d D6t C2z J4e C2s J4m D2f B3s C5a J3b C2g V5v J3c V0z:Addr}(X:K.In h)(G:h.Ns mainGlobals mg)(hfa:mg "law"=some (.ref fa))
   {D8e D6j:Option Addr} {D2m:Array (Option Value)} {D3q D8t D7u D5y B4z D4z:Value}
   (A8x:nsIn K mainGlobals "product_of"=some (some (.ref B1c))) (A9z:K.lookup B1c=some ⟨D3q,D8e,.func (fnOf "product_of" "product_of" (B9 Z8) (B8 Z8) (A1 Z8) .none D8t D7u D5y D6j B4z D4z),D2m⟩) (A8p:codeIn K B4z "product_of"=true) (B1g:keepIn K (.ref B1c)=true)
   {V6t V8n:Option Addr} {V3k:Array (Option Value)} {V5f V6x V7a V8a G2r V4b:Value}
   (D5c:nsIn K mainGlobals "ten_to"=some (some (.ref D8b))) (D6y:K.lookup D8b=some ⟨V5f,V6t,.func (fnOf "ten_to" "ten_to" (B9 A2x) (B8 A2x) (A1 A2x) .none V6x V7a V8a V8n G2r V4b),V3k⟩) (D8q:codeIn K G2r "ten_to"=true) (D6x:keepIn K (.ref D8b)=true)
   {U1j U2r:Option Addr} {U4c:Array (Option Value)} {U0y U2q U0j U0s D0k U3f:Value}
   (C3n:nsIn K mainGlobals "part_of"=some (some (.ref C4f))) (C2m:K.lookup C4f=some ⟨U0y,U1j,.func (fnOf "part_of" "part_of" (B9 A4v) (B8 A4v) (A1 A4v) .none U2q U0j U0s U2r D0k U3f),U4c⟩) (C4q:codeIn K D0k "part_of"=true) (C2w:keepIn K (.ref C4f)=true)
   {V4c V7b:Option Addr} {V3t:Array (Option Value)} {V1z V5p V3b V4q G2a U9r:Value}
   (D4g:nsIn K mainGlobals "whole_lead"=some (some (.ref D3s))) (D7h:K.lookup D3s=some ⟨V1z,V4c,.func (fnOf "whole_lead" "whole_lead" (B9 A8h) (B8 A8h) (A1 A8h) .none V5p V3b V4q V7b G2a U9r),V3t⟩) (D3g:codeIn K G2a "whole_lead"=true) (D9a:keepIn K (.ref D3s)=true)
   {Z2d Z2p:Option Addr} {Z1z:Array (Option Value)} {Z1x Z1v Z0n Z0g V7w Z0z:Value}
   (U9e:nsIn K mainGlobals "end"=some (some (.ref V2s))) (V9a:K.lookup V2s=some ⟨Z1x,Z2d,.func (fnOf "end" "end" (B9 G5u) (B8 G5u) (A1 G5u) .none Z1v Z0n Z0g Z2p V7w Z0z),Z1z⟩) (V5c:codeIn K V7w "end"=true) (U8v:keepIn K (.ref V2s)=true)
   {Y4f Y4x:Option Addr} {Y5j:Array (Option Value)} {Y3v Y5e Y6c Y6g J7q Y6f:Value}
   (J3s:nsIn K mainGlobals "told"=some (some (.ref J4w))) (J0d:K.lookup J4w=some ⟨Y3v,Y4f,.func (fnOf "told" "told" (B9 C1p) (B8 C1p) (A1 C1p) .none Y5e Y6c Y6g Y4x J7q Y6f),Y5j⟩) (G9e:codeIn K J7q "told"=true) (J4n:keepIn K (.ref J4w)=true)
   {Y5f Y5r:Option Addr} {Y5b:Array (Option Value)} {Y5g Y4z Y5m Y5z J7n Y5t:Value}
   (J1y:nsIn K mainGlobals "lead_of"=some (some (.ref J2d))) (G7y:K.lookup J2d=some ⟨Y5g,Y5f,.func (fnOf "lead_of" "lead_of" (B9 C0r) (B8 C0r) (A1 C0r) .none Y4z Y5m Y5z Y5r J7n Y5t),Y5b⟩) (G9w:codeIn K J7n "lead_of"=true) (G8a:keepIn K (.ref J2d)=true)
   {V6m V3y:Option Addr} {V7g:Array (Option Value)} {V8g V0x V5t V4e G5e V0h:Value}
   (D2w:nsIn K mainGlobals "need_number"=some (some (.ref D8n))) (D2u:K.lookup D8n=some ⟨V8g,V6m,.func (fnOf "need_number" "need_number" (B9 B2t) (B8 B2t) (A1 B2t) .none V0x V5t V4e V3y G5e V0h),V7g⟩) (D7g:codeIn K G5e "need_number"=true) (D2g:keepIn K (.ref D8n)=true)
   {Z0x Z2a:Option Addr} {Z0s:Array (Option Value)} {Z0q Z2s Z2e Z2r V8f Z2b:Value}
   (V3x:nsIn K mainGlobals "is_between"=some (some (.ref V9g))) (V1p:K.lookup V9g=some ⟨Z0q,Z0x,.func (fnOf "is_between" "is_between" (B9 D1j) (B8 D1j) (A1 D1j) .none Z2s Z2e Z2r Z2a V8f Z2b),Z0s⟩) (U8n:codeIn K V8f "is_between"=true) (V4f:keepIn K (.ref V9g)=true)
   {G8b G9f:Option Addr} {J2j:Array (Option Value)} {J1x J0e J1n J0c C2v G7s:Value}
   (B6k:nsIn K mainGlobals "need_between"=some (some (.ref B7r))) (B6r:K.lookup B7r=some ⟨J1x,G8b,.func (fnOf "need_between" "need_between" (B9 A2z) (B8 A2z) (A1 A2z) .none J0e J1n J0c G9f C2v G7s),J2j⟩) (B8w:codeIn K C2v "need_between"=true) (B8c:keepIn K (.ref B7r)=true)
   {J1u J1j:Option Addr} {J4t:Array (Option Value)} {J3r G8d J0n J3n C3x J3t:Value}
   (B7g:nsIn K mainGlobals "settled"=some (some (.ref B6u))) (B6x:K.lookup B6u=some ⟨J3r,J1u,.func (fnOf "settled" "settled" (B9 A2u) (B8 A2u) (A1 A2u) .none G8d J0n J3n J1j C3x J3t),J4t⟩) (B6f:codeIn K C3x "settled"=true) (B6c:keepIn K (.ref B6u)=true)
   {U2m U0e:Option Addr} {U2g:Array (Option Value)} {U3d U1y U1b U1w D0h U3m:Value}
   (C4n:nsIn K mainGlobals "finest_power"=some (some (.ref C4h))) (C3c:K.lookup C4h=some ⟨U3d,U2m,.func (fnOf "finest_power" "finest_power" (B9 A3j) (B8 A3j) (A1 A3j) .none U1y U1b U1w U0e D0h U3m),U2g⟩) (C2d:codeIn K D0h "finest_power"=true) (C4m:keepIn K (.ref C4h)=true)
   {J3a J1a:Option Addr} {J3v:Array (Option Value)} {J4v G9g G7z J0k C4j J0x:Value}
   (B6p:nsIn K mainGlobals "nearest_to"=some (some (.ref B8g))) (B7q:K.lookup B8g=some ⟨J4v,J3a,.func (fnOf "nearest_to" "nearest_to" (B9 A1f) (B8 A1f) (A1 A1f) .none G9g G7z J0k J1a C4j J0x),J3v⟩) (B8a:codeIn K C4j "nearest_to"=true) (B7m:keepIn K (.ref B8g)=true)
   {D3b D8d:Option Addr} {D3d:Array (Option Value)} {D7j D7z D5a D9p B5c D6h:Value}
   (A8r:nsIn K mainGlobals "neighbour"=some (some (.ref A9h))) (B0q:K.lookup A9h=some ⟨D7j,D3b,.func (fnOf "neighbour" "neighbour" (B9 Z0) (B8 Z0) (A1 Z0) .none D7z D5a D9p D8d B5c D6h),D3d⟩) (A9s:codeIn K B5c "neighbour"=true) (B0s:keepIn K (.ref A9h)=true)
   {U2n U0n:Option Addr} {U2s:Array (Option Value)} {U3c U1p U3z U3t D0b U0h:Value}
   (C4v:nsIn K mainGlobals "within_room"=some (some (.ref C3b))) (C2k:K.lookup C3b=some ⟨U3c,U2n,.func (fnOf "within_room" "within_room" (B9 A3g) (B8 A3g) (A1 A3g) .none U1p U3z U3t U0n D0b U0h),U2s⟩) (C3e:codeIn K D0b "within_room"=true) (C3d:keepIn K (.ref C3b)=true)
   {U3p U1x:Option Addr} {U2k:Array (Option Value)} {U0f U3y U1f U2y D0e U1a:Value}
   (C4b:nsIn K mainGlobals "is_beyond"=some (some (.ref C4t))) (C3u:K.lookup C4t=some ⟨U0f,U3p,.func (fnOf "is_beyond" "is_beyond" (B9 A3m) (B8 A3m) (A1 A3m) .none U3y U1f U2y U1x D0e U1a),U2k⟩) (C4k:codeIn K D0e "is_beyond"=true) (C4p:keepIn K (.ref C4t)=true)
   {V8t V9p:Option Addr} {U8y:Array (Option Value)} {V6e V6h V7d V3j G4e V2w:Value}
   (D5g:nsIn K mainGlobals "burst"=some (some (.ref D2z))) (D3u:K.lookup D2z=some ⟨V6e,V8t,.func (fnOf "burst" "burst" (B9 A7w) (B8 A7w) (A1 A7w) .none V6h V7d V3j V9p G4e V2w),U8y⟩) (D4f:codeIn K G4e "burst"=true) (D6a:keepIn K (.ref D2z)=true)
   {V8c U8w:Option Addr} {V1s:Array (Option Value)} {V3n V7m V7j V2q G5d V6j:Value}
   (D2r:nsIn K mainGlobals "nines"=some (some (.ref D9s))) (D3m:K.lookup D9s=some ⟨V3n,V8c,.func (fnOf "nines" "nines" (B9 A8c) (B8 A8c) (A1 A8c) .none V7m V7j V2q U8w G5d V6j),V1s⟩) (D7b:codeIn K G5d "nines"=true) (D5r:keepIn K (.ref D9s)=true)
   {G9x G8r:Option Addr} {J3x:Array (Option Value)} {J1d J4r J0u J4z C2x J2h:Value}
   (B7f:nsIn K mainGlobals "signals_of_rest"=some (some (.ref B8f))) (B8u:K.lookup B8f=some ⟨J1d,G9x,.func (fnOf "signals_of_rest" "signals_of_rest" (B9 A2w) (B8 A2w) (A1 A2w) .none J4r J0u J4z G8r C2x J2h),J3x⟩) (B7b:codeIn K C2x "signals_of_rest"=true) (B6m:keepIn K (.ref B8f)=true)
   {G8f J0b:Option Addr} {J5e:Array (Option Value)} {J1s J0f G9j G7w C4z J3h:Value}
   (B6z:nsIn K mainGlobals "signals_of_lead"=some (some (.ref B6t))) (B6d:K.lookup B6t=some ⟨J1s,G8f,.func (fnOf "signals_of_lead" "signals_of_lead" (B9 A2v) (B8 A2v) (A1 A2v) .none J0f G9j G7w J0b C4z J3h),J5e⟩) (B6w:codeIn K C4z "signals_of_lead"=true) (B8x:keepIn K (.ref B6t)=true)
   {V8k U9x:Option Addr} {U9k:Array (Option Value)} {U8x V6w U8u V1w G2n V2v:Value}
   (D3w:nsIn K mainGlobals "way_of"=some (some (.ref D4u))) (D6k:K.lookup D4u=some ⟨U8x,V8k,.func (fnOf "way_of" "way_of" (B9 A8k) (B8 A8k) (A1 A8k) .none V6w U8u V1w U9x G2n V2v),U9k⟩) (D2x:codeIn K G2n "way_of"=true) (D4j:keepIn K (.ref D4u)=true)
   {J1z J1g:Option Addr} {J1b:Array (Option Value)} {G9z J2f J2v J3q C3m J2r:Value}
   (B8q:nsIn K mainGlobals "bounded"=some (some (.ref B7w))) (B7z:K.lookup B7w=some ⟨G9z,J1z,.func (fnOf "bounded" "bounded" (B9 A2n) (B8 A2n) (A1 A2n) .none J2f J2v J3q J1g C3m J2r),J1b⟩) (B8m:codeIn K C3m "bounded"=true) (B6e:keepIn K (.ref B7w)=true)
   {V7r V5d:Option Addr} {V4a:Array (Option Value)} {V7z V3f V3d U8m G3p V3e:Value}
   (D3z:nsIn K mainGlobals "need_signals"=some (some (.ref D2t))) (D3r:K.lookup D2t=some ⟨V7z,V7r,.func (fnOf "need_signals" "need_signals" (B9 A8a) (B8 A8a) (A1 A8a) .none V3f V3d U8m V5d G3p V3e),V4a⟩) (D6b:codeIn K G3p "need_signals"=true) (D5e:keepIn K (.ref D2t)=true)
   {V2f V5e:Option Addr} {U8q:Array (Option Value)} {V0b V9s V5w V5g G4a V8s:Value}
   (D6r:nsIn K mainGlobals "in_order"=some (some (.ref D8k))) (D6z:K.lookup D8k=some ⟨V0b,V2f,.func (fnOf "in_order" "in_order" (B9 A7x) (B8 A7x) (A1 A7x) .none V9s V5w V5g V5e G4a V8s),U8q⟩) (D8p:codeIn K G4a "in_order"=true) (D6s:keepIn K (.ref D8k)=true)
   {Y3z Y4w:Option Addr} {Y5d:Array (Option Value)} {Y3u Y5s Y5w Y5n J7p Y4y:Value}
   (J0v:nsIn K mainGlobals "_law_cell_at"=some (some (.ref J1p))) (J5f:K.lookup J1p=some ⟨Y3u,Y3z,.func (fnOf "_law_cell_at" "_law_cell_at" (B9 C0d) (B8 C0d) (A1 C0d) .none Y5s Y5w Y5n Y4w J7p Y4y),Y5d⟩) (J3e:codeIn K J7p "_law_cell_at"=true) (J2k:keepIn K (.ref J1p)=true)
   {V1j V4t:Option Addr} {U9u:Array (Option Value)} {V4h V4y V3q V7y G3a U9w:Value}
   (D7r:nsIn K mainGlobals "_law_mixed"=some (some (.ref D9k))) (D4e:K.lookup D9k=some ⟨V4h,V1j,.func (fnOf "_law_mixed" "_law_mixed" (B9 A4u) (B8 A4u) (A1 A4u) .none V4y V3q V7y V4t G3a U9w),U9u⟩) (D9n:codeIn K G3a "_law_mixed"=true) (D8z:keepIn K (.ref D9k)=true)
   {U3x U2u:Option Addr} {U1c:Array (Option Value)} {U1m U2a U2b U1u D0j U1g:Value}
   (C2p:nsIn K mainGlobals "_law_names"=some (some (.ref C4g))) (C2f:K.lookup C4g=some ⟨U1m,U3x,.func (fnOf "_law_names" "_law_names" (B9 B2y) (B8 B2y) (A1 B2y) .none U2a U2b U1u U2u D0j U1g),U1c⟩) (C4y:codeIn K D0j "_law_names"=true) (C2c:keepIn K (.ref C4g)=true)
   {Y6e Y6a:Option Addr} {Y5a:Array (Option Value)} {Y5p Y6h Y4d Y4c J7s Y6m:Value}
   (G9r:nsIn K mainGlobals "_law_signals"=some (some (.ref J3d))) (J4h:K.lookup J3d=some ⟨Y5p,Y6e,.func (fnOf "_law_signals" "_law_signals" (B9 B4r) (B8 B4r) (A1 B4r) .none Y6h Y4d Y4c Y6a J7s Y6m),Y5a⟩) (J3y:codeIn K J7s "_law_signals"=true) (J2c:keepIn K (.ref J3d)=true)
   {V5y V9h:Option Addr} {U8p:Array (Option Value)} {V6q V9q V4j V0a G3y U9g:Value}
   (D5j:nsIn K mainGlobals "_law_goes_up"=some (some (.ref D6t))) (D6c:K.lookup D6t=some ⟨V6q,V5y,.func (fnOf "_law_goes_up" "_law_goes_up" (B9 B2v) (B8 B2v) (A1 B2v) .none V9q V4j V0a V9h G3y U9g),U8p⟩) (D9q:codeIn K G3y "_law_goes_up"=true) (D4s:keepIn K (.ref D6t)=true)
   {U3b U2e:Option Addr} {U3v:Array (Option Value)} {U2j U3q U0r U2z C9w U0q:Value}
   (C2r:nsIn K mainGlobals "_law_to_end"=some (some (.ref C2z))) (C4w:K.lookup C2z=some ⟨U2j,U3b,.func (fnOf "_law_to_end" "_law_to_end" (B9 A5e) (B8 A5e) (A1 A5e) .none U3q U0r U2z U2e C9w U0q),U3v⟩) (C3t:codeIn K C9w "_law_to_end"=true) (C4e:keepIn K (.ref C2z)=true)
   {Y4a Y5k:Option Addr} {Y3x:Array (Option Value)} {Y5v Y4m Y4n Y6b J7w Y4b:Value}
   (G9b:nsIn K mainGlobals "_law_ten"=some (some (.ref J4e))) (J3m:K.lookup J4e=some ⟨Y5v,Y4a,.func (fnOf "_law_ten" "_law_ten" (B9 B9f) (B8 B9f) (A1 B9f) .none Y4m Y4n Y6b Y5k J7w Y4b),Y3x⟩) (G8p:codeIn K J7w "_law_ten"=true) (J5m:keepIn K (.ref J4e)=true)
   {U0m U1e:Option Addr} {U1z:Array (Option Value)} {U4b U1s U0w U3h C9z U1q:Value}
   (C4r:nsIn K mainGlobals "_law_drawn_context"=some (some (.ref C2s))) (C2q:K.lookup C2s=some ⟨U4b,U0m,.func (fnOf "_law_drawn_context" "_law_drawn_context" (B9 B2z) (B8 B2z) (A1 B2z) .none U1s U0w U3h U1e C9z U1q),U1z⟩) (C3p:codeIn K C9z "_law_drawn_context"=true) (C3s:keepIn K (.ref C2s)=true)
   {Y5h Y3r:Option Addr} {Y4h:Array (Option Value)} {Y4s Y3s Y4j Y4g J7x Y4r:Value}
   (J5a:nsIn K mainGlobals "_law_top"=some (some (.ref J4m))) (G9y:K.lookup J4m=some ⟨Y4s,Y5h,.func (fnOf "_law_top" "_law_top" (B9 C1n) (B8 C1n) (A1 C1n) .none Y3s Y4j Y4g Y3r J7x Y4r),Y4h⟩) (J4p:codeIn K J7x "_law_top"=true) (G9n:keepIn K (.ref J4m)=true)
   {V5m V4z:Option Addr} {V7v:Array (Option Value)} {V6f V5z V0c V2g G3u U9j:Value}
   (D7w:nsIn K mainGlobals "_law_lead"=some (some (.ref D2f))) (D4q:K.lookup D2f=some ⟨V6f,V5m,.func (fnOf "_law_lead" "_law_lead" (B9 G6v) (B8 G6v) (A1 G6v) .none V5z V0c V2g V4z G3u U9j),V7v⟩) (D5d:codeIn K G3u "_law_lead"=true) (D8f:keepIn K (.ref D2f)=true)
   {G3z G2u:Option Addr} {G3w:Array (Option Value)} {G3c G2z G2m G2c B9k G3e:Value}
   (B3g:nsIn K mainGlobals "_law_settled"=some (some (.ref B3s))) (B3b:K.lookup B3s=some ⟨G3c,G3z,.func (fnOf "_law_settled" "_law_settled" (B9 A5h) (B8 A5h) (A1 A5h) .none G2z G2m G2c G2u B9k G3e),G3w⟩) (B4h:codeIn K B9k "_law_settled"=true) (B4c:keepIn K (.ref B3s)=true)
   {U2t U2c:Option Addr} {U0k:Array (Option Value)} {U2f U1n U0t U2v D0c U3e:Value}
   (C2t:nsIn K mainGlobals "_law_value"=some (some (.ref C5a))) (C4s:K.lookup C5a=some ⟨U2f,U2t,.func (fnOf "_law_value" "_law_value" (B9 A5c) (B8 A5c) (A1 A5c) .none U1n U0t U2v U2c D0c U3e),U0k⟩) (C4x:codeIn K D0c "_law_value"=true) (C4d:keepIn K (.ref C5a)=true)
   {Y4p Y5x:Option Addr} {Y6j:Array (Option Value)} {Y4u Y5u Y3y Y3t J7m Y5q:Value}
   (J2s:nsIn K mainGlobals "_law_answer"=some (some (.ref J3b))) (J5g:K.lookup J3b=some ⟨Y4u,Y4p,.func (fnOf "_law_answer" "_law_answer" (B9 C2a) (B8 C2a) (A1 C2a) .none Y5u Y3y Y3t Y5x J7m Y5q),Y6j⟩) (G8n:codeIn K J7m "_law_answer"=true) (J1r:keepIn K (.ref J3b)=true)
   {U1h U1t:Option Addr} {U3u:Array (Option Value)} {U3n U2d U2p U0g D0g U2h:Value}
   (C3q:nsIn K mainGlobals "_law_whole"=some (some (.ref C2g))) (C2u:K.lookup C2g=some ⟨U3n,U1h,.func (fnOf "_law_whole" "_law_whole" (B9 A0v) (B8 A0v) (A1 A0v) .none U2d U2p U0g U1t D0g U2h),U3u⟩) (C4a:codeIn K D0g "_law_whole"=true) (C4u:keepIn K (.ref C2g)=true)
   {Z2m Z0m:Option Addr} {Z1m:Array (Option Value)} {Z1t Z0v Z2h Z0r V5r Z0h:Value}
   (V9z:nsIn K mainGlobals "_law_due_answer"=some (some (.ref V5v))) (V2r:K.lookup V5v=some ⟨Z1t,Z2m,.func (fnOf "_law_due_answer" "_law_due_answer" (B9 G6s) (B8 G6s) (A1 G6s) .none Z0v Z2h Z0r Z0m V5r Z0h),Z1m⟩) (V5u:codeIn K V5r "_law_due_answer"=true) (V5k:keepIn K (.ref V5v)=true)
   {Y5y Y4q:Option Addr} {Y3w:Array (Option Value)} {Y5c Y6d Y4k Y4v D3x Y4t:Value}
   (G9h:nsIn K mainGlobals "_law_one"=some (some (.ref J3c))) (J1c:K.lookup J3c=some ⟨Y5c,Y5y,.func (fnOf "_law_one" "_law_one" (B9 B9e) (B8 B9e) (A1 B9e) .none Y6d Y4k Y4v Y4q D3x Y4t),Y3w⟩) (G8c:codeIn K D3x "_law_one"=true) (G7v:keepIn K (.ref J3c)=true)
   {Z2v V9m:Option Addr} {Z2c:Array (Option Value)} {Z3a V1m U9y V3s G8x V1e:Value}
   (J7j:nsIn K mainGlobals "law"=some (some (.ref V0z))) (V9e:K.lookup V0z=some ⟨Z3a,Z2v,.func (fnOf "law" "law" (B9 D1y) (B8 D1y) (A1 D1y) .none V1m U9y V3s V9m G8x V1e),Z2c⟩) (V8h:codeIn K G8x "law"=true) (V4x:keepIn K (.ref V0z)=true)
   (A6h:nsIn K mainGlobals "isinstance"=some none)
   (V2y:nsIn K mainGlobals "int"=some none)
   (J2p:nsIn K mainGlobals "bool"=some none)
   (V1c:nsIn K mainGlobals "str"=some none)
   (J3j:nsIn K mainGlobals "list"=some none)
   (D9t:nsIn K mainGlobals "tuple"=some none)
   (G8s:nsIn K mainGlobals "dict"=some none)
   (U9q:nsIn K mainGlobals "len"=some none)
   (D7s:nsIn K mainGlobals "range"=some none)
   (V8r:nsIn K mainGlobals "min"=some none)
   (V2u:nsIn K mainGlobals "max"=some none)
   (V7e:nsIn K mainGlobals "abs"=some none)
   (V4d:nsIn K mainGlobals "any"=some none)
   (V2n:nsIn K mainGlobals "all"=some none)
   (V2j:nsIn K mainGlobals "sum"=some none)
   (J2g:nsIn K mainGlobals "repr"=some none)
   (B0x:nsIn K mainGlobals "enumerate"=some none)
   (B3t:nsIn K mainGlobals "reversed"=some none)
   (V8w:nsIn K mainGlobals "zip"=some none)
   (C3y:nsIn K mainGlobals "sorted"=some none)
   (C3v:nsIn K mainGlobals "divmod"=some none)
   (V5h:nsIn K mainGlobals "set"=some none)
   (A5n:nsIn K mainGlobals "ValueError"=some none)
   (B4e:kitOne K (.type "int") (.type "int")=some true)
   (A9u:kitOne K (.type "int") (.type "bool")=some false)
   (B4f:kitOne K (.type "int") (.type "str")=some false)
   (A8y:kitOne K (.type "int") (.type "list")=some false)
   (A6u:kitOne K (.type "int") (.type "tuple")=some false)
   (B0z:kitOne K (.type "int") (.type "dict")=some false)
   (A9t:kitOne K (.type "bool") (.type "int")=some true)
   (A7k:kitOne K (.type "bool") (.type "bool")=some true)
   (A8q:kitOne K (.type "bool") (.type "str")=some false)
   (A7g:kitOne K (.type "bool") (.type "list")=some false)
   (A4c:kitOne K (.type "bool") (.type "tuple")=some false)
   (A5s:kitOne K (.type "bool") (.type "dict")=some false)
   (B3q:kitOne K (.type "str") (.type "int")=some false)
   (A9w:kitOne K (.type "str") (.type "bool")=some false)
   (B3n:kitOne K (.type "str") (.type "str")=some true)
   (A9c:kitOne K (.type "str") (.type "list")=some false)
   (A7n:kitOne K (.type "str") (.type "tuple")=some false)
   (A8t:kitOne K (.type "str") (.type "dict")=some false)
   (B0v:kitOne K (.type "list") (.type "int")=some false)
   (A7s:kitOne K (.type "list") (.type "bool")=some false)
   (A9g:kitOne K (.type "list") (.type "str")=some false)
   (A6x:kitOne K (.type "list") (.type "list")=some true)
   (A4b:kitOne K (.type "list") (.type "tuple")=some false)
   (A7a:kitOne K (.type "list") (.type "dict")=some false)
   (A5w:kitOne K (.type "tuple") (.type "int")=some false)
   (A4a:kitOne K (.type "tuple") (.type "bool")=some false)
   (A5m:kitOne K (.type "tuple") (.type "str")=some false)
   (A4d:kitOne K (.type "tuple") (.type "list")=some false)
   (A3e:kitOne K (.type "tuple") (.type "tuple")=some true)
   (A4e:kitOne K (.type "tuple") (.type "dict")=some false)
   (B0f:kitOne K (.type "dict") (.type "int")=some false)
   (A7r:kitOne K (.type "dict") (.type "bool")=some false)
   (A9a:kitOne K (.type "dict") (.type "str")=some false)
   (A7m:kitOne K (.type "dict") (.type "list")=some false)
   (A3z:kitOne K (.type "dict") (.type "tuple")=some false)
   (A5y:kitOne K (.type "dict") (.type "dict")=some true)
   (A1v:kitOne K (.type "NoneType") (.type "int")=some false)
   (A0w:kitOne K (.type "NoneType") (.type "bool")=some false)
   (A1u:kitOne K (.type "NoneType") (.type "str")=some false)
   (A0x:kitOne K (.type "NoneType") (.type "list")=some false)
   (A0n:kitOne K (.type "NoneType") (.type "tuple")=some false)
   (A0z:kitOne K (.type "NoneType") (.type "dict")=some false)
   (sn:specialIn K (.builtin "object.__class__") "__get__"=some (some (.builtin "getset_descriptor.__get__")))
   (tk:takesIn K (.builtin "object.__class__")=some true)
   (Z6v:nsIn K mainGlobals "Way"=some (some (.ref CW)))
   (Z2z:nsIn K mainGlobals "Down"=some (some (.ref W0)))
   (V4k:plainGet K W0 Str.empty=true)
   (V1k:hasDictIn K W0=true)
   (V2x:plainOver K W0=true)
   (V8v:findIn K (.ref W0) "__setattr__"=some (some (.builtin "object.__setattr__")))
   (V1v:makesIn K W0=true)
   (V3c:keepIn K (.ref W0)=true)
   (V8m:findIn K (.ref W0) "__class__"=some (some (.builtin "object.__class__")))
   (V1q:mroIn K W0 (.type "object")=some true)
   (V6y:findIn K (.ref W0) "__init__"=some (some (.builtin "object.__init__")))
   (V1a:kitOne K (.ref W0) (.ref CW)=some true)
   (B7t:findIn K (.ref W0) "name"=some (some (.ref A4s)))
   (B7h:isFn K (.ref A4s)=true)
   {J1e J4q:Option Addr} {G8j:Array (Option Value)} {J0p G8t J3f J2x C2j J0q:Value} (B6g:K.lookup A4s=some ⟨J0p,J1e,.func (fnOf "name" "Down.name" (B9 sN0) (B8 sN0) (A1 sN0) .none G8t J3f J2x J4q C2j J0q),G8j⟩)
   (B8e:codeIn K C2j "Down.name"=true)
   (B1w:keepIn K (.ref A4s)=true)
   (Z0u:nsIn K mainGlobals "Up"=some (some (.ref W1)))
   (U8t:plainGet K W1 Str.empty=true)
   (V8b:hasDictIn K W1=true)
   (V1y:plainOver K W1=true)
   (V5j:findIn K (.ref W1) "__setattr__"=some (some (.builtin "object.__setattr__")))
   (V0s:makesIn K W1=true)
   (V6s:keepIn K (.ref W1)=true)
   (V3a:findIn K (.ref W1) "__class__"=some (some (.builtin "object.__class__")))
   (V1b:mroIn K W1 (.type "object")=some true)
   (U9t:findIn K (.ref W1) "__init__"=some (some (.builtin "object.__init__")))
   (V8d:kitOne K (.ref W1) (.ref CW)=some true)
   (B7y:findIn K (.ref W1) "name"=some (some (.ref A4m)))
   (B6h:isFn K (.ref A4m)=true)
   {G7x J2t:Option Addr} {J0j:Array (Option Value)} {G8w G7t J3z J4a C2e J4d:Value} (B6a:K.lookup A4m=some ⟨G8w,G7x,.func (fnOf "name" "Up.name" (B9 sN1) (B8 sN1) (A1 sN1) .none G7t J3z J4a J2t C2e J4d),J0j⟩)
   (B8t:codeIn K C2e "Up.name"=true)
   (B1t:keepIn K (.ref A4m)=true)
   (Z2f:nsIn K mainGlobals "Floor"=some (some (.ref W2)))
   (V2z:plainGet K W2 Str.empty=true)
   (U8h:hasDictIn K W2=true)
   (V3z:plainOver K W2=true)
   (U9h:findIn K (.ref W2) "__setattr__"=some (some (.builtin "object.__setattr__")))
   (V7k:makesIn K W2=true)
   (V9t:keepIn K (.ref W2)=true)
   (V0e:findIn K (.ref W2) "__class__"=some (some (.builtin "object.__class__")))
   (V6d:mroIn K W2 (.type "object")=some true)
   (V9r:findIn K (.ref W2) "__init__"=some (some (.builtin "object.__init__")))
   (V9u:kitOne K (.ref W2) (.ref CW)=some true)
   (B8z:findIn K (.ref W2) "name"=some (some (.ref A4n)))
   (B6y:isFn K (.ref A4n)=true)
   {J1t G8u:Option Addr} {J1m:Array (Option Value)} {G8g G9k J5k J0s C3h J0r:Value} (B8v:K.lookup A4n=some ⟨G8g,J1t,.func (fnOf "name" "Floor.name" (B9 sN2) (B8 sN2) (A1 sN2) .none G9k J5k J0s G8u C3h J0r),J1m⟩)
   (B5y:codeIn K C3h "Floor.name"=true)
   (B1z:keepIn K (.ref A4n)=true)
   (Z0t:nsIn K mainGlobals "Ceiling"=some (some (.ref W3)))
   (U9b:plainGet K W3 Str.empty=true)
   (V3w:hasDictIn K W3=true)
   (V2k:plainOver K W3=true)
   (V2b:findIn K (.ref W3) "__setattr__"=some (some (.builtin "object.__setattr__")))
   (V4m:makesIn K W3=true)
   (V6r:keepIn K (.ref W3)=true)
   (V7u:findIn K (.ref W3) "__class__"=some (some (.builtin "object.__class__")))
   (Y0b:mroIn K W3 (.type "object")=some true)
   (V0j:findIn K (.ref W3) "__init__"=some (some (.builtin "object.__init__")))
   (V6u:kitOne K (.ref W3) (.ref CW)=some true)
   (B7j:findIn K (.ref W3) "name"=some (some (.ref A4j)))
   (B6j:isFn K (.ref A4j)=true)
   {J1w J4g:Option Addr} {G9d:Array (Option Value)} {J4y J4f J2y J4c C3j J5n:Value} (B8n:K.lookup A4j=some ⟨J4y,J1w,.func (fnOf "name" "Ceiling.name" (B9 sN3) (B8 sN3) (A1 sN3) .none J4f J2y J4c J4g C3j J5n),G9d⟩)
   (B7k:codeIn K C3j "Ceiling.name"=true)
   (B1u:keepIn K (.ref A4j)=true)
   (Z1w:nsIn K mainGlobals "HalfUp"=some (some (.ref W4)))
   (V1f:plainGet K W4 Str.empty=true)
   (V3u:hasDictIn K W4=true)
   (V7n:plainOver K W4=true)
   (V3r:findIn K (.ref W4) "__setattr__"=some (some (.builtin "object.__setattr__")))
   (V9v:makesIn K W4=true)
   (V3g:keepIn K (.ref W4)=true)
   (V1t:findIn K (.ref W4) "__class__"=some (some (.builtin "object.__class__")))
   (V6c:mroIn K W4 (.type "object")=some true)
   (V4r:findIn K (.ref W4) "__init__"=some (some (.builtin "object.__init__")))
   (V2c:kitOne K (.ref W4) (.ref CW)=some true)
   (B8y:findIn K (.ref W4) "name"=some (some (.ref A4r)))
   (B6s:isFn K (.ref A4r)=true)
   {J1f J1v:Option Addr} {G8h:Array (Option Value)} {J4x J3u J4s J5b C3g G8y:Value} (B8b:K.lookup A4r=some ⟨J4x,J1f,.func (fnOf "name" "HalfUp.name" (B9 sN4) (B8 sN4) (A1 sN4) .none J3u J4s J5b J1v C3g G8y),G8h⟩)
   (B6n:codeIn K C3g "HalfUp.name"=true)
   (B1v:keepIn K (.ref A4r)=true)
   (Z2q:nsIn K mainGlobals "HalfDown"=some (some (.ref W5)))
   (V1r:plainGet K W5 Str.empty=true)
   (V5q:hasDictIn K W5=true)
   (V0m:plainOver K W5=true)
   (V6z:findIn K (.ref W5) "__setattr__"=some (some (.builtin "object.__setattr__")))
   (U9m:makesIn K W5=true)
   (V1h:keepIn K (.ref W5)=true)
   (V0n:findIn K (.ref W5) "__class__"=some (some (.builtin "object.__class__")))
   (U9p:mroIn K W5 (.type "object")=some true)
   (V5s:findIn K (.ref W5) "__init__"=some (some (.builtin "object.__init__")))
   (Y0c:kitOne K (.ref W5) (.ref CW)=some true)
   (B7v:findIn K (.ref W5) "name"=some (some (.ref A4k)))
   (B7n:isFn K (.ref A4k)=true)
   {J2n J0a:Option Addr} {J2b:Array (Option Value)} {J1k G9m J0g G9t C3k G9p:Value} (B8j:K.lookup A4k=some ⟨J1k,J2n,.func (fnOf "name" "HalfDown.name" (B9 sN5) (B8 sN5) (A1 sN5) .none G9m J0g G9t J0a C3k G9p),J2b⟩)
   (B8d:codeIn K C3k "HalfDown.name"=true)
   (B1q:keepIn K (.ref A4k)=true)
   (Z0k:nsIn K mainGlobals "HalfEven"=some (some (.ref W6)))
   (V8e:plainGet K W6 Str.empty=true)
   (V0u:hasDictIn K W6=true)
   (V3p:plainOver K W6=true)
   (V8q:findIn K (.ref W6) "__setattr__"=some (some (.builtin "object.__setattr__")))
   (Y0a:makesIn K W6=true)
   (V0w:keepIn K (.ref W6)=true)
   (U9z:findIn K (.ref W6) "__class__"=some (some (.builtin "object.__class__")))
   (V2a:mroIn K W6 (.type "object")=some true)
   (U9c:findIn K (.ref W6) "__init__"=some (some (.builtin "object.__init__")))
   (U9d:kitOne K (.ref W6) (.ref CW)=some true)
   (B8h:findIn K (.ref W6) "name"=some (some (.ref A4p)))
   (B6b:isFn K (.ref A4p)=true)
   {J2a J2m:Option Addr} {G9c:Array (Option Value)} {G8q J1q J5d G8k C2y J3k:Value} (B7u:K.lookup A4p=some ⟨G8q,J2a,.func (fnOf "name" "HalfEven.name" (B9 sN6) (B8 sN6) (A1 sN6) .none J1q J5d G8k J2m C2y J3k),G9c⟩)
   (B7p:codeIn K C2y "HalfEven.name"=true)
   (B1y:keepIn K (.ref A4p)=true)
   (Z1s:nsIn K mainGlobals "FiveUp"=some (some (.ref W7)))
   (V8y:plainGet K W7 Str.empty=true)
   (V0y:hasDictIn K W7=true)
   (V2p:plainOver K W7=true)
   (V5x:findIn K (.ref W7) "__setattr__"=some (some (.builtin "object.__setattr__")))
   (V6n:makesIn K W7=true)
   (V9y:keepIn K (.ref W7)=true)
   (U9a:findIn K (.ref W7) "__class__"=some (some (.builtin "object.__class__")))
   (U8k:mroIn K W7 (.type "object")=some true)
   (V1x:findIn K (.ref W7) "__init__"=some (some (.builtin "object.__init__")))
   (V8j:kitOne K (.ref W7) (.ref CW)=some true)
   (B7x:findIn K (.ref W7) "name"=some (some (.ref A4q)))
   (B6q:isFn K (.ref A4q)=true)
   {G8v J4j:Option Addr} {J2w:Array (Option Value)} {J2u J0z J4k G8m C3w J5c:Value} (B7c:K.lookup A4q=some ⟨J2u,G8v,.func (fnOf "name" "FiveUp.name" (B9 sN7) (B8 sN7) (A1 sN7) .none J0z J4k G8m J4j C3w J5c),J2w⟩)
   (B7s:codeIn K C3w "FiveUp.name"=true)
   (B1x:keepIn K (.ref A4q)=true)
   (Z0p:nsIn K mainGlobals "Number"=some (some (.ref CN)))
   (U8j:plainGet K CN Str.empty=true)
   (V0f:hasDictIn K CN=true)
   (U8s:plainOver K CN=true)
   (V9c:findIn K (.ref CN) "__setattr__"=some (some (.builtin "object.__setattr__")))
   (V4p:makesIn K CN=true)
   (V5n:keepIn K (.ref CN)=true)
   (U9n:findIn K (.ref CN) "__class__"=some (some (.builtin "object.__class__")))
   (V6k:mroIn K CN (.type "object")=some true)
   (B8k:findIn K (.ref CN) "kind"=some none)
   (B7d:findIn K (.ref CN) "sign"=some none)
   (A5u:findIn K (.ref CN) "figures"=some none)
   (B4a:findIn K (.ref CN) "power"=some none)
   (V9k:findIn K (.ref CN) "__init__"=some (some (.ref D0a)))
   (V1g:isFn K (.ref D0a)=true)
   {Z2k Z1q:Option Addr} {Z1d:Array (Option Value)} {Z1u Z2n Z1y Z1p V0t Z2t:Value} (V1u:K.lookup D0a=some ⟨Z1u,Z2k,.func (fnOf "__init__" "Number.__init__" (B9 C9a) (B8 C9a) (A1 C9a) .none Z2n Z1y Z1p Z1q V0t Z2t),Z1d⟩)
   (V8x:codeIn K V0t "Number.__init__"=true)
   (V6a:keepIn K (.ref D0a)=true)
   (D2c:kitOne K (.ref CN) (.ref CN)=some true)
   (A6s:findIn K (.ref W0) "goes_up"=some (some (.ref A0k)))
   (A6z:isFn K (.ref A0k)=true)
   {C6z C5k:Option Addr} {C6w:Array (Option Value)} {C6b C8n C6d C7y B2h C7q:Value} (A7e:K.lookup A0k=some ⟨C6b,C6z,.func (fnOf "goes_up" "Down.goes_up" (B9 sU0) (B8 sU0) (A1 sU0) .none C8n C6d C7y C5k B2h C7q),C6w⟩)
   (A5v:codeIn K B2h "Down.goes_up"=true)
   (A1z:keepIn K (.ref A0k)=true)
   (B0k:findIn K (.ref W0) "to_end"=some (some (.ref A1n)))
   (B0r:isFn K (.ref A1n)=true)
   {D8v D9c:Option Addr} {D5q:Array (Option Value)} {D2k D3c D9f D2y B5j D7t:Value} (A8v:K.lookup A1n=some ⟨D2k,D8v,.func (fnOf "to_end" "Down.to_end" (B9 sT0) (B8 sT0) (A1 sT0) .none D3c D9f D2y D9c B5j D7t),D5q⟩)
   (A9r:codeIn K B5j "Down.to_end"=true)
   (A3t:keepIn K (.ref A1n)=true)
   (A6b:findIn K (.ref W1) "goes_up"=some (some (.ref A0g)))
   (A7f:isFn K (.ref A0g)=true)
   {C7v C7r:Option Addr} {C8h:Array (Option Value)} {C7s C5s C8e C5n B2j C6g:Value} (A6p:K.lookup A0g=some ⟨C7s,C7v,.func (fnOf "goes_up" "Up.goes_up" (B9 sU1) (B8 sU1) (A1 sU1) .none C5s C8e C5n C7r B2j C6g),C8h⟩)
   (A5q:codeIn K B2j "Up.goes_up"=true)
   (A2d:keepIn K (.ref A0g)=true)
   (A9p:findIn K (.ref W1) "to_end"=some (some (.ref A1r)))
   (A9v:isFn K (.ref A1r)=true)
   {D8u D6n:Option Addr} {D6q:Array (Option Value)} {D2p D7c D4v D3v B5h D4a:Value} (A9k:K.lookup A1r=some ⟨D2p,D8u,.func (fnOf "to_end" "Up.to_end" (B9 sT1) (B8 sT1) (A1 sT1) .none D7c D4v D3v D6n B5h D4a),D6q⟩)
   (A8s:codeIn K B5h "Up.to_end"=true)
   (A3v:keepIn K (.ref A1r)=true)
   (A6c:findIn K (.ref W2) "goes_up"=some (some (.ref A0f)))
   (A6r:isFn K (.ref A0f)=true)
   {C7j C7w:Option Addr} {C5q:Array (Option Value)} {C7m C6c C8k C6n B2k C6j:Value} (A5k:K.lookup A0f=some ⟨C7m,C7j,.func (fnOf "goes_up" "Floor.goes_up" (B9 sU2) (B8 sU2) (A1 sU2) .none C6c C8k C6n C7w B2k C6j),C5q⟩)
   (A7b:codeIn K B2k "Floor.goes_up"=true)
   (A2f:keepIn K (.ref A0f)=true)
   (B1d:findIn K (.ref W2) "to_end"=some (some (.ref A1p)))
   (B0u:isFn K (.ref A1p)=true)
   {D2d D7d:Option Addr} {D4m:Array (Option Value)} {D3t D2n D7f D9e B5a D3e:Value} (B0h:K.lookup A1p=some ⟨D3t,D2d,.func (fnOf "to_end" "Floor.to_end" (B9 sT2) (B8 sT2) (A1 sT2) .none D2n D7f D9e D7d B5a D3e),D4m⟩)
   (A8w:codeIn K B5a "Floor.to_end"=true)
   (A3w:keepIn K (.ref A1p)=true)
   (A6m:findIn K (.ref W3) "goes_up"=some (some (.ref A0h)))
   (A7h:isFn K (.ref A0h)=true)
   {C7u C6a:Option Addr} {C8d:Array (Option Value)} {C5z C6e C5y C7g B2n C7z:Value} (A7j:K.lookup A0h=some ⟨C5z,C7u,.func (fnOf "goes_up" "Ceiling.goes_up" (B9 sU3) (B8 sU3) (A1 sU3) .none C6e C5y C7g C6a B2n C7z),C8d⟩)
   (A6t:codeIn K B2n "Ceiling.goes_up"=true)
   (A2b:keepIn K (.ref A0h)=true)
   (B0e:findIn K (.ref W3) "to_end"=some (some (.ref A1j)))
   (A9e:isFn K (.ref A1j)=true)
   {D2s D2j:Option Addr} {D7a:Array (Option Value)} {D5b D5w D7v D3y B5e D8x:Value} (B0c:K.lookup A1j=some ⟨D5b,D2s,.func (fnOf "to_end" "Ceiling.to_end" (B9 sT3) (B8 sT3) (A1 sT3) .none D5w D7v D3y D2j B5e D8x),D7a⟩)
   (A8u:codeIn K B5e "Ceiling.to_end"=true)
   (A3p:keepIn K (.ref A1j)=true)
   (A5t:findIn K (.ref W4) "goes_up"=some (some (.ref A0j)))
   (A7d:isFn K (.ref A0j)=true)
   {C6v C8c:Option Addr} {C5t:Array (Option Value)} {C7t C7c C6s C6t B2m C7f:Value} (A6a:K.lookup A0j=some ⟨C7t,C6v,.func (fnOf "goes_up" "HalfUp.goes_up" (B9 sU4) (B8 sU4) (A1 sU4) .none C7c C6s C6t C8c B2m C7f),C5t⟩)
   (A7p:codeIn K B2m "HalfUp.goes_up"=true)
   (A2e:keepIn K (.ref A0j)=true)
   (B1a:findIn K (.ref W4) "to_end"=some (some (.ref A1h)))
   (A9j:isFn K (.ref A1h)=true)
   {D4h D6m:Option Addr} {D9j:Array (Option Value)} {D7k D8a D3f D5h B4x D3j:Value} (A9q:K.lookup A1h=some ⟨D7k,D4h,.func (fnOf "to_end" "HalfUp.to_end" (B9 sT4) (B8 sT4) (A1 sT4) .none D8a D3f D5h D6m B4x D3j),D9j⟩)
   (B1b:codeIn K B4x "HalfUp.to_end"=true)
   (A3u:keepIn K (.ref A1h)=true)
   (A7c:findIn K (.ref W5) "goes_up"=some (some (.ref A0m)))
   (A6g:isFn K (.ref A0m)=true)
   {C8m C7d:Option Addr} {C7h:Array (Option Value)} {C8j C6r C5u C5m B2e C7a:Value} (A7q:K.lookup A0m=some ⟨C8j,C8m,.func (fnOf "goes_up" "HalfDown.goes_up" (B9 sU5) (B8 sU5) (A1 sU5) .none C6r C5u C5m C7d B2e C7a),C7h⟩)
   (A6v:codeIn K B2e "HalfDown.goes_up"=true)
   (A2a:keepIn K (.ref A0m)=true)
   (B0m:findIn K (.ref W5) "to_end"=some (some (.ref A1q)))
   (A9b:isFn K (.ref A1q)=true)
   {D1z D4n:Option Addr} {D2h:Array (Option Value)} {D4p D2a D3a D9g B5d D6f:Value} (A9m:K.lookup A1q=some ⟨D4p,D1z,.func (fnOf "to_end" "HalfDown.to_end" (B9 sT5) (B8 sT5) (A1 sT5) .none D2a D3a D9g D4n B5d D6f),D2h⟩)
   (B0g:codeIn K B5d "HalfDown.to_end"=true)
   (A3r:keepIn K (.ref A1q)=true)
   (A5p:findIn K (.ref W6) "goes_up"=some (some (.ref A0e)))
   (A6f:isFn K (.ref A0e)=true)
   {C6y C8g:Option Addr} {C5v:Array (Option Value)} {C6x C6u C7k C6m B2f C6p:Value} (A6n:K.lookup A0e=some ⟨C6x,C6y,.func (fnOf "goes_up" "HalfEven.goes_up" (B9 sU6) (B8 sU6) (A1 sU6) .none C6u C7k C6m C8g B2f C6p),C5v⟩)
   (A6j:codeIn K B2f "HalfEven.goes_up"=true)
   (A2g:keepIn K (.ref A0e)=true)
   (A9y:findIn K (.ref W6) "to_end"=some (some (.ref A1s)))
   (A9f:isFn K (.ref A1s)=true)
   {D8j D5p:Option Addr} {D3h:Array (Option Value)} {D7m D5u D9u D9m B5f D6g:Value} (B0j:K.lookup A1s=some ⟨D7m,D8j,.func (fnOf "to_end" "HalfEven.to_end" (B9 sT6) (B8 sT6) (A1 sT6) .none D5u D9u D9m D5p B5f D6g),D3h⟩)
   (B0w:codeIn K B5f "HalfEven.to_end"=true)
   (A3n:keepIn K (.ref A1s)=true)
   (A6w:findIn K (.ref W7) "goes_up"=some (some (.ref A0d)))
   (A6q:isFn K (.ref A0d)=true)
   {C8b C8f:Option Addr} {C8a:Array (Option Value)} {C7x C7e C7p C7n B2g C6h:Value} (A5z:K.lookup A0d=some ⟨C7x,C8b,.func (fnOf "goes_up" "FiveUp.goes_up" (B9 sU7) (B8 sU7) (A1 sU7) .none C7e C7p C7n C8f B2g C6h),C8a⟩)
   (A6e:codeIn K B2g "FiveUp.goes_up"=true)
   (A2c:keepIn K (.ref A0d)=true)
   (B0y:findIn K (.ref W7) "to_end"=some (some (.ref A1k)))
   (A9x:isFn K (.ref A1k)=true)
   {D5t D7p:Option Addr} {D4k:Array (Option Value)} {D8y D9d D8r D6u B4w D9v:Value} (A8n:K.lookup A1k=some ⟨D8y,D5t,.func (fnOf "to_end" "FiveUp.to_end" (B9 sT7) (B8 sT7) (A1 sT7) .none D9d D8r D6u D7p B4w D9v),D4k⟩)
   (B0d:codeIn K B4w "FiveUp.to_end"=true)
   (A3x:keepIn K (.ref A1k)=true)
   (Z1c:nsIn K mainGlobals "Context"=some (some (.ref CC)))
   (V3h:plainGet K CC Str.empty=true)
   (U9v:hasDictIn K CC=true)
   (V9j:plainOver K CC=true)
   (V9n:findIn K (.ref CC) "__setattr__"=some (some (.builtin "object.__setattr__")))
   (V4v:makesIn K CC=true)
   (V6g:keepIn K (.ref CC)=true)
   (B5z:findIn K (.ref CC) "room"=some none)
   (B7a:findIn K (.ref CC) "rule"=some none)
   (B3z:findIn K (.ref CC) "least"=some none)
   (B7e:findIn K (.ref CC) "most"=some none)
   (B3c:findIn K (.ref CC) "risen"=some none)
   (A6d:findIn K (.ref CC) "trapped"=some none)
   (U9f:findIn K (.ref CC) "__init__"=some (some (.ref C9y)))
   (V8z:isFn K (.ref C9y)=true)
   {Z2g V2d:Option Addr} {Z2x:Array (Option Value)} {Z1g U8z V5b V8p J5j V7x:Value} (V2m:K.lookup C9y=some ⟨Z1g,Z2g,.func (fnOf "__init__" "Context.__init__" (B9 A0c) (B8 A0c) (A1 A0c) (.ref V4s) U8z V5b V8p V2d J5j V7x),Z2x⟩)
   (V6v:codeIn K J5j "Context.__init__"=true)
   (V4g:keepIn K (.ref C9y)=true)
   {Z7t Z8a Z6k:Tok} {Z7g:Nat} {Z1n:Option Addr} {Z2w:Value} {Z1h:Array (Option Value)} (V0q:K.lookup V4s=some ⟨Z2w,Z1n,.seq #[.int 9 Z7t,.str "half even" Z8a,.none,.int 60 Z6k] Z7g,Z1h⟩)
   (B3u:findIn K (.ref CC) "flags"=some (some (.ref A3c)))
   (B3v:isFn K (.ref A3c)=true)
   {G2t G4n:Option Addr} {G4g:Array (Option Value)} {G4v G3h G4f G2w B9j G3v:Value} (B4b:K.lookup A3c=some ⟨G4v,G2t,.func (fnOf "flags" "Context.flags" (B9 A2k) (B8 A2k) (A1 A2k) .none G3h G4f G2w G4n B9j G3v),G4g⟩)
   (B3m:codeIn K B9j "Context.flags"=true)
   (A6y:keepIn K (.ref A3c)=true)
   (B1e:findIn K (.ref CC) "lowest"=some (some (.ref A1t)))
   (B0t:isFn K (.ref A1t)=true)
   {D8m D7q:Option Addr} {D3k:Array (Option Value)} {D4x D5m D8g D6e B4y D2q:Value} (B0n:K.lookup A1t=some ⟨D4x,D8m,.func (fnOf "lowest" "Context.lowest" (B9 B1j) (B8 B1j) (A1 B1j) .none D5m D8g D6e D7q B4y D2q),D3k⟩)
   (B0b:codeIn K B4y "Context.lowest"=true)
   (A3q:keepIn K (.ref A1t)=true)
   (C3f:findIn K (.ref CC) "way"=some (some (.ref A9d)))
   (C3r:isFn K (.ref A9d)=true)
   {U4a U0x:Option Addr} {U1v:Array (Option Value)} {U0v U2w U3s U3r C9v U0p:Value} (C4c:K.lookup A9d=some ⟨U0v,U4a,.func (fnOf "way" "Context.way" (B9 B1m) (B8 B1m) (A1 B1m) .none U2w U3s U3r U0x C9v U0p),U1v⟩)
   (C3a:codeIn K C9v "Context.way"=true)
   (B5k:keepIn K (.ref A9d)=true)
   (B0p:findIn K (.ref CC) "raised"=some (some (.ref A1m)))
   (A8z:isFn K (.ref A1m)=true)
   {D5n D5x:Option Addr} {D5z:Array (Option Value)} {D6v D8c D4w D6p B5g D8h:Value} (B1f:K.lookup A1m=some ⟨D6v,D5n,.func (fnOf "raised" "Context.raised" (B9 A0t) (B8 A0t) (A1 A0t) .none D8c D4w D6p D5x B5g D8h),D5z⟩)
   (A9n:codeIn K B5g "Context.raised"=true)
   (A3s:keepIn K (.ref A1m)=true)
   (B3h:findIn K (.ref CC) "clear"=some (some (.ref A3d)))
   (B3p:isFn K (.ref A3d)=true)
   {G3m G4s:Option Addr} {G4h:Array (Option Value)} {G2f G2b G5g G3q B9q G2j:Value} (B3r:K.lookup A3d=some ⟨G2f,G3m,.func (fnOf "clear" "Context.clear" (B9 A2h) (B8 A2h) (A1 A2h) .none G2b G5g G3q G4s B9q G2j),G4h⟩)
   (B3d:codeIn K B9q "Context.clear"=true)
   (A6k:keepIn K (.ref A3d)=true)
   (Z1b:nsIn K mainGlobals "Ratio"=some (some (.ref CQ)))
   (V9x:plainGet K CQ Str.empty=true)
   (V4w:hasDictIn K CQ=true)
   (V0v:plainOver K CQ=true)
   (V6p:findIn K (.ref CQ) "__setattr__"=some (some (.builtin "object.__setattr__")))
   (V4n:makesIn K CQ=true)
   (V7t:keepIn K (.ref CQ)=true)
   (V5a:findIn K (.ref CQ) "__class__"=some (some (.builtin "object.__class__")))
   (V7h:mroIn K CQ (.type "object")=some true)
   (C3z:findIn K (.ref CQ) "top"=some none)
   (B0a:findIn K (.ref CQ) "bottom"=some none)
   (B3w:findIn K (.ref CQ) "power"=some none)
   (V3m:findIn K (.ref CQ) "__init__"=some (some (.ref C9u)))
   (V9w:isFn K (.ref C9u)=true)
   {Z0w U8r:Option Addr} {Z1f:Array (Option Value)} {Z2j V2t V0p V1d J2z V7s:Value} (V9b:K.lookup C9u=some ⟨Z2j,Z0w,.func (fnOf "__init__" "Ratio.__init__" (B9 A5d) (B8 A5d) (A1 A5d) (.ref V0k) V2t V0p V1d U8r J2z V7s),Z1f⟩)
   (V0r:codeIn K J2z "Ratio.__init__"=true)
   (U9s:keepIn K (.ref C9u)=true)
   {Y7g:Tok} {Z6t:Nat} {Z2y:Option Addr} {Z1a:Value} {Z1e:Array (Option Value)} (G3j:K.lookup V0k=some ⟨Z1a,Z2y,.seq #[.int 0 Y7g] Z6t,Z1e⟩)
   (B4g:findIn K (.ref CQ) "first"=some (some (.ref A0y)))
   (B4d:isFn K (.ref A0y)=true)
   {G4u G4j:Option Addr} {G2e:Array (Option Value)} {G3f G3n G4t G3r B9m G2x:Value} (B3j:K.lookup A0y=some ⟨G3f,G4u,.func (fnOf "first" "Ratio.first" (B9 A3a) (B8 A3a) (A1 A3a) .none G3n G4t G3r G4j B9m G2x),G2e⟩)
   (B3e:codeIn K B9m "Ratio.first"=true)
   (A5r:keepIn K (.ref A0y)=true)
   (D4b:findIn K (.ref CQ) "at"=some (some (.ref B1s)))
   (D9h:isFn K (.ref B1s)=true)
   {V9f V2e:Option Addr} {V0g:Array (Option Value)} {V8u V7c V4u V7q G2h V6b:Value} (D5v:K.lookup B1s=some ⟨V8u,V9f,.func (fnOf "at" "Ratio.at" (B9 C0z) (B8 C0z) (A1 C0z) .none V7c V4u V7q V2e G2h V6b),V0g⟩)
   (D9b:codeIn K G2h "Ratio.at"=true)
   (B9z:keepIn K (.ref B1s)=true)
   (Z1k:nsIn K mainGlobals "Exact"=some (some (.ref CE)))
   (V2h:kitOne K (.ref CQ) (.ref CE)=some true)
   (Z3b:nsIn K mainGlobals "BadContext"=some (some (.ref C1)))
   (Z0y:nsIn K mainGlobals "BadNumber"=some (some (.ref C2)))
   (Y4e:nsIn K mainGlobals "Trapped"=some (some (.ref C3)))
   (Z1j:nsIn K mainGlobals "ReckonError"=some (some (.ref CR)))
   (cty:typeIn K (.ref CR)=some (.type "type"))
   {dR:ClassData} (ccl:clsIn K CR=some dR)
   (cex:subIn K (.ref CR) (.type "BaseException")=some true)
   (sub3:subIn K (.ref C3) (.ref CR)=some true)
   (xga3:findIn K (.ref C3) "__getattribute__"=some (some (.builtin "BaseException.__getattribute__")))
   (xgh3:findIn K (.ref C3) "__getattr__"=some none)
   (xca3:findIn K (.ref C3) "__class__"=some (some (.builtin "object.__class__")))
   (xob3:mroIn K C3 (.type "object")=some true)
   (xbe3:subIn K (.ref C3) (.type "BaseException")=some true)
   {d3:ClassData} (xcl3:clsIn K C3=some d3)
   (Z6m:kitOne K (.ref C3) (.ref C1)=some false)
   (Z7x:kitOne K (.ref C3) (.ref C2)=some false)
   (Z1r:kitOne K (.ref C3) (.ref C3)=some true)
   (hv3:kitOne K (.ref C3) (.type "ValueError")=some true)
   {nmT qT:Str} {NT:Addr} {bsT bmT:List Value} {snT:List Str} {suT:List Value} {abT:Bool} {coT:Option Bool} {ddT:Option Addr} {kT0 kT1 kT2 kT3 kT5:Option Value} (lT:K.lookup C3=some (excClassObj nmT qT C3 NT bsT bmT true snT suT abT coT ddT kT0 kT1 kT2 kT3 kT5 "ValueError.__new__"))
   {ocN:Value} {odN:Option Addr} {esN:Array DictEntry} {epN:Nat} {slN:Array (Option Value)} (lN:K.lookup NT=some ⟨ocN,odN,.dict esN epN,slN⟩)
   (alN:(esN.all fun e=>match e.key with| .str _ _=>true|_=>false)=true)
   (niT:nsIn K NT "__init__"=some (some (.ref fX)))
   {nmU qU:Str} {NU:Addr} {bsU:List Value} {snU:List Str} {suU:List Value} {abU:Bool} {coU:Option Bool} {ddU:Option Addr} {kU0 kU1 kU2 kU3 kU5:Option Value} (lT1:K.lookup C1=some (excClassObj nmU qU C1 NU bsU bmT true snU suU abU coU ddU kU0 kU1 kU2 kU3 kU5 "ValueError.__new__"))
   (saT:findIn K (.ref C3) "__setattr__"=some (some (.builtin "object.__setattr__")))
   (nsg3:findIn K (.ref C3) "signal"=some none)
   {Z6x Z7d:Option Addr} {Z6z:Array (Option Value)} {Y7k Z7z Z6w Z7k Y7j Z7q:Value} (Y6k:K.lookup fX=some ⟨Y7k,Z6x,.func (fnOf "__init__" "Trapped.__init__" (B9 B1n) (B8 B1n) (A1 B1n) .none Z7z Z6w Z7k Z7d Y7j Z7q),Z6z⟩)
   (Z0j:codeIn K Y7j "Trapped.__init__"=true)
   (Z2u:keepIn K (.ref fX)=true)
   (fcT:Y7k= .type "function")
   (kTR:kitOne K (.ref C3) (.ref CR)=some true)
   (q1:excIn K C1 [.type "ValueError",.type "Exception",.type "BaseException",.type "object"] "ValueError.__new__"=true)
   (q2:excIn K C2 [.type "ValueError",.type "Exception",.type "BaseException",.type "object"] "ValueError.__new__"=true)
   (a_S:nsIn K mainGlobals "SIGNALS"=some (some (.ref aS)))
   {u0 u1 u2 u3 u4 u5 u6:Tok} {nS:Nat} {odS:Option Addr} {slS:Array (Option Value)} (lS:K.lookup aS=some ⟨.type "tuple",odS,.seq #[.str "void" u0,.str "split" u1,.str "burst" u2,.str "sunk" u3,.str "faint" u4,.str "off" u5,.str "cut" u6] nS,slS⟩)
   (B3x:findIn K (.ref CC) "traps"=some (some (.ref A3f)))
   (B3f:isFn K (.ref A3f)=true)
   {G3g G2g:Option Addr} {G2k:Array (Option Value)} {G4w G3t G1z G3x B9p G3b:Value} (B3k:K.lookup A3f=some ⟨G4w,G3g,.func (fnOf "traps" "Context.traps" (B9 A2j) (B8 A2j) (A1 A2j) .none G3t G1z G3x G2g B9p G3b),G2k⟩)
   (B3y:codeIn K B9p "Context.traps"=true)
   (A5x:keepIn K (.ref A3f)=true)
   (B8r:findIn K (.ref CC) "trap"=some (some (.ref A4t)))
   (B8p:isFn K (.ref A4t)=true)
   {J4b J1h:Option Addr} {J3w:Array (Option Value)} {G9v J2e G9q J0h C2n J0m:Value} (B6v:K.lookup A4t=some ⟨G9v,J4b,.func (fnOf "trap" "Context.trap" (B9 A4h) (B8 A4h) (A1 A4h) .none J2e G9q J0h J1h C2n J0m),J3w⟩)
   (B8s:codeIn K C2n "Context.trap"=true)
   (B1r:keepIn K (.ref A4t)=true)
   (hcode:D3x= .ref cc):
   ∃fd:FuncData,(∀(s:Shared) (v:Value),BindsTo s fd ⟨[v],[]⟩ [("_law_script",v)])/\∀base:Heap,K.In base ->base.Ns mainGlobals mg ->LamB mg base cc P0 ->FnOkG l.prog w K mg base (CX1 l.prog w) 11 fa fd ["_law_script"] (J6b K P0):=by
 have e:=hfa.symm.trans (mg_of X G J7j)
 cases e
 have B9n:=G4 (ps:=["whole","count"]) (st:=Z8) X G A8x A9z A8p B1g fun _ _ _ _ _ _ us hl=>match us,hl with| [_,_],_=>rfl
 have B5b:=G4 (ps:=["count"]) (st:=A2x) X G D5c D6y D8q D6x fun _ _ _ _ _ _ us hl=>match us,hl with| [_],_=>rfl
 have G2p:=G4 (ps:=["size","middle"]) (st:=A4v) X G C3n C2m C4q C2w fun _ _ _ _ _ _ us hl=>match us,hl with| [_,_],_=>rfl
 have J7r:=G4 (ps:=["whole"]) (st:=A8h) X G D4g D7h D3g D9a fun _ _ _ _ _ _ us hl=>match us,hl with| [_],_=>rfl
 have cg:=G4 (ps:=["sign"]) (st:=G5u) X G U9e V9a V5c U8v fun _ _ _ _ _ _ us hl=>match us,hl with| [_],_=>rfl
 have c8:=G4 (ps:=["number"]) (st:=C1p) X G J3s J0d G9e J4n fun _ _ _ _ _ _ us hl=>match us,hl with| [_],_=>rfl
 have V7p:=G4 (ps:=["number"]) (st:=C0r) X G J1y G7y G9w G8a fun _ _ _ _ _ _ us hl=>match us,hl with| [_],_=>rfl
 have J7t:=G4 (ps:=["thing"]) (st:=B2t) X G D2w D2u D7g D2g fun _ _ _ _ _ _ us hl=>match us,hl with| [_],_=>rfl
 have Y7h:=G4 (ps:=["thing","least","most"]) (st:=D1j) X G V3x V1p U8n V4f fun _ _ _ _ _ _ us hl=>match us,hl with| [_,_,_],_=>rfl
 have U2x:=G4 (ps:=["thing","least","most"]) (st:=A2z) X G B6k B6r B8w B8c fun _ _ _ _ _ _ us hl=>match us,hl with| [_,_,_],_=>rfl
 have bg:=G4 (ps:=["context","sign","exact","ideal"]) (st:=A2u) X G B7g B6x B6f B6c fun _ _ _ _ _ _ us hl=>match us,hl with| [_,_,_,_],_=>rfl
 have G5a:=G4 (ps:=["context","exact"]) (st:=A3j) X G C4n C3c C2d C4m fun _ _ _ _ _ _ us hl=>match us,hl with| [_,_],_=>rfl
 have C9x:=G4 (ps:=["ideal","sign","figures","power"]) (st:=A1f) X G B6p B7q B8a B7m fun _ _ _ _ _ _ us hl=>match us,hl with| [_,_,_,_],_=>rfl
 have al:=G4 (ps:=["context","sign","pair"]) (st:=Z0) X G A8r B0q A9s B0s fun _ _ _ _ _ _ us hl=>match us,hl with| [_,_,_],_=>rfl
 have G4m:=G4 (ps:=["context","sign","figures","power"]) (st:=A3g) X G C4v C2k C3e C3d fun _ _ _ _ _ _ us hl=>match us,hl with| [_,_,_,_],_=>rfl
 have G3s:=G4 (ps:=["context","number"]) (st:=A3m) X G C4b C3u C4k C4p fun _ _ _ _ _ _ us hl=>match us,hl with| [_,_],_=>rfl
 have c5:=G4 (ps:=["context","sign"]) (st:=A7w) X G D5g D3u D4f D6a fun _ _ _ _ _ _ us hl=>match us,hl with| [_,_],_=>rfl
 have c6:=G4 (ps:=["context","sign"]) (st:=A8c) X G D2r D3m D7b D5r fun _ _ _ _ _ _ us hl=>match us,hl with| [_,_],_=>rfl
 have D0f:=G4 (ps:=["part","is_cut"]) (st:=A2w) X G B7f B8u B7b B6m fun _ _ _ _ _ _ us hl=>match us,hl with| [_,_],_=>rfl
 have D0d:=G4 (ps:=["context","lead","part"]) (st:=A2v) X G B6z B6d B6w B8x fun _ _ _ _ _ _ us hl=>match us,hl with| [_,_,_],_=>rfl
 have D8w:=G4 (ps:=["name"]) (st:=A8k) X G D3w D6k D2x D4j fun _ _ _ _ _ _ us hl=>match us,hl with| [_],_=>rfl
 have bh:=G4 (ps:=["thing","least","most"]) (st:=A2n) X G B8q B7z B8m B6e fun _ _ _ _ _ _ us hl=>match us,hl with| [_,_,_],_=>rfl
 have D7e:=G4 (ps:=["names"]) (st:=A8a) X G D3z D3r D6b D5e fun _ _ _ _ _ _ us hl=>match us,hl with| [_],_=>rfl
 have D6w:=G4 (ps:=["names"]) (st:=A7x) X G D6r D6z D8p D6s fun _ _ _ _ _ _ us hl=>match us,hl with| [_],_=>rfl
 have V9d:=G4 (ps:=["_law_script","_law_k"]) (st:=C0d) X G J0v J5f J3e J2k fun _ _ _ _ _ _ us hl=>match us,hl with| [_,_],_=>rfl
 have B9y:=G4 (ps:=["_law_cell","_law_k"]) (st:=A4u) X G D7r D4e D9n D8z fun _ _ _ _ _ _ us hl=>match us,hl with| [_,_],_=>rfl
 have G4k:=G4 (ps:=[]) (st:=B2y) X G C2p C2f C4y C2c fun _ _ _ _ _ _ us hl=>match us,hl with| [],_=>rfl
 have D2v:=G4 (ps:=[]) (st:=B4r) X G G9r J4h J3y J2c fun _ _ _ _ _ _ us hl=>match us,hl with| [],_=>rfl
 have J7v:=G4 (ps:=["_law_name","_law_sign","_law_near","_law_part"]) (st:=B2v) X G D5j D6c D9q D4s fun _ _ _ _ _ _ us hl=>match us,hl with| [_,_,_,_],_=>rfl
 have G4d:=G4 (ps:=["_law_name","_law_sign"]) (st:=A5e) X G C2r C4w C3t C4e fun _ _ _ _ _ _ us hl=>match us,hl with| [_,_],_=>rfl
 have J2q:=G4 (ps:=["_law_count"]) (st:=B9f) X G G9b J3m G8p J5m fun _ _ _ _ _ _ us hl=>match us,hl with| [_],_=>rfl
 have G5b:=G4 (ps:=["_law_cell"]) (st:=B2z) X G C4r C2q C3p C3s fun _ _ _ _ _ _ us hl=>match us,hl with| [_],_=>rfl
 have V1n:=G4 (ps:=["_law_cell"]) (st:=C1n) X G J5a G9y J4p G9n fun _ _ _ _ _ _ us hl=>match us,hl with| [_],_=>rfl
 have J7k:=G4 (ps:=["_law_whole_here","_law_power"]) (st:=G6v) X G D7w D4q D5d D8f fun _ _ _ _ _ _ us hl=>match us,hl with| [_,_],_=>rfl
 have C2h:=G4 (ps:=["_law_parts","_law_sign","_law_exact","_law_ideal"]) (st:=A5h) X G B3g B3b B4h B4c fun _ _ _ _ _ _ us hl=>match us,hl with| [_,_,_,_],_=>rfl
 have G4c:=G4 (ps:=["_law_cell","_law_parts"]) (st:=A5c) X G C2t C4s C4x C4d fun _ _ _ _ _ _ us hl=>match us,hl with| [_,_],_=>rfl
 have V0d:=G4 (ps:=["_law_deed","_law_context"]) (st:=C2a) X G J2s J5g G8n J1r fun _ _ _ _ _ _ us hl=>match us,hl with| [_,_],_=>rfl
 have G3d:=G4 (ps:=["_law_found"]) (st:=A0v) X G C3q C2u C4a C4u fun _ _ _ _ _ _ us hl=>match us,hl with| [_],_=>rfl
 have Y7f:=G4 (ps:=["_law_found","_law_some","_law_traps"]) (st:=G6s) X G V9z V2r V5u V5k fun _ _ _ _ _ _ us hl=>match us,hl with| [_,_,_],_=>rfl
 have V7f:=G4 (ps:=["_law_context","_law_parts","_law_mine","_law_cell"]) (st:=B9e) X G G9h J1c G8c G7v fun _ _ _ _ _ _ us hl=>match us,hl with| [_,_,_,_],_=>rfl
 have Z7y:=G4 (ps:=["_law_script"]) (st:=D1y) X G J7j V9e V8h V4x fun _ _ _ _ _ _ us hl=>match us,hl with| [_],_=>rfl
 have O:Own mg:=⟨mg_none_of X G A6h,mg_none_of X G V2y,mg_none_of X G J2p,mg_none_of X G V1c,mg_none_of X G J3j,mg_none_of X G D9t,mg_none_of X G G8s,mg_none_of X G U9q,mg_none_of X G D7s,mg_none_of X G V8r,mg_none_of X G V2u,mg_none_of X G V7e,mg_none_of X G V4d,mg_none_of X G V2n,mg_none_of X G V2j,mg_none_of X G J2g,mg_none_of X G B0x,mg_none_of X G B3t,mg_none_of X G V8w,mg_none_of X G C3y,mg_none_of X G C3v,mg_none_of X G V5h,mg_none_of X G A5n⟩
 have T:Kit K:=⟨B4e,A9u,B4f,A8y,A6u,B0z,A9t,A7k,A8q,A7g,A4c,A5s,B3q,A9w,B3n,A9c,A7n,A8t,B0v,A7s,A9g,A6x,A4b,A7a,A5w,A4a,A5m,A4d,A3e,A4e,B0f,A7r,A9a,A7m,A3z,A5y,A1v,A0w,A1u,A0x,A0n,A0z⟩
 have Z6p:Cls K W0:=⟨V4k,V1k,V2x,V8v⟩
 have Z6u:Mk0 K W0:=⟨V1v,V6y,V3c⟩
 have bj:=G6 (st:=sN0) B6g B8e B1w
 have U3j:=bj.binds (ps:=["self"]) fun _ _ _ _ _ _ us hl=>match us,hl with| [_],_=>rfl
 have G8z:Meth K W0 "name" A4s:=⟨B7t,B7h,B1w⟩
 have WC0:WayC K mg "Down" W0 CW:=⟨mg_of X G Z2z,Z6p,Z6u,V8m,sn,tk,V1q,V1a⟩
 have Z6n:Cls K W1:=⟨U8t,V8b,V1y,V5j⟩
 have Z6y:Mk0 K W1:=⟨V0s,U9t,V6s⟩
 have bq:=G6 (st:=sN1) B6a B8t B1t
 have U1k:=bq.binds (ps:=["self"]) fun _ _ _ _ _ _ us hl=>match us,hl with| [_],_=>rfl
 have J0t:Meth K W1 "name" A4m:=⟨B7y,B6h,B1t⟩
 have WC1:WayC K mg "Up" W1 CW:=⟨mg_of X G Z0u,Z6n,Z6y,V3a,sn,tk,V1b,V8d⟩
 have Z7m:Cls K W2:=⟨V2z,U8h,V3z,U9h⟩
 have Z7v:Mk0 K W2:=⟨V7k,V9r,V9t⟩
 have bu:=G6 (st:=sN2) B8v B5y B1z
 have U0z:=bu.binds (ps:=["self"]) fun _ _ _ _ _ _ us hl=>match us,hl with| [_],_=>rfl
 have J4u:Meth K W2 "name" A4n:=⟨B8z,B6y,B1z⟩
 have WC2:WayC K mg "Floor" W2 CW:=⟨mg_of X G Z2f,Z7m,Z7v,V0e,sn,tk,V6d,V9u⟩
 have Z7e:Cls K W3:=⟨U9b,V3w,V2k,V2b⟩
 have Z7j:Mk0 K W3:=⟨V4m,V0j,V6r⟩
 have bv:=G6 (st:=sN3) B8n B7k B1u
 have U1d:=bv.binds (ps:=["self"]) fun _ _ _ _ _ _ us hl=>match us,hl with| [_],_=>rfl
 have G9s:Meth K W3 "name" A4j:=⟨B7j,B6j,B1u⟩
 have WC3:WayC K mg "Ceiling" W3 CW:=⟨mg_of X G Z0t,Z7e,Z7j,V7u,sn,tk,Y0b,V6u⟩
 have Z6r:Cls K W4:=⟨V1f,V3u,V7n,V3r⟩
 have Z7f:Mk0 K W4:=⟨V9v,V4r,V3g⟩
 have bw:=G6 (st:=sN4) B8b B6n B1v
 have U3k:=bw.binds (ps:=["self"]) fun _ _ _ _ _ _ us hl=>match us,hl with| [_],_=>rfl
 have J3g:Meth K W4 "name" A4r:=⟨B8y,B6s,B1v⟩
 have WC4:WayC K mg "HalfUp" W4 CW:=⟨mg_of X G Z1w,Z6r,Z7f,V1t,sn,tk,V6c,V2c⟩
 have Z7r:Cls K W5:=⟨V1r,V5q,V0m,V6z⟩
 have Z7s:Mk0 K W5:=⟨U9m,V5s,V1h⟩
 have bx:=G6 (st:=sN5) B8j B8d B1q
 have U3w:=bx.binds (ps:=["self"]) fun _ _ _ _ _ _ us hl=>match us,hl with| [_],_=>rfl
 have J3p:Meth K W5 "name" A4k:=⟨B7v,B7n,B1q⟩
 have WC5:WayC K mg "HalfDown" W5 CW:=⟨mg_of X G Z2q,Z7r,Z7s,V0n,sn,tk,U9p,Y0c⟩
 have Z7h:Cls K W6:=⟨V8e,V0u,V3p,V8q⟩
 have Z7c:Mk0 K W6:=⟨Y0a,U9c,V0w⟩
 have bz:=G6 (st:=sN6) B7u B7p B1y
 have U3g:=bz.binds (ps:=["self"]) fun _ _ _ _ _ _ us hl=>match us,hl with| [_],_=>rfl
 have G7u:Meth K W6 "name" A4p:=⟨B8h,B6b,B1y⟩
 have WC6:WayC K mg "HalfEven" W6 CW:=⟨mg_of X G Z0k,Z7h,Z7c,U9z,sn,tk,V2a,U9d⟩
 have Z6s:Cls K W7:=⟨V8y,V0y,V2p,V5x⟩
 have Z7a:Mk0 K W7:=⟨V6n,V1x,V9y⟩
 have b_:=G6 (st:=sN7) B7c B7s B1x
 have U1r:=b_.binds (ps:=["self"]) fun _ _ _ _ _ _ us hl=>match us,hl with| [_],_=>rfl
 have J0w:Meth K W7 "name" A4q:=⟨B7x,B6q,B1x⟩
 have WC7:WayC K mg "FiveUp" W7 CW:=⟨mg_of X G Z1s,Z6s,Z7a,U9a,sn,tk,U8k,V8j⟩
 let cw:Wy ->Addr:=fun y=>match y with| .down=>W0| .up=>W1| .floor=>W2| .ceiling=>W3| .halfUp=>W4| .halfDown=>W5| .halfEven=>W6| .fiveUp=>W7
 have W:∀y:Wy,WayC K mg y.cls (cw y) CW:=fun y=>match y with| .down=>WC0| .up=>WC1| .floor=>WC2| .ceiling=>WC3| .halfUp=>WC4| .halfDown=>WC5| .halfEven=>WC6| .fiveUp=>WC7
 have Z7w:Cls K CN:=⟨U8j,V0f,U8s,V9c⟩
 have ci:=G6 (st:=C9a) V1u V8x V6a
 have Z6q:=ci.binds (ps:=["self","kind","sign","figures","power"]) fun _ _ _ _ _ _ us hl=>match us,hl with| [_,_,_,_,_],_=>rfl
 have cu:Mk K CN D0a:=⟨V4p,V9k,V1g,V5n⟩
 have N:Num K mg CN:=⟨mg_of X G Z0p,Z7w,B8k,B7d,A5u,B4a,U9n,sn,tk,V6k,D2c⟩
 have aa:=G6 (st:=sU0) A7e A5v A1z
 have D4c:=aa.binds (ps:=["self","sign","last","part"]) fun _ _ _ _ _ _ us hl=>match us,hl with| [_,_,_,_],_=>rfl
 have C7b:Meth K W0 "goes_up" A0k:=⟨A6s,A6z,A1z⟩
 have am:=G6 (st:=sT0) A8v A9r A3t
 have G4p:=am.binds (ps:=["self","sign"]) fun _ _ _ _ _ _ us hl=>match us,hl with| [_,_],_=>rfl
 have D3p:Meth K W0 "to_end" A1n:=⟨B0k,B0r,A3t⟩
 have ac:=G6 (st:=sU1) A6p A5q A2d
 have D7n:=ac.binds (ps:=["self","sign","last","part"]) fun _ _ _ _ _ _ us hl=>match us,hl with| [_,_,_,_],_=>rfl
 have C5w:Meth K W1 "goes_up" A0g:=⟨A6b,A7f,A2d⟩
 have ao:=G6 (st:=sT1) A9k A8s A3v
 have G5c:=ao.binds (ps:=["self","sign"]) fun _ _ _ _ _ _ us hl=>match us,hl with| [_,_],_=>rfl
 have D4r:Meth K W1 "to_end" A1r:=⟨A9p,A9v,A3v⟩
 have ae:=G6 (st:=sU2) A5k A7b A2f
 have D5k:=ae.binds (ps:=["self","sign","last","part"]) fun _ _ _ _ _ _ us hl=>match us,hl with| [_,_,_,_],_=>rfl
 have C6f:Meth K W2 "goes_up" A0f:=⟨A6c,A6r,A2f⟩
 have ap:=G6 (st:=sT2) B0h A8w A3w
 have G4y:=ap.binds (ps:=["self","sign"]) fun _ _ _ _ _ _ us hl=>match us,hl with| [_,_],_=>rfl
 have D9r:Meth K W2 "to_end" A1p:=⟨B1d,B0u,A3w⟩
 have ag:=G6 (st:=sU3) A7j A6t A2b
 have D2e:=ag.binds (ps:=["self","sign","last","part"]) fun _ _ _ _ _ _ us hl=>match us,hl with| [_,_,_,_],_=>rfl
 have C5x:Meth K W3 "goes_up" A0h:=⟨A6m,A7h,A2b⟩
 have aq:=G6 (st:=sT3) B0c A8u A3p
 have G4q:=aq.binds (ps:=["self","sign"]) fun _ _ _ _ _ _ us hl=>match us,hl with| [_,_],_=>rfl
 have D7y:Meth K W3 "to_end" A1j:=⟨B0e,A9e,A3p⟩
 have ah:=G6 (st:=sU4) A6a A7p A2e
 have D2b:=ah.binds (ps:=["self","sign","last","part"]) fun _ _ _ _ _ _ us hl=>match us,hl with| [_,_,_,_],_=>rfl
 have C6k:Meth K W4 "goes_up" A0j:=⟨A5t,A7d,A2e⟩
 have ar:=G6 (st:=sT4) A9q B1b A3u
 have G2y:=ar.binds (ps:=["self","sign"]) fun _ _ _ _ _ _ us hl=>match us,hl with| [_,_],_=>rfl
 have D3n:Meth K W4 "to_end" A1h:=⟨B1a,A9j,A3u⟩
 have ai:=G6 (st:=sU5) A7q A6v A2a
 have D6d:=ai.binds (ps:=["self","sign","last","part"]) fun _ _ _ _ _ _ us hl=>match us,hl with| [_,_,_,_],_=>rfl
 have C5r:Meth K W5 "goes_up" A0m:=⟨A7c,A6g,A2a⟩
 have au:=G6 (st:=sT5) A9m B0g A3r
 have G3k:=au.binds (ps:=["self","sign"]) fun _ _ _ _ _ _ us hl=>match us,hl with| [_,_],_=>rfl
 have D8s:Meth K W5 "to_end" A1q:=⟨B0m,A9b,A3r⟩
 have aj:=G6 (st:=sU6) A6n A6j A2g
 have D4d:=aj.binds (ps:=["self","sign","last","part"]) fun _ _ _ _ _ _ us hl=>match us,hl with| [_,_,_,_],_=>rfl
 have C5p:Meth K W6 "goes_up" A0e:=⟨A5p,A6f,A2g⟩
 have av:=G6 (st:=sT6) B0j B0w A3n
 have G2d:=av.binds (ps:=["self","sign"]) fun _ _ _ _ _ _ us hl=>match us,hl with| [_,_],_=>rfl
 have D4y:Meth K W6 "to_end" A1s:=⟨A9y,A9f,A3n⟩
 have ak:=G6 (st:=sU7) A5z A6e A2c
 have D7x:=ak.binds (ps:=["self","sign","last","part"]) fun _ _ _ _ _ _ us hl=>match us,hl with| [_,_,_,_],_=>rfl
 have C6q:Meth K W7 "goes_up" A0d:=⟨A6w,A6q,A2c⟩
 have aw:=G6 (st:=sT7) A8n B0d A3x
 have G4z:=aw.binds (ps:=["self","sign"]) fun _ _ _ _ _ _ us hl=>match us,hl with| [_,_],_=>rfl
 have D5f:Meth K W7 "to_end" A1k:=⟨B0y,A9x,A3x⟩
 have Z7n:Cls K CC:=⟨V3h,U9v,V9j,V9n⟩
 have Z7p:=J7c (st:=A0c) V2m V6v V4g
 have cx:Mk K CC C9y:=⟨V4v,U9f,V8z,V6g⟩
 have az:=G6 (st:=A2k) B4b B3m A6y
 have J0y:=az.binds (ps:=["self"]) fun _ _ _ _ _ _ us hl=>match us,hl with| [_],_=>rfl
 have G4r:Meth K CC "flags" A3c:=⟨B3u,B3v,A6y⟩
 have ax:=G6 (st:=B1j) B0n B0b A3q
 have G4b:=ax.binds (ps:=["self"]) fun _ _ _ _ _ _ us hl=>match us,hl with| [_],_=>rfl
 have D5s:Meth K CC "lowest" A1t:=⟨B1e,B0t,A3q⟩
 have c4:=G6 (st:=B1m) C4c C3a B5k
 have V3v:=c4.binds (ps:=["self"]) fun _ _ _ _ _ _ us hl=>match us,hl with| [_],_=>rfl
 have U3a:Meth K CC "way" A9d:=⟨C3f,C3r,B5k⟩
 have ay:=G6 (st:=A0t) B1f A9n A3s
 have G2q:=ay.binds (ps:=["self","names"]) fun _ _ _ _ _ _ us hl=>match us,hl with| [_,_],_=>rfl
 have D4t:Meth K CC "raised" A1m:=⟨B0p,A8z,A3s⟩
 have a_:=G6 (st:=A2h) B3r B3d A6k
 have G8e:=a_.binds (ps:=["self"]) fun _ _ _ _ _ _ us hl=>match us,hl with| [_],_=>rfl
 have G5f:Meth K CC "clear" A3d:=⟨B3h,B3p,A6k⟩
 have Z7u:Cls K CQ:=⟨V9x,V4w,V0v,V6p⟩
 have Z7b:=J7c (st:=A5d) V9b V0r U9s
 have cy:Mk K CQ C9u:=⟨V4n,V3m,V9w,V7t⟩
 have b8:=G6 (st:=A3a) B3j B3e A5r
 have G9u:=b8.binds (ps:=["self"]) fun _ _ _ _ _ _ us hl=>match us,hl with| [_],_=>rfl
 have G2s:Meth K CQ "first" A0y:=⟨B4g,B4d,A5r⟩
 have c7:=G6 (st:=C0z) D5v D9b B9z
 have J7u:=c7.binds (ps:=["self","power"]) fun _ _ _ _ _ _ us hl=>match us,hl with| [_,_],_=>rfl
 have G4x:Meth K CQ "at" B1s:=⟨D4b,D9h,B9z⟩
 have xk3:ExcK K C3:=⟨xga3,xgh3,xca3,sn,tk,xob3,xbe3,by rw[xcl3];rfl⟩
 have nkT:nsOkIn K NT=true:=by unfold nsOkIn;rw[lN];exact alN
 have tlT:tailIn K J6q bmT=true:=by
   have z:=q1
   unfold excIn at z
   rw[lT1] at z
   simp only[excClassObj,Bool.and_eq_true] at z
   exact z.1.1.2
 have cm:=G6 (st:=B1n) Y6k Z0j Z2u
 have cz:=cm.binds (ps:=["self","signal"]) fun _ _ _ _ _ _ us hl=>match us,hl with| [_,_],_=>rfl
 have XI3:ExcI K C3 fX:=⟨⟨_,_,_,_,_,_,_,_,_,_,_,_,_,_,_,lT,nkT,niT,tlT⟩,⟨_,Y6k,fcT⟩,saT,xob3⟩
 have SG:SigK K mg aS:=⟨mg_of X G a_S,⟨_,lS,rfl⟩,fun H=> .inr ⟨_,_,_,lS,rfl,rfl,C9 (by show 7<=1000;decide),.cons ⟨_,rfl⟩ (.cons ⟨_,rfl⟩ (.cons ⟨_,rfl⟩ (.cons ⟨_,rfl⟩ (.cons ⟨_,rfl⟩ (.cons ⟨_,rfl⟩ (.cons ⟨_,rfl⟩ (.nil)))))))⟩⟩
 have bd:=G6 (st:=A2j) B3k B3y A5x
 have J5h:=bd.binds (ps:=["self"]) fun _ _ _ _ _ _ us hl=>match us,hl with| [_],_=>rfl
 have G2v:Meth K CC "traps" A3f:=⟨B3x,B3f,A5x⟩
 have c3:=G6 (st:=A4h) B6v B8s B1r
 have U0u:=c3.binds (ps:=["self","names"]) fun _ _ _ _ _ _ us hl=>match us,hl with| [_,_],_=>rfl
 have G9a:Meth K CC "trap" A4t:=⟨B8r,B8p,B1r⟩
 have C:CtxC K mg CC:=⟨mg_of X G Z1c,Z7n,B5z,B7a,B3z,B7e,B3c,A6d⟩
 have B1:Err K mg "BadContext" C1:=⟨mg_of X G Z3b,q1⟩
 have B2:Err K mg "BadNumber" C2:=⟨mg_of X G Z0y,q2⟩
 have R:RatC K mg CQ CE:=⟨mg_of X G Z1b,mg_of X G Z1k,Z7u,C3z,B0a,B3w,V5a,sn,tk,V7h,V2h⟩
 have b4:=G5q (fd:=fnOf "__init__" "Context.__init__" (B9 A0c) (B8 A0c) (A1 A0c) (.ref V4s) U8z V5b V8p V2d J5j V7x) (ps:=["self","room","way","least","most"]) (ds:=[]) rfl V0q rfl fun us hl=>by obtain⟨a,b,c,d,e,rfl⟩:=Z8x (Y1s hl);exact⟨_,rfl,rfl⟩
 refine⟨fnOf "law" "law" (B9 D1y) (B8 D1y) (A1 D1y) .none V1m U9y V3s V9m G8x V1e,fun s v=> .of_eq rfl,fun base _ _ LB=>?_⟩
 have WN:∀y:Wy,Z4x l.prog w K mg base (cw y) y.name:=fun y=>match y with| .down=>⟨_,_,G8z,Z4s bj,U3j⟩| .up=>⟨_,_,J0t,Z5x bq,U1k⟩| .floor=>⟨_,_,J4u,Z3z bu,U0z⟩| .ceiling=>⟨_,_,G9s,Z5j bv,U1d⟩| .halfUp=>⟨_,_,J3g,Z3w bw,U3k⟩| .halfDown=>⟨_,_,J3p,Z5c bx,U3w⟩| .halfEven=>⟨_,_,G7u,Z4e bz,U3g⟩| .fiveUp=>⟨_,_,J0w,Z3m b_,U1r⟩
 have U:∀y:Wy,Z5n l.prog w K mg base (cw y) y:=fun y=>match y with| .down=>⟨_,_,C7b,Z4u aa,D4c⟩| .up=>⟨_,_,C5w,Z3x ac,D7n⟩| .floor=>⟨_,_,C6f,Z4c ae,D5k⟩| .ceiling=>⟨_,_,C5x,Z3p ag,D2e⟩| .halfUp=>⟨_,_,C6k,Z3j ah,D2b⟩| .halfDown=>⟨_,_,C5r,Z4n ai,D6d⟩| .halfEven=>⟨_,_,C5p,Z4a aj,D4d⟩| .fiveUp=>⟨_,_,C6q,Z5d ak,D7x⟩
 have E2:∀y:Wy,Z4g l.prog w K mg base (cw y) y:=fun y=>match y with| .down=>⟨_,_,D3p,Z3v am,G4p⟩| .up=>⟨_,_,D4r,Z6a ao,G5c⟩| .floor=>⟨_,_,D9r,Z6b ap,G4y⟩| .ceiling=>⟨_,_,D7y,Z5w aq,G4q⟩| .halfUp=>⟨_,_,D3n,Z6h ar,G2y⟩| .halfDown=>⟨_,_,D8s,Z5u au,G3k⟩| .halfEven=>⟨_,_,D4y,Z4y av,G2d⟩| .fiveUp=>⟨_,_,D5f,Z5b aw,G4z⟩
 have Gb:=G7d (P:=l.prog) (w:=w) (base:=base) bh Y7h O T B1
 have Gw:=U6n (P:=l.prog) (w:=w) (base:=base) D8w O T B1 W
 have MC:MakeC l.prog w K mg base CC C1 C9y _:=⟨cx,G7a Z7p bh D8w Gb Gw C W WN⟩
 have MR : MakeR l.prog w K mg base CQ C9u (fnOf "__init__" "Ratio.__init__" (B9 A5d) (B8 A5d) (A1 A5d) (.ref V0k) V2t V0p V1d U8r J2z V7s) (.int 0 Y7g) (fun us ws=>match ws with| [a]=>us++ [a]|_=>[]) (fun us ws=>match ws with| [a]=>us++ [a]|_=>[]):=
   { m :=cy
     g:=U5e Z7b R
     b3:=G5q rfl G3j rfl fun us hl=>by obtain⟨a,b,c,d,rfl⟩:=Z3s (Y1s hl);exact⟨_,rfl,rfl⟩
     b2:=G5q rfl G3j rfl fun us hl=>by obtain⟨a,b,c,rfl⟩:=Y7p (Y1s hl);exact⟨_,rfl,rfl⟩
     r0:=⟨_,rfl⟩
     kP := ⟨(fun s us ws XK hl=>by
         rcases ws with _|⟨p,_|⟨q,t⟩⟩
         . cases hl
         . obtain⟨a,b,c,rfl⟩:=Y7p (Y1s hl)
           exact binds_K XK rfl G3j rfl rfl rfl
         . cases hl),fun r z=>match z with
       | .cons a .nil=>r.append (.cons a .nil)
       | .nil=> .nil
       | .cons _ (.cons _ _)=> .nil⟩
     eP:=fun _ _ _ _=>rfl}
 have M:MakeN l.prog w K mg base CN D0a _:=⟨cu,Y1k ci N,Z6q⟩
 have Gn:=U6k (P:=l.prog) (w:=w) (base:=base) D7e O T B1 SG
 have Go:=U6p (P:=l.prog) (w:=w) (base:=base) D6w SG
 have GX:=J8a (P:=l.prog) (w:=w) (mg:=mg) (base:=base) cm XI3 nsg3
 have MF:Has l.prog w K mg base CC "flags" 1 ["self"] (B3a CC):=⟨_,_,G4r,D9w az C O,J0y⟩
 have ML:Has l.prog w K mg base CC "lowest" 1 ["self"] (C0a CC):=⟨_,_,D5s,J9a ax C,G4b⟩
 have MW:Has l.prog w K mg base CC "way" 2 ["self"] (C0b CC cw):=⟨_,_,U3a,U0c c4 D8w Gw C,V3v⟩
 have ME:Has l.prog w K mg base CC "clear" 1 ["self"] (B2r CC):=⟨_,_,G5f,G0t a_ C,G8e⟩
 have MD:Has l.prog w K mg base CC "raised" 3 ["self","names"] (C1r K CC C1 C3):=⟨_,_,D4t,J9j ay D7e Gn D6w Go C (mg_of X G Y4e) XI3 GX cz,G2q⟩
 have CM:CtxM l.prog w K mg base CC C1 C3 CW cw:=⟨C,MW,ML,MD,W,U,E2⟩
 have e_:=G0s (P:=l.prog) (w:=w) (base:=base) J7t O T B2 N
 have cn:=Y3d (P:=l.prog) (w:=w) (base:=base) c8 J7t O T B2 N
 have c_:=Z0e (P:=l.prog) (w:=w) (base:=base) cg U2x Y7h O T B2 N M
 have cp:=Y0s (P:=l.prog) (w:=w) (base:=base) V7p O N
 have Gto:=U5z (P:=l.prog) (w:=w) (base:=base) B5b B9n (D0v B9n)
 have cq:=J9n (P:=l.prog) (w:=w) (base:=base) G2p
 have Gwl:=U8e (P:=l.prog) (w:=w) (base:=base) J7r B5b Gto
 have Gat:=Y8q (P:=l.prog) (w:=w) (base:=base) c7 B5b Gto G2p cq R O
 have RM:RatM l.prog w K mg base CQ A0y B1s _ _:=⟨G2s,J9m b8 J7r Gwl G4x Gat J7u R,G9u,G4x,Gat,J7u⟩
 have d4:=G6q (P:=l.prog) (w:=w) (base:=base) C9x N M
 have d5:=D1d (P:=l.prog) (w:=w) (base:=base) al CM
 have d7:=J8k (P:=l.prog) (w:=w) (base:=base) G4m B5b Gto CM N M
 have d8:=J8v (P:=l.prog) (w:=w) (base:=base) G3s V7p cp CM N
 have d9:=U7e (P:=l.prog) (w:=w) (base:=base) c6 B5b Gto CM N M
 have db:=U4x (P:=l.prog) (w:=w) (base:=base) c5 c6 d9 cg c_ CM
 have Gsr:=G7q (P:=l.prog) (w:=w) (base:=base) D0f
 have Gsl:=G7p (P:=l.prog) (w:=w) (base:=base) D0d CM
 have df:=J8q (P:=l.prog) (w:=w) (base:=base) G5a CM RM R O
 have dg:=G5h (P:=l.prog) (w:=w) (base:=base) bg G5a df C9x d4 al d5 G4m d7 G3s d8 c5 db D0f Gsr D0d Gsl CM RM R N
 have MT:Has l.prog w K mg base CC "traps" 1 ["self"] (B2s CC):=⟨_,_,G2v,D9z bd C O,J5h⟩
 have MP:Has l.prog w K mg base CC "trap" 2 ["self","names"] (G7g K CC C1):=⟨_,_,G9a,Y3h c3 D7e Gn D6w Go C,U0u⟩
 have RA:CaughtA K mg C3 CR:=⟨mg_of X G Y4e,mg_of X G Z1j,⟨cty,by rw[ccl];rfl,cex⟩,sub3,xk3,⟨_,by unfold clsIn;rw[lT],rfl⟩,nsg3,Z1r,hv3⟩
 have cr:=Y2d (P:=l.prog) (w:=w) (base:=base) V9d O
 have c9:=U7v (P:=l.prog) (w:=w) (base:=base) B9y
 have dh:=U6r (P:=l.prog) (w:=w) (base:=base) G4k
 have cb:=Y3f (P:=l.prog) (w:=w) (base:=base) D2v
 have di:=U5a (P:=l.prog) (w:=w) (base:=base) J7v O
 have dj:=J8m (P:=l.prog) (w:=w) (base:=base) G4d
 have cj:=Y1r (P:=l.prog) (w:=w) (base:=base) J2q O
 have dk:=U4y (P:=l.prog) (w:=w) (base:=base) G5b G4k dh
 have dm:=Y3k (P:=l.prog) (w:=w) (base:=base) V1n J2q cj
 have dw:=J8t (P:=l.prog) (w:=w) (base:=base) G4c B9y c9 V1n dm O
 have dy:=Y8m (P:=l.prog) (w:=w) (base:=base) J7k O
 have dz:=J9e (P:=l.prog) (w:=w) (base:=base) C2h J2q cj J7v di G4d dj J7k dy O
 have d_:=Y1t (P:=l.prog) (w:=w) (base:=base) (k:=8) (by decide) V0d c8 cn RA O
 have eg:=G1r (P:=l.prog) (w:=w) (base:=base) G3d O T
 have ek:=Y8u (P:=l.prog) (w:=w) (base:=base) Y7f D2v cb
 have ez:=Y2t (P:=l.prog) (w:=w) (base:=base) V7f hcode LB B9y c9 G4c dw C2h dz Y7f ek V0d (TR.FnOk.toG d_) G3d eg D2v cb bg dg MR R C MF
 exact Y7v Z7y V9d cr B9y c9 G5b dk D2v cb V7f ez MC b4 C MT MP ME O
theorem walk{cc P0:Addr}{l:OpenLaw}{q:Program}{loose:List Str}{XP:(Str ->Option Value) ->Heap ->Prop}{YP:World ->Heap ->Prop}{d:DefRec}{K:Params ->Frag}(hn:l.most=some 63)(hdf:d.params.defaults=[])
   (hY:∀(w:World) (h:Heap),YP w h ->(K w.params).In h/\CodeHd h cc P0/\h.get? P0=some (tabObj #[])) (hKP:∀p,(K p).lookup P0=none)
   (F:∀(w:World) (mg:Str ->Option Value) (fa:Addr) (h:Heap),(K w.params).In h ->h.Ns mainGlobals mg ->mg d.name=some (.ref fa) ->
     ∃fd:FuncData,(∀(s:Shared) (u:Value),BindsTo s fd ⟨[u],[]⟩ [("_law_script",u)])/\∀base:Heap,(K w.params).In base ->base.Ns mainGlobals mg ->LamB mg base cc P0 ->FnOkG l.prog w (K w.params) mg base (CX1 l.prog w) 11 fa fd ["_law_script"] ((J6b (K w.params) P0))):
   WalkO q loose XP YP l.row.toRowW d [] (fun f vs=>PySem.call f vs):=
 L2.walk_ofL (n:=63) (k:=11) (x:="_law_script") (CX:=fun w=>CX1 l.prog w) (sp:=fun w=>(J6b (K w.params) P0)) hn (by decide) hdf ⟨rfl,by decide,by decide⟩ hY hKP F (fun _ _ a ns hl hP hS=>⟨a,ns,rfl,hl,hS,hP,fun _=>rfl⟩) fun _ _ _ _ _ z=>by
   obtain⟨_,_,_,_,_,_,_,_,_,_,z,_⟩:=z
   exact z
end TR
namespace PySem.W.Fast
theorem tw7788671567948794027:True:=trivial
theorem tw1277160422834561347:True:=trivial
theorem tw15949583962640528221:True:=trivial
theorem tw6345326913658594201:True:=trivial
theorem tw16090199359727549971:True:=trivial
theorem tw12006142499885267108:True:=trivial
theorem tw7572265746740545180:True:=trivial
theorem tw13161075242485747511:True:=trivial
theorem tw1513232467420116385:True:=trivial
theorem tw13292731868126412971:True:=trivial
theorem tw12607552251562435860:True:=trivial
theorem tw13518372661903444401:True:=trivial
theorem tw13910522094081440080:True:=trivial
theorem tw1366254693012083523:True:=trivial
theorem tw10349429442493875834:True:=trivial
theorem tw558789917355087243:True:=trivial
theorem tw14103710044106342274:True:=trivial
theorem tw4868608023941849373:True:=trivial
theorem tw18358979987909708341:True:=trivial
theorem tw2950477851240339632:True:=trivial
theorem tw14694500992324288731:True:=trivial
theorem tw11140651527989293697:True:=trivial
theorem tw7251536079153144251:True:=trivial
theorem tw12888856483268457173:True:=trivial
theorem tw12415920687242911835:True:=trivial
theorem tw7369903013769640054:True:=trivial
theorem tw6126030846297495117:True:=trivial
theorem tw18390778119693896018:True:=trivial
theorem tw13133740499475837070:True:=trivial
theorem tw5456999102346269881:True:=trivial
theorem tw1484403570297162270:True:=trivial
theorem tw11555430836161043930:True:=trivial
theorem tw16778452065161562216:True:=trivial
theorem tw10393664291475164101:True:=trivial
theorem tw3836328215580753227:True:=trivial
theorem tw14510680310769322997:True:=trivial
theorem tw4487133496324726594:True:=trivial
theorem tw11494417391606839124:True:=trivial
theorem tw17273576554600142819:True:=trivial
theorem tw4393360634841188728:True:=trivial
theorem tw15858716754845284906:True:=trivial
theorem tw2032012290205204827:True:=trivial
theorem tw2646884083243516383:True:=trivial
theorem tw1151269318437607961:True:=trivial
theorem tw4516769842152021338:True:=trivial
theorem tw7537530558423736102:True:=trivial
theorem tw12325024850992646623:True:=trivial
theorem tw8410583498968832952:True:=trivial
theorem tw7049806851661915863:True:=trivial
theorem tw14024298136285486224:True:=trivial
theorem tw8325749937002142049:True:=trivial
theorem tw3177684122745936237:True:=trivial
theorem tw9049915571851542117:True:=trivial
theorem tw9848923334248588457:True:=trivial
theorem tw9662977011329009681:True:=trivial
theorem tw16392982249038213262:True:=trivial
theorem tw17433144961322260532:True:=trivial
theorem tw8641465905861238293:True:=trivial
theorem tw5731694079139837525:True:=trivial
theorem tw12873154372685667921:True:=trivial
theorem tw6330375351966409775:True:=trivial
theorem tw5930518047058300113:True:=trivial
theorem tw4733573423697028452:True:=trivial
theorem tw11481728076531476963:True:=trivial
theorem tw5830105583183139867:True:=trivial
theorem tw14176560051484196449:True:=trivial
theorem tw13471931490105870582:True:=trivial
theorem tw1019932014043390460:True:=trivial
theorem tw8402495228383844125:True:=trivial
theorem tw17990469409589111618:True:=trivial
theorem tw4250555118025981340:True:=trivial
theorem tw16698534624866605787:True:=trivial
theorem tw9286804169912763728:True:=trivial
theorem tw2886367203945108370:True:=trivial
theorem tw9293224132132408622:True:=trivial
theorem tw8965109799270235583:True:=trivial
theorem tw10366999255521930106:True:=trivial
theorem tw16929385647132680646:True:=trivial
theorem tw4173041535249452814:True:=trivial
theorem tw16489145762474938143:True:=trivial
theorem tw612100888511512427:True:=trivial
theorem tw18110010046079444583:True:=trivial
theorem tw3040751048455165579:True:=trivial
theorem tw4295302126438119328:True:=trivial
theorem tw1686833730979137239:True:=trivial
theorem tw849934136566296122:True:=trivial
theorem tw16804742585219084414:True:=trivial
theorem tw13851683408752051706:True:=trivial
theorem tw5417789918057389282:True:=trivial
theorem tw12617996136582536929:True:=trivial
theorem tw6430030029216112131:True:=trivial
theorem tw6145020156804504981:True:=trivial
theorem tw8699996886942044569:True:=trivial
theorem tw13266870365861810786:True:=trivial
theorem tw10271933956062225029:True:=trivial
theorem tw3767853131603167886:True:=trivial
theorem tw11332919583926976276:True:=trivial
theorem tw8356761481129086829:True:=trivial
theorem tw3782111642349913036:True:=trivial
theorem tw10084268325475568302:True:=trivial
theorem tw5475332000880580335:True:=trivial
theorem tw15379960976704274644:True:=trivial
theorem tw15642323728611079211:True:=trivial
theorem tw5033686821748538191:True:=trivial
theorem tw15185326328404402674:True:=trivial
theorem tw1999566424780900076:True:=trivial
theorem tw16313877328425554237:True:=trivial
theorem tw4481038239593314572:True:=trivial
theorem tw3207119348832620309:True:=trivial
theorem tw10840438234041992319:True:=trivial
theorem tw11324774270856305627:True:=trivial
theorem tw6610751525555455380:True:=trivial
theorem tw6503951703613951191:True:=trivial
theorem tw7434150410575527007:True:=trivial
theorem tw9236613662641983401:True:=trivial
theorem tw13498253183853516053:True:=trivial
theorem tw1310317121015917967:True:=trivial
theorem tw14415217321557696820:True:=trivial
theorem tw7934591962395697758:True:=trivial
theorem tw524378783353486689:True:=trivial
theorem tw10261671134540921757:True:=trivial
theorem tw4489798380315483174:True:=trivial
theorem tw1909544245128295170:True:=trivial
theorem tw10747577404996204535:True:=trivial
theorem tw13593824815658449321:True:=trivial
theorem tw2644002813316934089:True:=trivial
theorem tw14286936607339331600:True:=trivial
theorem tw1701173019624265210:True:=trivial
theorem tw15143368333488829447:True:=trivial
theorem tw1605830149457683877:True:=trivial
theorem tw1418439255148227880:True:=trivial
theorem tw5058490581058950291:True:=trivial
theorem tw6391854640132209699:True:=trivial
theorem tw12691115461684103488:True:=trivial
theorem tw13480504745684251055:True:=trivial
theorem tw15083599658821144380:True:=trivial
theorem tw14868019268186080812:True:=trivial
theorem tw7737553890359193079:True:=trivial
theorem tw14113497507181974563:True:=trivial
theorem tw14294571055572511503:True:=trivial
theorem tw6521787511446745170:True:=trivial
theorem tw10245655108667224624:True:=trivial
theorem tw12835405720704733570:True:=trivial
theorem tw18338971043788479505:True:=trivial
theorem tw17001423984147493079:True:=trivial
theorem tw18167365799433869792:True:=trivial
theorem tw14879766114982822826:True:=trivial
theorem tw17023527882619957567:True:=trivial
theorem tw9868502352108048304:True:=trivial
theorem tw2172410880750666521:True:=trivial
theorem tw4828710352858534802:True:=trivial
theorem tw11084878009334195433:True:=trivial
theorem tw10640775639551098342:True:=trivial
theorem tw14946495433363169429:True:=trivial
theorem tw18171359395401556752:True:=trivial
theorem tw8894140204964139091:True:=trivial
theorem tw2163067176578671995:True:=trivial
theorem tw5462384706803891441:True:=trivial
theorem tw4946705919053887517:True:=trivial
theorem tw2683317434795903289:True:=trivial
theorem tw11775733987100366820:True:=trivial
theorem tw5045754035925467253:True:=trivial
theorem tw2162248106640718574:True:=trivial
theorem tw17190196469887656667:True:=trivial
theorem tw8365630122752506474:True:=trivial
theorem tw14156506762191850869:True:=trivial
theorem tw10493057030317922775:True:=trivial
theorem tw14764014061401870247:True:=trivial
theorem tw10279266103108558086:True:=trivial
theorem tw5592228125566680211:True:=trivial
theorem tw7211541197925836882:True:=trivial
theorem tw4392741896297237339:True:=trivial
theorem tw2097282550437092413:True:=trivial
theorem tw3923004615796914070:True:=trivial
theorem tw3301531112133045771:True:=trivial
theorem tw18160638968915641082:True:=trivial
theorem tw11686364122276616408:True:=trivial
theorem tw16698804066154750196:True:=trivial
theorem tw15387705393093248297:True:=trivial
theorem tw106800698956154784:True:=trivial
theorem tw12207683361557240619:True:=trivial
theorem tw12304157919839909321:True:=trivial
theorem tw6793756502884022592:True:=trivial
theorem tw4164655837282356983:True:=trivial
theorem tw6119687720990781565:True:=trivial
theorem tw16830766566459304561:True:=trivial
theorem tw12228516259382704775:True:=trivial
theorem tw6260510849620881903:True:=trivial
theorem tw10442552149144324022:True:=trivial
theorem tw12785771663703873836:True:=trivial
theorem tw1049957762463640969:True:=trivial
theorem tw13306488255816990974:True:=trivial
theorem tw17218278525590453060:True:=trivial
theorem tw11836695232776783957:True:=trivial
theorem tw475308241485646193:True:=trivial
theorem tw16676493939473024512:True:=trivial
theorem tw12468648046630682824:True:=trivial
theorem tw6139634404701811830:True:=trivial
theorem tw1713983702472028297:True:=trivial
theorem tw4612273681528325283:True:=trivial
theorem tw8759370074259514141:True:=trivial
theorem tw8293127489952961576:True:=trivial
theorem tw7841930116036866151:True:=trivial
theorem tw8671825436807196168:True:=trivial
theorem tw18251633391836843080:True:=trivial
theorem tw12943839357052347418:True:=trivial
theorem tw9519899280358844623:True:=trivial
theorem tw10050011004340825687:True:=trivial
theorem tw4607977352055276663:True:=trivial
theorem tw12458403087603323891:True:=trivial
theorem tw12160263228524188325:True:=trivial
theorem tw8864000975795430958:True:=trivial
theorem tw12537032530861395851:True:=trivial
theorem tw550338095942945551:True:=trivial
theorem tw2057681652188795561:True:=trivial
theorem tw891259049124494883:True:=trivial
theorem tw987390741844790339:True:=trivial
theorem tw4184867008096452089:True:=trivial
theorem tw11080779323833157360:True:=trivial
theorem tw8694832826868732889:True:=trivial
theorem tw15552393551249315094:True:=trivial
theorem tw17817966945457230472:True:=trivial
theorem tw2211273636716229908:True:=trivial
theorem tw11919615361014827716:True:=trivial
theorem tw11878799639412835854:True:=trivial
theorem tw6348077695910040304:True:=trivial
theorem tw9273952437655343287:True:=trivial
theorem tw935780778869241178:True:=trivial
theorem tw11726832868450234696:True:=trivial
theorem tw15523700674905604938:True:=trivial
theorem tw3719135071443474884:True:=trivial
theorem tw17313390639617877112:True:=trivial
theorem tw11832658023369229169:True:=trivial
theorem tw3083951464262615919:True:=trivial
theorem tw17397512460673150340:True:=trivial
theorem tw7412823922781310742:True:=trivial
theorem tw12902290645348903729:True:=trivial
theorem tw10117549384320209553:True:=trivial
theorem tw10438287736598833577:True:=trivial
theorem tw11509501614558393378:True:=trivial
theorem tw12010951860744702421:True:=trivial
theorem tw6861028202633665484:True:=trivial
theorem tw3261795547419452642:True:=trivial
theorem tw5938454145674670608:True:=trivial
theorem tw17762904554269001565:True:=trivial
theorem tw5749573879196641648:True:=trivial
theorem tw2287869093526961656:True:=trivial
theorem tw8929731524608659483:True:=trivial
theorem tw9215491762093139667:True:=trivial
theorem tw4309447987748314305:True:=trivial
theorem tw5750991978510768297:True:=trivial
theorem tw10563453632082711930:True:=trivial
theorem tw8863321019725702009:True:=trivial
theorem tw11119460332160375606:True:=trivial
theorem tw3244559145563692798:True:=trivial
theorem tw15706771946344110610:True:=trivial
theorem tw3537510012663923565:True:=trivial
theorem tw3436119151367160314:True:=trivial
theorem tw5506114742595191910:True:=trivial
theorem tw4198385766419706540:True:=trivial
theorem tw11131541923265791235:True:=trivial
theorem tw8292031404822966799:True:=trivial
theorem tw6741274525960380360:True:=trivial
theorem tw1187287731215589754:True:=trivial
theorem tw11514442065567929252:True:=trivial
theorem tw16309822625271527564:True:=trivial
theorem tw10530918062343812107:True:=trivial
theorem tw12566800762726005465:True:=trivial
theorem tw11590444495346350244:True:=trivial
theorem tw7020195195304413989:True:=trivial
theorem tw5274699604931463840:True:=trivial
theorem tw4711120714251688992:True:=trivial
theorem tw11856672330600948786:True:=trivial
theorem tw3443301976154840823:True:=trivial
theorem tw10613689672152678170:True:=trivial
theorem tw8437456967477144690:True:=trivial
theorem tw4165882937584166305:True:=trivial
theorem tw10246967115805438604:True:=trivial
theorem tw17846746487211080186:True:=trivial
theorem tw4853043919354858020:True:=trivial
theorem tw348405852513906945:True:=trivial
theorem tw1248946404547138258:True:=trivial
theorem tw11607374364446395032:True:=trivial
theorem tw11021559890949504697:True:=trivial
theorem tw5658600428832436352:True:=trivial
theorem tw7189051028627905837:True:=trivial
theorem tw17710211340675606387:True:=trivial
theorem tw4740661331074697548:True:=trivial
theorem tw12421845509897927070:True:=trivial
theorem tw5579292473856307187:True:=trivial
theorem tw15665474055349884596:True:=trivial
theorem tw11722746953385379421:True:=trivial
theorem tw2851439812342741691:True:=trivial
theorem tw13956739188169876430:True:=trivial
theorem tw10287360865405855105:True:=trivial
theorem tw6664364713890395701:True:=trivial
theorem tw13256564889943062481:True:=trivial
theorem tw11277123770691020362:True:=trivial
theorem tw13743862221526814340:True:=trivial
theorem tw2203286380269332155:True:=trivial
theorem tw10306138568526717437:True:=trivial
theorem tw11673302797765479409:True:=trivial
theorem tw13802485198095737521:True:=trivial
theorem tw12349227335305313789:True:=trivial
theorem tw7608499075816490444:True:=trivial
theorem tw15796631282054816597:True:=trivial
theorem tw6133569140541427908:True:=trivial
theorem tw12441339128933900076:True:=trivial
theorem tw7219505339158503125:True:=trivial
theorem tw7813450722151612680:True:=trivial
theorem tw8140013515870931570:True:=trivial
theorem tw14419980866277453653:True:=trivial
theorem tw1073434931346992378:True:=trivial
theorem tw4752755278198665619:True:=trivial
theorem tw17601700410261144046:True:=trivial
theorem tw1040861079079728410:True:=trivial
theorem tw1027388324356753360:True:=trivial
theorem tw7945037009868680547:True:=trivial
theorem tw8588469274690511996:True:=trivial
theorem tw14761543966737941041:True:=trivial
theorem tw11069036444502143997:True:=trivial
theorem tw17428248687328959540:True:=trivial
theorem tw10029385565648155404:True:=trivial
theorem tw6762703110606874344:True:=trivial
theorem tw293624222734686957:True:=trivial
theorem tw16706090168158034024:True:=trivial
theorem tw17694998027773226163:True:=trivial
theorem tw17760922902202722059:True:=trivial
theorem tw9508592832925310352:True:=trivial
theorem tw10275378522882908103:True:=trivial
theorem tw11555577435015352635:True:=trivial
theorem tw16665717050225247214:True:=trivial
theorem tw5475006641192896618:True:=trivial
theorem tw12850225235813167842:True:=trivial
theorem tw6309958537190490064:True:=trivial
theorem tw10662211567224451917:True:=trivial
theorem tw909722775537080846:True:=trivial
theorem tw12653725165710445123:True:=trivial
theorem tw12632175416861315784:True:=trivial
theorem tw3955984061233036063:True:=trivial
theorem tw13317207117439833190:True:=trivial
theorem tw10845261202253776302:True:=trivial
theorem tw15586883162662870083:True:=trivial
theorem tw10071939172595698499:True:=trivial
theorem tw11068773485914299841:True:=trivial
theorem tw15269138461433732445:True:=trivial
theorem tw3110834571467528400:True:=trivial
theorem tw14752819347493292531:True:=trivial
theorem tw14601049499727458866:True:=trivial
theorem tw1492284534127913390:True:=trivial
theorem tw5815915645637075336:True:=trivial
theorem tw5870614490028765652:True:=trivial
theorem tw15434893600617870154:True:=trivial
theorem tw2410796574013890028:True:=trivial
theorem tw5083606119398638925:True:=trivial
theorem tw1522346422139703828:True:=trivial
theorem tw7247696024880093170:True:=trivial
theorem tw16207866433821482994:True:=trivial
theorem tw5459129280683038398:True:=trivial
theorem tw1805192302818183634:True:=trivial
theorem tw3269989739156083202:True:=trivial
theorem tw11567465780148288634:True:=trivial
theorem tw13343756807727664276:True:=trivial
theorem tw12145427903545439344:True:=trivial
theorem tw17810998914926451610:True:=trivial
theorem tw12624522340660216478:True:=trivial
theorem tw7726306861276432907:True:=trivial
theorem tw16464522760596062116:True:=trivial
theorem tw16324498184959820804:True:=trivial
theorem tw2469707687854597215:True:=trivial
theorem tw2982928383066447950:True:=trivial
theorem tw12457946962944037069:True:=trivial
theorem tw825040936505876526:True:=trivial
theorem tw3877294812037219717:True:=trivial
theorem tw1468758536148627275:True:=trivial
theorem tw3087838757381682714:True:=trivial
theorem tw14094922580105126266:True:=trivial
theorem tw18049161785230151147:True:=trivial
theorem tw12678945452497160076:True:=trivial
theorem tw5673808328631379510:True:=trivial
theorem tw13610871788477550062:True:=trivial
theorem tw787738807504306438:True:=trivial
theorem tw1865815533324404694:True:=trivial
theorem tw15675079844343531132:True:=trivial
theorem tw12794553367759279663:True:=trivial
theorem tw17432364474992662681:True:=trivial
theorem tw7754143051068608561:True:=trivial
theorem tw4292981597922027548:True:=trivial
theorem tw11906116460050017094:True:=trivial
theorem tw16086480649857071319:True:=trivial
theorem tw2743988863141232974:True:=trivial
theorem tw17711025269570971839:True:=trivial
theorem tw4400515598616050994:True:=trivial
theorem tw7322040626570398206:True:=trivial
theorem tw3373558022643290621:True:=trivial
theorem tw17851014269878518767:True:=trivial
theorem tw6952949236930628650:True:=trivial
theorem tw6752983009579236756:True:=trivial
theorem tw12260346043297538650:True:=trivial
theorem tw4662657552753860020:True:=trivial
theorem tw15449404989177876255:True:=trivial
theorem tw16569445258266105830:True:=trivial
theorem tw16051837565660434997:True:=trivial
theorem tw1728647873804961279:True:=trivial
theorem tw144020893870572106:True:=trivial
theorem tw5460985352090368124:True:=trivial
theorem tw2469584400357380104:True:=trivial
theorem tw11713569132144819454:True:=trivial
theorem tw2092833614051757818:True:=trivial
theorem tw11746881115452398076:True:=trivial
theorem tw13929672557298343775:True:=trivial
theorem tw17929331726077456614:True:=trivial
theorem tw16606528797871204989:True:=trivial
theorem tw13212065781031092547:True:=trivial
theorem tw9823208108110390159:True:=trivial
theorem tw14771606327258443662:True:=trivial
theorem tw17910768083291792786:True:=trivial
theorem tw10292402894208538596:True:=trivial
theorem tw10403303415561747886:True:=trivial
theorem tw12333755264084022192:True:=trivial
theorem tw14711364564880358610:True:=trivial
theorem tw4011518241703736182:True:=trivial
theorem tw6658486257382632370:True:=trivial
theorem tw10184192921341587396:True:=trivial
theorem tw17336338461034322468:True:=trivial
theorem tw16081551694761407948:True:=trivial
theorem tw9546465799304065389:True:=trivial
theorem tw8101978965178654441:True:=trivial
theorem tw16110638757354155744:True:=trivial
theorem tw8591552992974021173:True:=trivial
theorem tw704099825622956817:True:=trivial
theorem tw3269846588129191151:True:=trivial
theorem tw17061922110628280077:True:=trivial
theorem tw8994512449705292363:True:=trivial
theorem tw888429227464102923:True:=trivial
theorem tw2458739083535773453:True:=trivial
theorem tw1546306995072238451:True:=trivial
theorem tw17500065246487418403:True:=trivial
theorem tw1715645187646015503:True:=trivial
theorem tw5997203449557655369:True:=trivial
theorem tw13005967557810337107:True:=trivial
theorem tw13103415463812714306:True:=trivial
theorem tw11547133229532107157:True:=trivial
theorem tw13390276985234510179:True:=trivial
theorem tw7812693165745687855:True:=trivial
theorem tw15295742399922368573:True:=trivial
theorem tw7526588983631522386:True:=trivial
theorem tw3918510441420877276:True:=trivial
theorem tw17610633870237759311:True:=trivial
theorem tw4780352508609246328:True:=trivial
theorem tw5532147967788017797:True:=trivial
theorem tw8854366757773365517:True:=trivial
theorem tw4062444893268670687:True:=trivial
theorem tw14661039253747183814:True:=trivial
theorem tw11201609233496120820:True:=trivial
theorem tw1611754494947352856:True:=trivial
theorem tw3931679707718858662:True:=trivial
theorem tw2295504108046387931:True:=trivial
theorem tw5759029516403797650:True:=trivial
theorem tw11204296253973048453:True:=trivial
theorem tw14377171970119812366:True:=trivial
theorem tw8412922777025201501:True:=trivial
theorem tw11361266240171118568:True:=trivial
theorem tw12565666938560760724:True:=trivial
theorem tw293066197989160437:True:=trivial
theorem tw9245820886694447967:True:=trivial
theorem tw1429654146182593005:True:=trivial
theorem tw5420795933953772781:True:=trivial
theorem tw18067224159291125631:True:=trivial
theorem tw537973221651404455:True:=trivial
theorem tw12951745085684624876:True:=trivial
theorem tw8781622591915418137:True:=trivial
theorem tw6716896378471922007:True:=trivial
theorem tw8696629279182939911:True:=trivial
theorem tw17095037973006305659:True:=trivial
theorem tw16667740132353985681:True:=trivial
theorem tw17086819587543911592:True:=trivial
theorem tw4273584066717321462:True:=trivial
theorem tw793908032723405463:True:=trivial
theorem tw6303111504484608915:True:=trivial
theorem tw15392818173309710260:True:=trivial
theorem tw12797261491165929482:True:=trivial
theorem tw13093412050351681617:True:=trivial
theorem tw16496942656118623663:True:=trivial
theorem tw3979677814761532423:True:=trivial
theorem tw14388646685655875535:True:=trivial
theorem tw8501634200728695258:True:=trivial
theorem tw3617252617099721141:True:=trivial
theorem tw1893283429136423334:True:=trivial
theorem tw1668386473128541005:True:=trivial
theorem tw14881284592396275991:True:=trivial
theorem tw14695178551448961854:True:=trivial
theorem tw13831237933757673567:True:=trivial
theorem tw10070834554160990848:True:=trivial
theorem tw6722144832871707415:True:=trivial
theorem tw11425252852687125574:True:=trivial
theorem tw17433210633010804518:True:=trivial
theorem tw1078815762800985696:True:=trivial
theorem tw1243411292252972073:True:=trivial
theorem tw931075574706146845:True:=trivial
theorem tw15445698557827973524:True:=trivial
theorem tw15562443966080602020:True:=trivial
theorem tw16711904170586711485:True:=trivial
theorem tw13639412437703672394:True:=trivial
theorem tw15939431050470119355:True:=trivial
theorem tw3424522633495611836:True:=trivial
theorem tw1360927959331297962:True:=trivial
theorem tw17035604480426922880:True:=trivial
theorem tw3909347397380471567:True:=trivial
theorem tw2717390442243323258:True:=trivial
theorem tw5917563944573410129:True:=trivial
theorem tw9241370512573177860:True:=trivial
theorem tw8188832103260270114:True:=trivial
theorem tw11114361264451994819:True:=trivial
theorem tw12730171834991246943:True:=trivial
theorem tw12731129841477671775:True:=trivial
theorem tw10662624882801106605:True:=trivial
theorem tw4941593129083538413:True:=trivial
theorem tw2171840571348411715:True:=trivial
theorem tw16909055986077949421:True:=trivial
theorem tw4445203423785540647:True:=trivial
theorem tw6027587662790802534:True:=trivial
theorem tw7450611438538904522:True:=trivial
theorem tw14846876286526915694:True:=trivial
theorem tw11425746813780049645:True:=trivial
theorem tw17192181679024174279:True:=trivial
theorem tw17024247987139152219:True:=trivial
theorem tw12269482624805282082:True:=trivial
theorem tw8782938619050720096:True:=trivial
theorem tw6143584586836626623:True:=trivial
theorem tw5860952989441855375:True:=trivial
theorem tw10810452363132366292:True:=trivial
theorem tw14115251966680965321:True:=trivial
theorem tw7385382328969616062:True:=trivial
theorem tw8967971999705622670:True:=trivial
theorem tw3491083880987852414:True:=trivial
theorem tw6280984678719121910:True:=trivial
theorem tw6942292747126087855:True:=trivial
theorem tw17540385030525176585:True:=trivial
theorem tw8457465847820464793:True:=trivial
theorem tw207975257520797768:True:=trivial
theorem tw16175187015718812613:True:=trivial
theorem tw13039206325257551627:True:=trivial
theorem tw16079568606319274856:True:=trivial
theorem tw14553267384543630281:True:=trivial
theorem tw16767561074576509663:True:=trivial
theorem tw16195899324599447021:True:=trivial
theorem tw11173598075507979071:True:=trivial
theorem tw3906588668189393319:True:=trivial
theorem tw14926708496745056335:True:=trivial
theorem tw9340288916461430197:True:=trivial
theorem tw6310753927542669881:True:=trivial
theorem tw10672982912600194319:True:=trivial
theorem tw15435275539590747947:True:=trivial
theorem tw14096133196045579133:True:=trivial
theorem tw2859249007544474991:True:=trivial
theorem tw8924377549831510227:True:=trivial
theorem tw14827816946920152162:True:=trivial
theorem tw3133670141720843012:True:=trivial
theorem tw5963777157250062410:True:=trivial
theorem tw14302960843179066300:True:=trivial
theorem tw14713468637052634940:True:=trivial
theorem tw14840072597995381113:True:=trivial
theorem tw15633899219462430639:True:=trivial
theorem tw7910747980090696602:True:=trivial
theorem tw12241140070592748768:True:=trivial
theorem tw16510652313964228918:True:=trivial
theorem tw1687957583056531798:True:=trivial
theorem tw9132291338847839368:True:=trivial
theorem tw16284012505737391548:True:=trivial
theorem tw5752756368209025444:True:=trivial
theorem tw2315602267550736538:True:=trivial
theorem tw8714085434556620635:True:=trivial
theorem tw9153693103484632739:True:=trivial
theorem tw14450365079137316672:True:=trivial
theorem tw8161093783907161965:True:=trivial
theorem tw4083984729684651450:True:=trivial
theorem tw176699522201859380:True:=trivial
theorem tw2216184825156022553:True:=trivial
theorem tw7123472434649516202:True:=trivial
theorem tw10025479843129472003:True:=trivial
theorem tw11768649544424466288:True:=trivial
theorem tw13305037444477869665:True:=trivial
theorem tw3312956459739948305:True:=trivial
theorem tw14217236739979408374:True:=trivial
theorem tw6358544151632744607:True:=trivial
theorem tw17045189390671205202:True:=trivial
theorem tw12171351256322022820:True:=trivial
theorem tw8011003391580635173:True:=trivial
theorem tw8950773184608298843:True:=trivial
theorem tw2358997787662264598:True:=trivial
theorem tw11044683528358754522:True:=trivial
theorem tw3766320202153924725:True:=trivial
theorem tw10784080338600553158:True:=trivial
theorem tw12356273693293931442:True:=trivial
theorem tw1215890251531436581:True:=trivial
theorem tw4138783436874955986:True:=trivial
theorem tw10412006447924206701:True:=trivial
theorem tw15602219145709453871:True:=trivial
theorem tw12888406987072919556:True:=trivial
theorem tw539704709459342593:True:=trivial
theorem tw9010183600552670111:True:=trivial
theorem tw9853133389698916117:True:=trivial
theorem tw6949103523070054161:True:=trivial
theorem tw4156516029511123312:True:=trivial
theorem tw6599439829166222767:True:=trivial
theorem tw850043671328326407:True:=trivial
theorem tw6597639312061729528:True:=trivial
theorem tw14094763206072671756:True:=trivial
theorem tw13327465955275862305:True:=trivial
theorem tw146720117046043321:True:=trivial
theorem tw7946227814551196110:True:=trivial
theorem tw5058716872525224740:True:=trivial
theorem tw9147071409435180903:True:=trivial
theorem tw3643885768698316899:True:=trivial
theorem tw4807911917238020991:True:=trivial
theorem tw1069046498524835462:True:=trivial
theorem tw13689945078040089402:True:=trivial
theorem tw13215228015912725426:True:=trivial
theorem tw1328372529370921402:True:=trivial
theorem tw3486983874666038108:True:=trivial
theorem tw4251854360401489401:True:=trivial
theorem tw3500858472942308595:True:=trivial
theorem tw9275989741437003518:True:=trivial
theorem tw16549567855862133972:True:=trivial
theorem tw10952340063003670390:True:=trivial
theorem tw1846277655995748824:True:=trivial
theorem tw10581903500431253858:True:=trivial
theorem tw1469143898373575524:True:=trivial
theorem tw2613371804484744817:True:=trivial
theorem tw2540513310064780132:True:=trivial
theorem tw4766057580234947032:True:=trivial
theorem tw8610230959693851572:True:=trivial
theorem tw9562271543307263192:True:=trivial
theorem tw15646065561499743027:True:=trivial
theorem tw12329215394656014423:True:=trivial
theorem tw10264033136478923565:True:=trivial
theorem tw5313722288285489941:True:=trivial
theorem tw12302865417441080956:True:=trivial
theorem tw8349476298223571355:True:=trivial
theorem tw4830893020914929039:True:=trivial
theorem tw7413311803295756117:True:=trivial
theorem tw17556966626077549455:True:=trivial
theorem tw1283660871204839419:True:=trivial
theorem tw12677500056351544978:True:=trivial
theorem tw1751724698217762993:True:=trivial
theorem tw5538377511070718290:True:=trivial
theorem tw17486828590681030438:True:=trivial
theorem tw9754514721857740741:True:=trivial
theorem tw5545426263292016093:True:=trivial
theorem tw928176826747605510:True:=trivial
theorem tw12343055481132200189:True:=trivial
theorem tw17307256344199670286:True:=trivial
theorem tw544212796870557784:True:=trivial
theorem tw8956216699369443827:True:=trivial
theorem tw12366156375942667808:True:=trivial
theorem tw3214447187818487571:True:=trivial
theorem tw7615221577640267772:True:=trivial
theorem tw17304889279445730238:True:=trivial
theorem tw1170109603230148700:True:=trivial
theorem tw11029022858420036699:True:=trivial
theorem tw4838058150622988906:True:=trivial
theorem tw15204407867085102511:True:=trivial
theorem tw10416446390399418522:True:=trivial
theorem tw15704850669715298010:True:=trivial
theorem tw489457566759699070:True:=trivial
theorem tw10153087409916189493:True:=trivial
theorem tw827033245843563896:True:=trivial
theorem tw4390410132439765907:True:=trivial
theorem tw16521307014605653700:True:=trivial
theorem tw11880708647702596857:True:=trivial
theorem tw9637323328443623846:True:=trivial
theorem tw14122655481976555277:True:=trivial
theorem tw14292096827473844415:True:=trivial
theorem tw6151516223028576784:True:=trivial
theorem tw13751661487961840917:True:=trivial
theorem tw6792396644124900136:True:=trivial
theorem tw18359936126903949754:True:=trivial
theorem tw10036444113144699242:True:=trivial
theorem tw4951757881950761013:True:=trivial
theorem tw7529023350688331836:True:=trivial
theorem tw17926249070224686856:True:=trivial
theorem tw18340521349136027568:True:=trivial
theorem tw3912199108236182256:True:=trivial
theorem tw15813007094919103319:True:=trivial
theorem tw17254781548815648699:True:=trivial
theorem tw5441713307440330333:True:=trivial
theorem tw7144616127178888114:True:=trivial
theorem tw7529273887122519482:True:=trivial
theorem tw5969114166158192261:True:=trivial
theorem tw11513835671879015048:True:=trivial
theorem tw938012179628719443:True:=trivial
theorem tw11117540638136445046:True:=trivial
theorem tw2945010505055554559:True:=trivial
theorem tw15706198365696345701:True:=trivial
theorem tw12997529514594308285:True:=trivial
theorem tw1602888262888173508:True:=trivial
theorem tw2160801270850448571:True:=trivial
theorem tw14731654599095852707:True:=trivial
theorem tw14469785979714930135:True:=trivial
theorem tw8408816511064722119:True:=trivial
theorem tw190036462701711049:True:=trivial
theorem tw4080823019850103067:True:=trivial
theorem tw12781242377050958298:True:=trivial
theorem tw18407843456324763253:True:=trivial
theorem tw15486614248589521032:True:=trivial
theorem tw12929145048255113654:True:=trivial
theorem tw3983591710486079403:True:=trivial
theorem tw1033416935707848940:True:=trivial
theorem tw8147742470869262257:True:=trivial
theorem tw17118390083056981609:True:=trivial
theorem tw11748474431797453898:True:=trivial
theorem tw16115586825295421773:True:=trivial
theorem tw12955030794629704029:True:=trivial
theorem tw8692826469631614914:True:=trivial
theorem tw16077741538914591935:True:=trivial
theorem tw3900277775092661588:True:=trivial
theorem tw11860727629855828730:True:=trivial
theorem tw9529647266579548735:True:=trivial
theorem tw2079023209207917771:True:=trivial
theorem tw16583655796365177018:True:=trivial
theorem tw15156254520842304332:True:=trivial
theorem tw14203557565034769859:True:=trivial
theorem tw7022978156474277738:True:=trivial
theorem tw12156370572029775881:True:=trivial
theorem tw998108282070068801:True:=trivial
theorem tw4966359189080782560:True:=trivial
theorem tw16142927484450724451:True:=trivial
theorem tw7866031810505458773:True:=trivial
theorem tw5100725933627634153:True:=trivial
theorem tw9220919209683990440:True:=trivial
theorem tw16929138870511542777:True:=trivial
theorem tw13062911848137262544:True:=trivial
theorem tw9884651380238663930:True:=trivial
theorem tw2414141858358780328:True:=trivial
theorem tw8109847410994427010:True:=trivial
theorem tw12058255746933273267:True:=trivial
theorem tw6824648163185887566:True:=trivial
theorem tw4765592074856317672:True:=trivial
theorem tw1261338180287455234:True:=trivial
theorem tw13008779136900335075:True:=trivial
theorem tw11443964811401279438:True:=trivial
theorem tw4015031393911423426:True:=trivial
theorem tw6769522214802892572:True:=trivial
theorem tw17723215477312383338:True:=trivial
theorem tw10033961584980151457:True:=trivial
theorem tw270809959197112162:True:=trivial
theorem tw16875318591569516433:True:=trivial
theorem tw11697962372856324417:True:=trivial
theorem tw3277228550511263469:True:=trivial
theorem tw8556449809804056330:True:=trivial
theorem tw18006205404954076327:True:=trivial
theorem tw18283483314919226387:True:=trivial
theorem tw16684092178795899285:True:=trivial
theorem tw10194621695411652907:True:=trivial
theorem tw13588638711512385328:True:=trivial
theorem tw4189879168512768457:True:=trivial
theorem tw5374016140445124730:True:=trivial
theorem tw7277482554084056163:True:=trivial
theorem tw12237212218415837005:True:=trivial
theorem tw5478184868365414938:True:=trivial
theorem tw8421843786141295719:True:=trivial
theorem tw1506770620023849591:True:=trivial
theorem tw8171559271166077800:True:=trivial
theorem tw8212489448462404050:True:=trivial
theorem tw15942970665479191616:True:=trivial
end PySem.W.Fast
open PySem PySem.W PyProof.Rows
set_option maxRecDepth 100000 in
set_option maxHeartbeats 0 in
theorem PySem.Challenge.cw_tenreckon_k11_settled_holds : PySem.Challenge.rw_tenreckon_k11_settled.Holds := by
 w_on; o_law; k_head; (case hw => w_witness2)
 k_fill
 refine TR.walk (l := PySem.Challenge.rw_tenreckon_k11_settled) (cc := 795) (P0 := 793) rfl rfl (fun w h Y => ⟨PySem.W.km_in_of Y, PySem.W.codeHd_of_K (PySem.W.km_in_of Y) (by kernel_rfl), PySem.W.km_tabs_of Y _ (by k_mem)⟩) (fun _ => by kernel_rfl) ?F
 case F =>
   intro w mg fa h KX G hmg
   refine' TR.all_mk (cc := 795) (P0 := 793) KX G hmg ?ZA8x ?ZA9z ?ZA8p ?ZB1g ?ZD5c ?ZD6y ?ZD8q ?ZD6x ?ZC3n ?ZC2m ?ZC4q ?ZC2w ?ZD4g ?ZD7h ?ZD3g ?ZD9a ?ZU9e ?ZV9a ?ZV5c ?ZU8v ?ZJ3s ?ZJ0d ?ZG9e ?ZJ4n ?ZJ1y ?ZG7y ?ZG9w ?ZG8a ?ZD2w ?ZD2u ?ZD7g ?ZD2g ?ZV3x ?ZV1p ?ZU8n ?ZV4f ?ZB6k ?ZB6r ?ZB8w ?ZB8c ?ZB7g ?ZB6x ?ZB6f ?ZB6c ?ZC4n ?ZC3c ?ZC2d ?ZC4m ?ZB6p ?ZB7q ?ZB8a ?ZB7m ?ZA8r ?ZB0q ?ZA9s ?ZB0s ?ZC4v ?ZC2k ?ZC3e ?ZC3d ?ZC4b ?ZC3u ?ZC4k ?ZC4p ?ZD5g ?ZD3u ?ZD4f ?ZD6a ?ZD2r ?ZD3m ?ZD7b ?ZD5r ?ZB7f ?ZB8u ?ZB7b ?ZB6m ?ZB6z ?ZB6d ?ZB6w ?ZB8x ?ZD3w ?ZD6k ?ZD2x ?ZD4j ?ZB8q ?ZB7z ?ZB8m ?ZB6e ?ZD3z ?ZD3r ?ZD6b ?ZD5e ?ZD6r ?ZD6z ?ZD8p ?ZD6s ?ZJ0v ?ZJ5f ?ZJ3e ?ZJ2k ?ZD7r ?ZD4e ?ZD9n ?ZD8z ?ZC2p ?ZC2f ?ZC4y ?ZC2c ?ZG9r ?ZJ4h ?ZJ3y ?ZJ2c ?ZD5j ?ZD6c ?ZD9q ?ZD4s ?ZC2r ?ZC4w ?ZC3t ?ZC4e ?ZG9b ?ZJ3m ?ZG8p ?ZJ5m ?ZC4r ?ZC2q ?ZC3p ?ZC3s ?ZJ5a ?ZG9y ?ZJ4p ?ZG9n ?ZD7w ?ZD4q ?ZD5d ?ZD8f ?ZB3g ?ZB3b ?ZB4h ?ZB4c ?ZC2t ?ZC4s ?ZC4x ?ZC4d ?ZJ2s ?ZJ5g ?ZG8n ?ZJ1r ?ZC3q ?ZC2u ?ZC4a ?ZC4u ?ZV9z ?ZV2r ?ZV5u ?ZV5k ?ZG9h ?ZJ1c ?ZG8c ?ZG7v ?ZJ7j ?ZV9e ?ZV8h ?ZV4x ?ZA6h ?ZV2y ?ZJ2p ?ZV1c ?ZJ3j ?ZD9t ?ZG8s ?ZU9q ?ZD7s ?ZV8r ?ZV2u ?ZV7e ?ZV4d ?ZV2n ?ZV2j ?ZJ2g ?ZB0x ?ZB3t ?ZV8w ?ZC3y ?ZC3v ?ZV5h ?ZA5n ?ZB4e ?ZA9u ?ZB4f ?ZA8y ?ZA6u ?ZB0z ?ZA9t ?ZA7k ?ZA8q ?ZA7g ?ZA4c ?ZA5s ?ZB3q ?ZA9w ?ZB3n ?ZA9c ?ZA7n ?ZA8t ?ZB0v ?ZA7s ?ZA9g ?ZA6x ?ZA4b ?ZA7a ?ZA5w ?ZA4a ?ZA5m ?ZA4d ?ZA3e ?ZA4e ?ZB0f ?ZA7r ?ZA9a ?ZA7m ?ZA3z ?ZA5y ?ZA1v ?ZA0w ?ZA1u ?ZA0x ?ZA0n ?ZA0z ?Zsn ?Ztk ?ZZ6v ?ZZ2z ?ZV4k ?ZV1k ?ZV2x ?ZV8v ?ZV1v ?ZV3c ?ZV8m ?ZV1q ?ZV6y ?ZV1a ?ZB7t ?ZB7h ?ZB6g ?ZB8e ?ZB1w ?ZZ0u ?ZU8t ?ZV8b ?ZV1y ?ZV5j ?ZV0s ?ZV6s ?ZV3a ?ZV1b ?ZU9t ?ZV8d ?ZB7y ?ZB6h ?ZB6a ?ZB8t ?ZB1t ?ZZ2f ?ZV2z ?ZU8h ?ZV3z ?ZU9h ?ZV7k ?ZV9t ?ZV0e ?ZV6d ?ZV9r ?ZV9u ?ZB8z ?ZB6y ?ZB8v ?ZB5y ?ZB1z ?ZZ0t ?ZU9b ?ZV3w ?ZV2k ?ZV2b ?ZV4m ?ZV6r ?ZV7u ?ZY0b ?ZV0j ?ZV6u ?ZB7j ?ZB6j ?ZB8n ?ZB7k ?ZB1u ?ZZ1w ?ZV1f ?ZV3u ?ZV7n ?ZV3r ?ZV9v ?ZV3g ?ZV1t ?ZV6c ?ZV4r ?ZV2c ?ZB8y ?ZB6s ?ZB8b ?ZB6n ?ZB1v ?ZZ2q ?ZV1r ?ZV5q ?ZV0m ?ZV6z ?ZU9m ?ZV1h ?ZV0n ?ZU9p ?ZV5s ?ZY0c ?ZB7v ?ZB7n ?ZB8j ?ZB8d ?ZB1q ?ZZ0k ?ZV8e ?ZV0u ?ZV3p ?ZV8q ?ZY0a ?ZV0w ?ZU9z ?ZV2a ?ZU9c ?ZU9d ?ZB8h ?ZB6b ?ZB7u ?ZB7p ?ZB1y ?ZZ1s ?ZV8y ?ZV0y ?ZV2p ?ZV5x ?ZV6n ?ZV9y ?ZU9a ?ZU8k ?ZV1x ?ZV8j ?ZB7x ?ZB6q ?ZB7c ?ZB7s ?ZB1x ?ZZ0p ?ZU8j ?ZV0f ?ZU8s ?ZV9c ?ZV4p ?ZV5n ?ZU9n ?ZV6k ?ZB8k ?ZB7d ?ZA5u ?ZB4a ?ZV9k ?ZV1g ?ZV1u ?ZV8x ?ZV6a ?ZD2c ?ZA6s ?ZA6z ?ZA7e ?ZA5v ?ZA1z ?ZB0k ?ZB0r ?ZA8v ?ZA9r ?ZA3t ?ZA6b ?ZA7f ?ZA6p ?ZA5q ?ZA2d ?ZA9p ?ZA9v ?ZA9k ?ZA8s ?ZA3v ?ZA6c ?ZA6r ?ZA5k ?ZA7b ?ZA2f ?ZB1d ?ZB0u ?ZB0h ?ZA8w ?ZA3w ?ZA6m ?ZA7h ?ZA7j ?ZA6t ?ZA2b ?ZB0e ?ZA9e ?ZB0c ?ZA8u ?ZA3p ?ZA5t ?ZA7d ?ZA6a ?ZA7p ?ZA2e ?ZB1a ?ZA9j ?ZA9q ?ZB1b ?ZA3u ?ZA7c ?ZA6g ?ZA7q ?ZA6v ?ZA2a ?ZB0m ?ZA9b ?ZA9m ?ZB0g ?ZA3r ?ZA5p ?ZA6f ?ZA6n ?ZA6j ?ZA2g ?ZA9y ?ZA9f ?ZB0j ?ZB0w ?ZA3n ?ZA6w ?ZA6q ?ZA5z ?ZA6e ?ZA2c ?ZB0y ?ZA9x ?ZA8n ?ZB0d ?ZA3x ?ZZ1c ?ZV3h ?ZU9v ?ZV9j ?ZV9n ?ZV4v ?ZV6g ?ZB5z ?ZB7a ?ZB3z ?ZB7e ?ZB3c ?ZA6d ?ZU9f ?ZV8z ?ZV2m ?ZV6v ?ZV4g ?ZV0q ?ZB3u ?ZB3v ?ZB4b ?ZB3m ?ZA6y ?ZB1e ?ZB0t ?ZB0n ?ZB0b ?ZA3q ?ZC3f ?ZC3r ?ZC4c ?ZC3a ?ZB5k ?ZB0p ?ZA8z ?ZB1f ?ZA9n ?ZA3s ?ZB3h ?ZB3p ?ZB3r ?ZB3d ?ZA6k ?ZZ1b ?ZV9x ?ZV4w ?ZV0v ?ZV6p ?ZV4n ?ZV7t ?ZV5a ?ZV7h ?ZC3z ?ZB0a ?ZB3w ?ZV3m ?ZV9w ?ZV9b ?ZV0r ?ZU9s ?ZG3j ?ZB4g ?ZB4d ?ZB3j ?ZB3e ?ZA5r ?ZD4b ?ZD9h ?ZD5v ?ZD9b ?ZB9z ?ZZ1k ?ZV2h ?ZZ3b ?ZZ0y ?ZY4e ?ZZ1j ?Zcty ?Zccl ?Zcex ?Zsub3 ?Zxga3 ?Zxgh3 ?Zxca3 ?Zxob3 ?Zxbe3 ?Zxcl3 ?ZZ6m ?ZZ7x ?ZZ1r ?Zhv3 ?ZlT ?ZlN ?ZalN ?ZniT ?ZlT1 ?ZsaT ?Znsg3 ?ZY6k ?ZZ0j ?ZZ2u ?ZfcT ?ZkTR ?Zq1 ?Zq2 ?Za_S ?ZlS ?ZB3x ?ZB3f ?ZB3k ?ZB3y ?ZA5x ?ZB8r ?ZB8p ?ZB6v ?ZB8s ?ZB1r ?Zhcode
   case ZA8x|ZA9z|ZA8p|ZB1g|ZD5c|ZD6y|ZD8q|ZD6x|ZC3n|ZC2m|ZC4q|ZC2w|ZD4g|ZD7h|ZD3g|ZD9a|ZU9e|ZV9a|ZV5c|ZU8v|ZJ3s|ZJ0d|ZG9e|ZJ4n|ZJ1y|ZG7y|ZG9w|ZG8a|ZD2w|ZD2u|ZD7g|ZD2g|ZV3x|ZV1p|ZU8n|ZV4f|ZB6k|ZB6r|ZB8w|ZB8c|ZB7g|ZB6x|ZB6f|ZB6c|ZC4n|ZC3c|ZC2d|ZC4m|ZB6p|ZB7q|ZB8a|ZB7m|ZA8r|ZB0q|ZA9s|ZB0s|ZC4v|ZC2k|ZC3e|ZC3d => k_is
   case ZC4b|ZC3u|ZC4k|ZC4p|ZD5g|ZD3u|ZD4f|ZD6a|ZD2r|ZD3m|ZD7b|ZD5r|ZB7f|ZB8u|ZB7b|ZB6m|ZB6z|ZB6d|ZB6w|ZB8x|ZD3w|ZD6k|ZD2x|ZD4j|ZB8q|ZB7z|ZB8m|ZB6e|ZD3z|ZD3r|ZD6b|ZD5e|ZD6r|ZD6z|ZD8p|ZD6s|ZJ0v|ZJ5f|ZJ3e|ZJ2k|ZD7r|ZD4e|ZD9n|ZD8z|ZC2p|ZC2f|ZC4y|ZC2c|ZG9r|ZJ4h|ZJ3y|ZJ2c|ZD5j|ZD6c|ZD9q|ZD4s|ZC2r|ZC4w|ZC3t|ZC4e => k_is
   case ZG9b|ZJ3m|ZG8p|ZJ5m|ZC4r|ZC2q|ZC3p|ZC3s|ZJ5a|ZG9y|ZJ4p|ZG9n|ZD7w|ZD4q|ZD5d|ZD8f|ZB3g|ZB3b|ZB4h|ZB4c|ZC2t|ZC4s|ZC4x|ZC4d|ZJ2s|ZJ5g|ZG8n|ZJ1r|ZC3q|ZC2u|ZC4a|ZC4u|ZV9z|ZV2r|ZV5u|ZV5k|ZG9h|ZJ1c|ZG8c|ZG7v|ZJ7j|ZV9e|ZV8h|ZV4x|ZA6h|ZV2y|ZJ2p|ZV1c|ZJ3j|ZD9t|ZG8s|ZU9q|ZD7s|ZV8r|ZV2u|ZV7e|ZV4d|ZV2n|ZV2j|ZJ2g => k_is
   case ZB0x|ZB3t|ZV8w|ZC3y|ZC3v|ZV5h|ZA5n => k_is
   case ZB4e|ZA9u|ZB4f|ZA8y|ZA6u|ZB0z|ZA9t|ZA7k|ZA8q|ZA7g|ZA4c|ZA5s|ZB3q|ZA9w|ZB3n|ZA9c|ZA7n|ZA8t|ZB0v|ZA7s|ZA9g|ZA6x|ZA4b|ZA7a|ZA5w|ZA4a|ZA5m|ZA4d|ZA3e|ZA4e|ZB0f|ZA7r|ZA9a|ZA7m|ZA3z|ZA5y|ZA1v|ZA0w|ZA1u|ZA0x|ZA0n|ZA0z => kit_is
   case Zsn|Ztk|ZZ6v|ZZ2z|ZV4k|ZV1k|ZV2x|ZV8v|ZV1v|ZV3c|ZV8m|ZV1q|ZV6y => k_is
   case ZV1a => kit_is
   case ZB7t|ZB7h|ZB6g|ZB8e|ZB1w|ZZ0u|ZU8t|ZV8b|ZV1y|ZV5j|ZV0s|ZV6s|ZV3a|ZV1b|ZU9t => k_is
   case ZV8d => kit_is
   case ZB7y|ZB6h|ZB6a|ZB8t|ZB1t|ZZ2f|ZV2z|ZU8h|ZV3z|ZU9h|ZV7k|ZV9t|ZV0e|ZV6d|ZV9r => k_is
   case ZV9u => kit_is
   case ZB8z|ZB6y|ZB8v|ZB5y|ZB1z|ZZ0t|ZU9b|ZV3w|ZV2k|ZV2b|ZV4m|ZV6r|ZV7u|ZY0b|ZV0j => k_is
   case ZV6u => kit_is
   case ZB7j|ZB6j|ZB8n|ZB7k|ZB1u|ZZ1w|ZV1f|ZV3u|ZV7n|ZV3r|ZV9v|ZV3g|ZV1t|ZV6c|ZV4r => k_is
   case ZV2c => kit_is
   case ZB8y|ZB6s|ZB8b|ZB6n|ZB1v|ZZ2q|ZV1r|ZV5q|ZV0m|ZV6z|ZU9m|ZV1h|ZV0n|ZU9p|ZV5s => k_is
   case ZY0c => kit_is
   case ZB7v|ZB7n|ZB8j|ZB8d|ZB1q|ZZ0k|ZV8e|ZV0u|ZV3p|ZV8q|ZY0a|ZV0w|ZU9z|ZV2a|ZU9c => k_is
   case ZU9d => kit_is
   case ZB8h|ZB6b|ZB7u|ZB7p|ZB1y|ZZ1s|ZV8y|ZV0y|ZV2p|ZV5x|ZV6n|ZV9y|ZU9a|ZU8k|ZV1x => k_is
   case ZV8j => kit_is
   case ZB7x|ZB6q|ZB7c|ZB7s|ZB1x|ZZ0p|ZU8j|ZV0f|ZU8s|ZV9c|ZV4p|ZV5n|ZU9n|ZV6k|ZB8k|ZB7d|ZA5u|ZB4a|ZV9k|ZV1g|ZV1u|ZV8x|ZV6a => k_is
   case ZD2c => kit_is
   case ZA6s|ZA6z|ZA7e|ZA5v|ZA1z|ZB0k|ZB0r|ZA8v|ZA9r|ZA3t|ZA6b|ZA7f|ZA6p|ZA5q|ZA2d|ZA9p|ZA9v|ZA9k|ZA8s|ZA3v|ZA6c|ZA6r|ZA5k|ZA7b|ZA2f|ZB1d|ZB0u|ZB0h|ZA8w|ZA3w|ZA6m|ZA7h|ZA7j|ZA6t|ZA2b|ZB0e|ZA9e|ZB0c|ZA8u|ZA3p|ZA5t|ZA7d|ZA6a|ZA7p|ZA2e|ZB1a|ZA9j|ZA9q|ZB1b|ZA3u|ZA7c|ZA6g|ZA7q|ZA6v|ZA2a|ZB0m|ZA9b|ZA9m|ZB0g|ZA3r => k_is
   case ZA5p|ZA6f|ZA6n|ZA6j|ZA2g|ZA9y|ZA9f|ZB0j|ZB0w|ZA3n|ZA6w|ZA6q|ZA5z|ZA6e|ZA2c|ZB0y|ZA9x|ZA8n|ZB0d|ZA3x|ZZ1c|ZV3h|ZU9v|ZV9j|ZV9n|ZV4v|ZV6g|ZB5z|ZB7a|ZB3z|ZB7e|ZB3c|ZA6d|ZU9f|ZV8z|ZV2m|ZV6v|ZV4g|ZV0q|ZB3u|ZB3v|ZB4b|ZB3m|ZA6y|ZB1e|ZB0t|ZB0n|ZB0b|ZA3q|ZC3f|ZC3r|ZC4c|ZC3a|ZB5k|ZB0p|ZA8z|ZB1f|ZA9n|ZA3s|ZB3h => k_is
   case ZB3p|ZB3r|ZB3d|ZA6k|ZZ1b|ZV9x|ZV4w|ZV0v|ZV6p|ZV4n|ZV7t|ZV5a|ZV7h|ZC3z|ZB0a|ZB3w|ZV3m|ZV9w|ZV9b|ZV0r|ZU9s|ZG3j|ZB4g|ZB4d|ZB3j|ZB3e|ZA5r|ZD4b|ZD9h|ZD5v|ZD9b|ZB9z|ZZ1k => k_is
   case ZV2h => kit_is
   case ZZ3b|ZZ0y|ZY4e|ZZ1j|Zcty|Zccl|Zcex|Zsub3|Zxga3|Zxgh3|Zxca3|Zxob3|Zxbe3|Zxcl3 => k_is
   case ZZ6m|ZZ7x|ZZ1r|Zhv3 => kit_is
   case ZlT|ZlN => k_is
   case ZalN => simp
   case ZniT|ZlT1|ZsaT|Znsg3|ZY6k|ZZ0j|ZZ2u => k_is
   case ZfcT => rfl
   case ZkTR => kit_is
   case Zq1|Zq2 => k_exc
   case Za_S|ZlS|ZB3x|ZB3f|ZB3k|ZB3y|ZA5x|ZB8r|ZB8p|ZB6v|ZB8s|ZB1r => k_is
   case Zhcode => rfl

