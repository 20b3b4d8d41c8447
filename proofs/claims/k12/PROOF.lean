import PyProof.Rows.All
import Wide.All
import OpenK.AllK
import Wide.FinOn
import Lean
import PyProof.EqAt
import PyProof.EqKinds
import PyProof.TupleCall
import PyProof.Rows.Catch
import PyProof.Rows.TupIter
import PyProof.TupleIter
import PyProof.Seq
import PyProof.ExcInit
import PyProof.ExcClass2
import KE.KIntText
import PyProof.StrOps2
import PyProof.ConsumeWalk
import PyProof.Rows.RuleM_int
import PyProof.ZipIter
import PyProof.EnumMake
import KE.KLam
import PyProof.StrWalks
import PyProof.Rows.TupAssign
import PyProof.Rows.Range3
import PyProof.DictWalks
import PyProof.DictUpdate
import PyProof.P3In
import PySem.Challenge.RW_tenreckon_k12_noughts_and_rounded
set_option Elab.async false
set_option linter.all false
set_option maxRecDepth 100000
namespace L2
open PySem PySem.Spec PyProof.Rows
noncomputable abbrev Key:=Sum Int Str
noncomputable def Z1s:Key ->Value ->Bool
 | .inl k,v=>Value.isInt k v
 | .inr x,v=>Value.isStrOf x v
noncomputable def keyH (w:World):Key ->Int
 | .inl k=>hashInt k
 | .inr x=>hashStr w x
theorem Y1:∀{k:Key} {v:Value},Z1s k v=true ->(∃i t,k=Sum.inl i/\v=Value.int i t)\/(∃x t,k=Sum.inr x/\v=Value.str x t)
 | .inl i,v,h=>by
   obtain⟨t,e⟩:=Value.isInt_shape (k:=i) (v:=v) h
   exact .inl ⟨i,t,rfl,e⟩
 | .inr x,v,h=>by
   obtain⟨t,e⟩:=Value.isStrOf_shape (x:=x) (v:=v) h
   exact .inr ⟨x,t,rfl,e⟩
theorem Z2m(a b:Int):decide ((Sum.inl a:Key)=Sum.inl b)=(a==b):=by
 by_cases e:a=b
 . subst e;simp
 . have h:¬(Sum.inl a:Key)=Sum.inl b:=fun q=>e (Sum.inl.inj q)
   rw[decide_eq_false h]
   exact(beq_eq_false_iff_ne.mpr e).symm
theorem Z2y(a b:Str):decide ((Sum.inr a:Key)=Sum.inr b)=decide (a=b):=by
 by_cases e:a=b
 . subst e;simp
 . have h:¬(Sum.inr a:Key)=Sum.inr b:=fun q=>e (Sum.inr.inj q)
   rw[decide_eq_false h,decide_eq_false e]
theorem Z4q(a:Int)(b:Str):decide ((Sum.inl a:Key)=Sum.inr b)=false:=decide_eq_false (fun q=>nomatch q)
theorem Z4p(a:Str)(b:Int):decide ((Sum.inr a:Key)=Sum.inl b)=false:=decide_eq_false (fun q=>nomatch q)
noncomputable def J8h (prog:Program) (w:World):PySem.KeyKind prog w Key where
 is:=Z1s
 hash:=keyH w
 inj :=fun v a b ha hb=>by
   rcases Y1 ha with⟨i,t,rfl,rfl⟩|⟨x,t,rfl,rfl⟩
   . rcases Y1 hb with⟨j,u,rfl,e⟩|⟨y,u,rfl,e⟩
     . injection e with e1 _;rw[e1]
     . exact nomatch e
   . rcases Y1 hb with⟨j,u,rfl,e⟩|⟨y,u,rfl,e⟩
     . exact nomatch e
     . injection e with e1 _;rw[e1]
 byValue:=fun k v h=>by
   rcases Y1 h with⟨i,t,rfl,rfl⟩|⟨x,t,rfl,rfl⟩<;>rfl
 pyHash:=fun hv h=>by
   rcases Y1 hv with⟨i,t,rfl,rfl⟩|⟨x,t,rfl,rfl⟩
   . exact wpAny_pyHash_int h
   . exact wpAny_pyHash_str h
 eqBool:=fun hu hv h=>by
   rcases Y1 hu with⟨i,t,rfl,rfl⟩|⟨x,t,rfl,rfl⟩
   . rcases Y1 hv with⟨j,u,rfl,rfl⟩|⟨y,u,rfl,rfl⟩
     . rw[Z2m] at h;exact wpAny_eqBool_int h
     . rw[Z4q] at h;exact SeqAt.EqAt.int_str i t y u _ _ _ _ h
   . rcases Y1 hv with⟨j,u,rfl,rfl⟩|⟨y,u,rfl,rfl⟩
     . rw[Z4p] at h;exact SeqAt.EqAt.str_int x t j u _ _ _ _ h
     . rw[Z2y] at h;exact wpAny_eqBool_str h
 «strs» := fun k x t v h => by
   rcases Y1 h with⟨i,u,rfl,e⟩|⟨y,u,rfl,e⟩
   . exact nomatch e
   . injection e with e1 _
     subst e1
     cases v<;>rfl
inductive V where
 |non|bl (b:Bool)|int (i:Int)|str (x:Str)|byt (b:Array UInt8)|flt (b:UInt64)|ref (a:Addr)|ty (n:String)
 deriving DecidableEq
noncomputable def RelV:V ->Value ->Prop
 | .non,u=>u=Value.none
 | .bl b,u=>u=Value.bool b
 | .int i,u=>∃t,u=Value.int i t
 | .str x,u=>∃t,u=Value.str x t
 | .byt b,u=>∃t,u=Value.bytes b t
 | .flt b,u=>∃t,u=Value.float b t
 | .ref a,u=>u=Value.ref a
 | .ty n,u=>u=Value.type n
noncomputable abbrev Vals:List V ->List Value ->Prop:=Paired RelV
theorem Vals.length{xs:List V}{us:List Value}(r:Vals xs us):xs.length=us.length:=Paired.length r
theorem Vals.get:∀{xs:List V} {us:List Value} {i:Nat} {x:V},Vals xs us ->xs[i]?=some x ->∃u,us[i]?=some u/\RelV x u
 |_,_,_,_,.nil,e=>by simp at e
 |_,_,0,_,.cons r _,e=>by simp at e;subst e;exact⟨_,rfl,r⟩
 | _,_,i+1,x,.cons _ t,e=>by
   obtain⟨u,h1,h2⟩:=Vals.get (i:=i) (x:=x) t (by simpa using e)
   exact⟨u,by simpa using h1,h2⟩
theorem Vals.append:∀{xs ys:List V} {us ws:List Value},Vals xs us ->Vals ys ws ->Vals (xs++ys) (us++ws)
 |_,_,_,_,.nil,s=>s
 |_,_,_,_,.cons r t,s=> .cons r (Vals.append t s)
theorem Vals.take:∀{xs:List V} {us:List Value} (n:Nat),Vals xs us ->Vals (xs.take n) (us.take n)
 |_,_,0,_=> .nil
 |_,_,_+1,.nil=> .nil
 |_,_,n+1,.cons r t=> .cons r (Vals.take n t)
theorem Vals.drop:∀{xs:List V} {us:List Value} (n:Nat),Vals xs us ->Vals (xs.drop n) (us.drop n)
 |_,_,0,r=>r
 |_,_,_+1,.nil=> .nil
 |_,_,n+1,.cons _ t=>Vals.drop n t
noncomputable def RelO:Option V ->Option Value ->Prop
 |some v,some u=>RelV v u
 |none,none=>True
 |_,_=>False
noncomputable def KV {κ:Type}:List (κ×V) ->List (κ×Value) ->Prop:=Paired fun(p:κ×V) (q:κ×Value)=>p.1=q.1/\RelV p.2 q.2
noncomputable def kV:Key ->V
 | .inl i=> .int i
 | .inr x=> .str x
inductive HO where
 |lst (xs:List V)
 |tup (xs:List V)
 |dK (kvs:List (Key×V))|dT (kvs:List (List Key×V))
 |set (S:Int ->Bool) (n:Nat)
 |ins (C dx:Addr) (fs:List (Str×V))
 |own (x:Addr)
 |xd (fs:List (Str×V))
 |met (f x:Addr)
 |rng (lo hi:Int)
 |frz (o:Obj) (u:HO)
 |tbl (ps:Array Value)
 |ext (φ:Heap ->Prop)
noncomputable abbrev Hp:=Addr ->Option HO
noncomputable def upd (H:Hp) (a:Addr) (o:HO):Hp:=fun b=>if b=a then some o else H b
theorem A9{H:Hp}{a:Addr}{o:HO}:upd H a o a=some o:=by unfold upd;rw[if_pos rfl]
theorem D3{H:Hp}{a b:Addr}{o:HO}(h:b≠a):upd H a o b=H b:=by unfold upd;rw[if_neg h]
theorem Y6n{H:Hp}{a:Addr}{o u:HO}:upd (upd H a o) a u=upd H a u:=by
 funext b;unfold upd;split<;>rfl
theorem A4r{H:Hp}{a b:Addr}{o u:HO}(h:H a=some o)(h':H b=some u)(d:o≠u):a≠b:=by
 intro e;subst e;rw[h] at h';exact d (Option.some.inj h')
theorem G2{H:Hp}{a b:Addr}{o:HO}(h:H a=some o)(h':H b=none):a≠b:=by
 intro e;subst e;rw[h] at h';cases h'
section
variable(P:Program)(w:World)
noncomputable def ObjOk (H:Hp) (h:Heap) (a:Addr):HO ->Prop
 | .lst xs=>xs.length<=sizeLine/\∃(its:List Value) (n:Nat),Vals xs its/\h.get? a=some {cls:= .type "list",data:= .seq its.toArray n}
 | .tup xs=>xs.length<=sizeLine/\∃its:List Value,Vals xs its/\IsTup h a its.toArray
 | .dK kvs=>kvs.length<=sizeLine/\(a==sysModules)=false/\∃vs,KV kvs vs/\h.DictOf (J8h P w) a vs
 | .dT kvs=>kvs.length<=sizeLine/\(a==sysModules)=false/\∃xs:List (List Key×Addr×Value),
     Paired (fun(p:List Key×V) (q:List Key×Addr×Value)=>p.1=q.1/\H q.2.1=some (.tup (p.1.map kV))/\RelV p.2 q.2.2) kvs xs/\
     ∃o es ep,h.get? a=some o/\o.ExactDict/\o.data= .dict es ep/\es.toList=xs.map (entryOfKey (tupleKind (J8h P w)))/\(xs.map (·.1)).Nodup
 | .set S n=>h.SetOf (intKind P w) a S n
 | .ins C dx fs=>H dx=some (.own a)/\fs.length<=1000/\dx≠a/\h.get? a=some (PySem.W.instObj C dx)/\
     ∃mA,h.Ns1 dx mA/\(∀f,RelO (fs.lookup f) (mA f))/\PySem.Within mA (fs.map (·.1))
 | .own _=>∃o,h.get? a=some o
 | .xd fs=>∃mA,h.Ns1 a mA/\∀f,RelO (fs.lookup f) (mA f)
 | .rng lo hi=>∃t u v,h.get? a=some {cls:= .type "range",data:= .fields #[.int lo t,.int hi u,.int 1 v]}
 | .frz o u=>h.get? a=some o/\ObjOk H h a u
 | .tbl ps=>h.get? a=some {cls:= .none,data:= .fields ps}
 | .met f x=>h.get? a=some (PySem.W.methodObj (.ref f) (.ref x))
 | .ext φ=>φ h/\(∃o,h.get? a=some o)/\∀h1 h2:Heap,φ h1 ->(∀o,h1.get? a=some o ->h2.get? a=some o) ->φ h2
noncomputable def HOk (H:Hp) (h:Heap):Prop:=∀a o,H a=some o ->ObjOk P w H h a o
end
section
variable{P:Program}{w:World}{H H':Hp}{h h':Heap}{a:Addr}{o:HO}
theorem ObjOk.lt(x:ObjOk P w H h a o):a<h.objs.size:=by
 cases o with
 |lst xs=>obtain⟨_,_,_,_,e⟩:=x;exact Heap.lt_size e
 |tup xs=>obtain⟨_,_,_,p⟩:=x;exact p.lt
 |dK kvs=>obtain⟨_,_,_,_,o,_,_,e,_⟩:=x;exact Heap.lt_size e
 |dT kvs=>obtain⟨_,_,_,_,o,_,_,e,_⟩:=x;exact Heap.lt_size e
 |set S n=>obtain⟨o,_,_,_,e,_⟩:=x;exact Heap.lt_size e
 |ins C dx fs=>obtain⟨_,_,_,e,_⟩:=x;exact Heap.lt_size e
 |own y=>obtain⟨_,e⟩:=x;exact Heap.lt_size e
 |xd fs=>obtain⟨_,⟨_,_,_,e,_⟩,_⟩:=x;exact Heap.lt_size e
 |rng lo hi=>obtain⟨_,_,_,e⟩:=x;exact Heap.lt_size e
 |frz ob u=>obtain⟨e,_⟩:=x;exact Heap.lt_size e
 |tbl ps=>exact Heap.lt_size (show h.get? a=some _ from x)
 |met f y=>exact Heap.lt_size (show h.get? a=some _ from x)
 |ext φ=>obtain⟨_,⟨_,e⟩,_⟩:=x;exact Heap.lt_size e
theorem Paired.mapP{α β:Type}{F G:α ->β ->Prop}:∀{l₁:List α} {l₂:List β},Paired F l₁ l₂ ->(∀a b,F a b ->G a b) ->Paired G l₁ l₂
 |_,_,.nil,_=> .nil
 |_,_,.cons r t,f=> .cons (f _ _ r) (Paired.mapP t f)
theorem ObjOk.stay(x:ObjOk P w H h a o)(k:∀b u,(b=a\/H b=some (.own a)) ->h.get? b=some u ->h'.get? b=some u)
   (ho:∀b,H b=some (.own a) ->H' b=some (.own a)) (ht:∀b xs,H b=some (.tup xs) ->H' b=some (.tup xs)):ObjOk P w H' h' a o:=by
 induction o with
 |lst xs=>obtain⟨z,its,n,r,e⟩:=x;exact⟨z,its,n,r,k _ _ (.inl rfl) e⟩
 |tup xs=>obtain⟨z,its,r,ob,e,c⟩:=x;exact⟨z,its,r,ob,k _ _ (.inl rfl) e,c⟩
 |dK kvs=>obtain⟨z,y,vs,r,ob,es,ep,e,c⟩:=x;exact⟨z,y,vs,r,ob,es,ep,k _ _ (.inl rfl) e,c⟩
 | dT kvs=>
   obtain⟨z,y,xs,r,ob,es,ep,e,c⟩:=x
   exact⟨z,y,xs,Paired.mapP r fun p q z=>⟨z.1,ht _ _ z.2.1,z.2.2⟩,ob,es,ep,k _ _ (.inl rfl) e,c⟩
 |set S n=>obtain⟨ob,es,ep,t,e,c⟩:=x;exact⟨ob,es,ep,t,k _ _ (.inl rfl) e,c⟩
 | ins C dx fs=>
   obtain⟨d,z,ne,e,mA,⟨od,es,ep,e2,c⟩,r⟩:=x
   exact⟨ho _ d,z,ne,k _ _ (.inl rfl) e,mA,⟨od,es,ep,k _ _ (.inr d) e2,c⟩,r⟩
 |own y=>obtain⟨ob,e⟩:=x;exact⟨ob,k _ _ (.inl rfl) e⟩
 |xd fs=>obtain⟨mA,⟨od,es,ep,e,c⟩,r⟩:=x;exact⟨mA,⟨od,es,ep,k _ _ (.inl rfl) e,c⟩,r⟩
 |rng lo hi=>obtain⟨t,u,v,e⟩:=x;exact⟨t,u,v,k _ _ (.inl rfl) e⟩
 |frz ob u ih=>obtain⟨e,q⟩:=x;exact⟨k _ _ (.inl rfl) e,ih q⟩
 | tbl ps=>
   have e:h.get? a=some {cls:= .none,data:= .fields ps}:=x
   show h'.get? a=some {cls:= .none,data:= .fields ps}
   exact k a _ (.inl rfl) e
 | met f y=>
   have e:h.get? a=some (PySem.W.methodObj (.ref f) (.ref y)):=x
   show h'.get? a=some (PySem.W.methodObj (.ref f) (.ref y))
   exact k a _ (.inl rfl) e
 |ext φ=>obtain⟨p,⟨o,e⟩,st⟩:=x;exact⟨st _ _ p fun o q=>k _ _ (.inl rfl) q,⟨o,k _ _ (.inl rfl) e⟩,st⟩
theorem HOk.lt(x:HOk P w H h)(e:H a=some o):a<h.objs.size:=(x a o e).lt
theorem HOk.fresh(x:HOk P w H h)(e:h.objs.size<=a):H a=none:=by
 cases q:H a with
 |none=>rfl
 |some u=>exact absurd (Nat.lt_of_lt_of_le (x.lt q) e) (Nat.lt_irrefl _)
theorem HOk.kept(x:HOk P w H h)(k:∀b u,h.get? b=some u ->h'.get? b=some u):HOk P w H h':=fun a o e=>
 (x a o e).stay (fun b u _ q=>k b u q) (fun _ q=>q) fun _ _ q=>q
theorem HOk.laid(x:HOk P w H h)(k:∀b u,h.get? b=some u ->h'.get? b=some u)(hp:h.objs.size<=a)(new:ObjOk P w (upd H a o) h' a o):HOk P w (upd H a o) h':=fun b u e=>by
 have hn:=x.fresh hp
 by_cases hb:b=a
 . subst hb;rw[A9] at e;cases e;exact new
 . rw[D3 hb] at e
   exact(x b u e).stay (fun c v _ q=>k c v q) (fun c q=>by rw[D3 (G2 q hn)];exact q) fun c xs q=>by rw[D3 (G2 q hn)];exact q
end
noncomputable def Rd (H:Hp) (a:Addr) (u:HO):Prop:=H a=some u\/∃o,H a=some (.frz o u)
theorem Rd.ok{P:Program}{w:World}{H:Hp}{h:Heap}{a:Addr}{u:HO}(r:Rd H a u)(x:HOk P w H h):ObjOk P w H h a u:=by
 rcases r with r|⟨o,r⟩
 . exact x a u r
 . obtain⟨_,q⟩:=x a _ r
   exact q
noncomputable def Mut:Option HO ->Prop
 |some (.lst _)=>True
 |some (.dK _)=>True
 |some (.dT _)=>True
 |some (.set _ _)=>True
 |some (.ins _ _ _)=>True
 |some (.ext _)=>True
 |_=>False
section
variable{P:Program}{w:World}{H:Hp}{h h':Heap}{x e:Addr}{o':HO}
theorem HOk.write(ok:HOk P w H h)(mu:Mut (H x))(he:e=x\/H e=some (.own x))(k:∀b u,b≠e ->h.get? b=some u ->h'.get? b=some u)(heo:∃u,h'.get? e=some u)
   (new:ObjOk P w (upd H x o') h' x o'):HOk P w (upd H x o') h':=fun b u q=>by
 have nown:∀c y,H c=some (.own y) ->c≠x:=fun c y r z=>by subst z;rw[r] at mu;exact mu
 have ntup:∀c xs,H c=some (.tup xs) ->c≠x:=fun c xs r z=>by subst z;rw[r] at mu;exact mu
 by_cases hb:b=x
 . subst hb;rw[A9] at q;cases q;exact new
 . rw[D3 hb] at q
   by_cases hbe:b=e
   . have q':H b=some (.own x):=by
       rcases he with z|z
       . exact absurd (hbe.trans z) hb
       . rw[hbe];exact z
     rw[q] at q';cases q'
     obtain⟨v,hv⟩:=heo
     exact⟨v,by rw[hbe];exact hv⟩
   . refine(ok b u q).stay (fun c v hc r=>k c v ?_ r) (fun c r=>by rw[D3 (nown c b r)];exact r) fun c xs r=>by rw[D3 (ntup c xs r)];exact r
     rcases hc with rfl|hc
     . exact hbe
     . rintro rfl
       rcases he with z|z
       . exact nown c b hc z
       . rw[hc] at z;cases z;exact hb rfl
end
structure Un(fs ex:List Addr)(H H':Hp)(h h':Heap):Prop where
 keep:∀b o,h.get? b=some o ->H b=none ->b ∉ fs ->b ∉ ex ->h'.get? b=some o
 slot:∀b o,h.get? b=some o ->H b=none ->b∈fs ->b ∉ ex ->∃sl,h'.get? b=some {o with slots:=sl}
 free:∀b o,h.get? b=some o ->H b=none ->b ∉ ex ->H' b=none
 there:∀b o,h.get? b=some o ->b ∉ ex ->∃o',h'.get? b=some o'
 tups:∀b xs,H b=some (.tup xs) ->H' b=some (.tup xs)
 frzs:∀b o u,H b=some (.frz o u) ->H' b=some (.frz o u)
 tbls:∀b ps,H b=some (.tbl ps) ->∃more,H' b=some (.tbl (ps++more))
section
variable{fs fs' ex ex':List Addr}{H H1 H2:Hp}{h h1 h2 h':Heap}{a x e:Addr}{o:HO}
theorem Un.any(u:Un fs ex H H1 h h1){b:Addr}{ob:Obj}(q:h.get? b=some ob)(n:H b=none)(hx:b ∉ ex):∃sl,h1.get? b=some {ob with slots:=sl}:=by
 by_cases hb:b∈fs
 . exact u.slot b ob q n hb hx
 . exact⟨ob.slots,u.keep b ob q n hb hx⟩
theorem Un.kept(k:∀b u,h.get? b=some u ->h'.get? b=some u):Un fs ex H H h h':=
 ⟨fun b ob q _ _ _=>k b ob q,fun b ob q _ _ _=>⟨ob.slots,k b ob q⟩,fun _ _ _ n _=>n,fun b ob q _=>⟨ob,k b ob q⟩,fun _ _ q=>q,fun _ _ _ q=>q,fun _ ps q=>⟨#[],by rw[q];simp⟩⟩
theorem Un.refl:Un fs ex H H h h:=Un.kept fun _ _ q=>q
theorem Un.laid(k:∀b u,h.get? b=some u ->h'.get? b=some u)(hp:h.objs.size<=a)(hn:H a=none):Un fs ex H (upd H a o) h h' where
 keep:=fun b u q _ _ _=>k b u q
 slot:=fun b u q _ _ _=>⟨u.slots,k b u q⟩
 free:=fun b u q n _=>by rw[D3 (Nat.ne_of_lt (Nat.lt_of_lt_of_le (Heap.lt_size q) hp))];exact n
 there:=fun b u q _=>⟨u,k b u q⟩
 tups:=fun b xs q=>by rw[D3 (G2 q hn)];exact q
 frzs:=fun b u xs q=>by rw[D3 (G2 q hn)];exact q
 tbls:=fun b ps q=>⟨#[],by rw[D3 (G2 q hn),q];simp⟩
theorem Un.write(mu:Mut (H x))(he:e=x\/H e=some (.own x))(k:∀b u,b≠e ->h.get? b=some u ->h'.get? b=some u)(heo:∃u,h'.get? e=some u):Un fs ex H (upd H x o) h h':=by
 have hx:∀b,H b=none ->b≠x:=fun b n z=>by subst z;rw[n] at mu;exact mu
 have hb:∀b,H b=none ->b≠e:=fun b n z=>by
   subst z
   rcases he with r|r
   . exact hx b n r
   . rw[n] at r;cases r
 have hm:∀b u,H b=some u ->¬Mut (some u) ->b≠x:=fun b u q nm z=>by subst z;rw[q] at mu;exact nm mu
 refine⟨fun b u q n _ _=>k b u (hb b n) q,fun b u q n _ _=>⟨u.slots,k b u (hb b n) q⟩,fun b u q n _=>by rw[D3 (hx b n)];exact n,fun b u q _=>?_,
   fun b xs q=>by rw[D3 (hm b _ q fun z=>z)];exact q,fun b u xs q=>by rw[D3 (hm b _ q fun z=>z)];exact q,fun b ps q=>⟨#[],by rw[D3 (hm b _ q fun z=>z),q];simp⟩⟩
 by_cases hbe:b=e
 . subst hbe;exact heo
 . exact⟨u,k b u hbe q⟩
end
noncomputable def trk (h:Heap) (H:Hp):List Addr:=(List.range h.objs.size).filter fun a=>(H a).isSome
noncomputable def C6j (h:Heap) (H:Hp):Heap:=PySem.W.hideAll h (trk h H)
theorem U1d(h:Heap)(H:Hp):(C6j h H).objs.size=h.objs.size:=PySem.W.hideAll_size _ _
theorem U9c{h:Heap}{H:Hp}{b:Addr}{o:Obj}(e:h.get? b=some o)(n:H b=none):(C6j h H).get? b=some o:=
 PySem.W.hideAll_get _ e fun hm=>by
   have q:(H b).isSome=true:=(List.mem_filter.mp hm).2
   rw[n] at q;simp at q
theorem Y5z{h:Heap}{H:Hp}{b:Addr}{o:Obj}(e:(C6j h H).get? b=some o):h.get? b=some o/\H b=none:=by
 have e':h.get? b=some o:=PySem.W.of_hideAll (trk h H) e
 refine⟨e',?_⟩
 cases q:H b with
 |none=>rfl
 | some x=>
   have hm:b∈trk h H:=List.mem_filter.mpr ⟨List.mem_range.mpr (Heap.lt_size e'),by simp[q]⟩
   have z:(C6j h H).get? b=none:=PySem.W.hideAll_none (trk h H) hm
   rw[z] at e;cases e
structure Mod(K:PySem.W.Frag)(mg:Str ->Option Value)(base:Heap):Prop where
 kin:K.In base
 glob:base.Ns mainGlobals mg
 blt:∃mb,base.Ns builtinsNs mb/\∀x:Str,x≠"__name__" ->mb x=bootBuiltins x
 nolimit:base.NoLimit
structure Cx where
 prog:Program
 w:World
 K:PySem.W.Frag
 mg:Str ->Option Value
 base:Heap
 A:Around
 N:List Str
 s₀:Shared
 H₀:Hp
 env:Env
 outer:List Env
 stack:List Env
 ex:List Addr
 fn:Str ->Bool
 calm:Bool
 pn:List (Addr×Obj)
 xe:Value ->Shared ->Prop
noncomputable def frs (l:List Env):List Addr:=l.filterMap (·.frame)
noncomputable abbrev Cx.fs (X:Cx):List Addr:=frs X.outer
noncomputable def Vis (sc:Scope) (x:Str):Prop:=sc.names.lookup x=some .local\/sc.names.lookup x=some .cell\/sc.names.lookup x=some .free
noncomputable def Loc (sc:Scope) (x:Str):Prop:=sc.names.lookup x=some .local\/sc.names.lookup x=some .cell
noncomputable def Look (env:Env) (h:Heap) (m:Str ->Option Value) (x:Str) (u:Value):Prop:=
 (env.kindOf x=some .local/\m x=some u)\/((env.kindOf x=some .cell\/env.kindOf x=some .free)/\∃c,env.cells.lookup x=some c/\h.IsCell c (some u))
structure Cx.Ok(X:Cx):Prop where
 mod:Mod X.K X.mg X.base
 kind:X.env.scope.kind= .function
 glob:X.env.globals=mainGlobals
 blt:X.env.builtins=builtinsNs
 above:X.s₀.heap.objs.size<=X.env.locals
 inj:∀x y c,X.env.cells.lookup x=some c ->X.env.cells.lookup y=some c ->x=y
 has:∀x,(X.env.kindOf x=some .cell\/X.env.kindOf x=some .free) ->∃c,X.env.cells.lookup x=some c
 cab:∀x c,X.fn x=true ->X.env.cells.lookup x=some c ->X.s₀.heap.objs.size<=c
 hd:X.calm=true ->X.A.handled=none
 frames:X.A.frames=some X.stack
 stk:X.stack=X.outer\/(X.stack=X.env::X.outer/\X.env.frame=some X.env.locals)
 exf:∀b∈X.ex,b≠X.env.locals/\∀x c,X.env.cells.lookup x=some c ->c≠b
 bs:∀b o,X.base.get? b=some o ->X.s₀.heap.get? b=some o/\X.H₀ b=none
 bsz:X.base.objs.size<=X.s₀.heap.objs.size
 noex:∀b o,X.base.get? b=some o ->b ∉ X.ex
 exfs:∀b∈X.ex,b ∉ X.fs
 funs:X.s₀.heap.FunFrames X.base X.outer
 frf:∀b∈X.fs,X.H₀ b=none
structure Inv(X:Cx)(pins:List (Addr×Obj))(σ:List (Option V))(H:Hp)(s:Shared):Prop where
 ok:X.Ok
 os:s.os=X.s₀.os
 bare:AllBare s.gens
 base:Un X.fs X.ex X.H₀ H X.s₀.heap s.heap
 loc:∃m,s.heap.Ns X.env.locals m/\∀(i:Nat) (x:Str) (v:V),X.N[i]?=some x ->σ[i]?=some (some v) ->Vis X.env.scope x ->∃u,RelV v u/\Look X.env s.heap m x u
 cell:∀x c,X.env.cells.lookup x=some c ->∃v,s.heap.IsCell c v
 free:H X.env.locals=none
 freeC:∀x c,X.env.cells.lookup x=some c ->H c=none
 pin:∀p∈X.pn++pins,s.heap.get? p.1=some p.2/\H p.1=none/\p.1≠X.env.locals/\p.1 ∉ X.fs/\∀v,p.2.data≠ .cell v
 hok:HOk X.prog X.w H s.heap
 len:σ.length=X.N.length
section
variable{X:Cx}{pins:List (Addr×Obj)}{σ:List (Option V)}{H H':Hp}{s:Shared}{h':Heap}
theorem Cx.Ok.nofr(ok:X.Ok){b:Addr}{o:Obj}(e:X.base.get? b=some o):b ∉ X.fs:=fun hb=>by
 have:=(ok.funs.mem hb).1
 rw[e] at this;cases this
theorem Inv.bs(I:Inv X pins σ H s):∀b o,X.base.get? b=some o ->s.heap.get? b=some o/\H b=none:=fun b o e=>
 ⟨I.base.keep b o (I.ok.bs b o e).1 (I.ok.bs b o e).2 (I.ok.nofr e) (I.ok.noex b o e),I.base.free b o (I.ok.bs b o e).1 (I.ok.bs b o e).2 (I.ok.noex b o e)⟩
theorem Inv.bk(I:Inv X pins σ H s):∀b o,X.base.get? b=some o ->s.heap.get? b=some o:=fun b o e=>(I.bs b o e).1
theorem Inv.mod(I:Inv X pins σ H s):Mod X.K X.mg X.base:=I.ok.mod
theorem Inv.kIn(I:Inv X pins σ H s):X.K.In s.heap:=I.ok.mod.kin.keeps I.bk
theorem Inv.lt(I:Inv X pins σ H s):X.env.locals<s.heap.objs.size:=let⟨_,hn,_⟩:=I.loc;hn.lt
theorem Inv.sz(I:Inv X pins σ H s):X.s₀.heap.objs.size<=s.heap.objs.size:=Nat.le_trans I.ok.above (Nat.le_of_lt I.lt)
theorem Inv.nofs(I:Inv X pins σ H s){a:Addr}(h:s.heap.objs.size<=a):a ∉ X.fs:=fun hb=>by
 obtain⟨_,o,ho,_⟩:=I.ok.funs.mem hb
 exact absurd (Nat.lt_of_lt_of_le (Heap.lt_size ho) (Nat.le_trans I.sz h)) (Nat.lt_irrefl _)
theorem Inv.cne(I:Inv X pins σ H s):∀x c,X.env.cells.lookup x=some c ->c≠X.env.locals:=fun x c e z=>by
 obtain⟨v,o,ho,hd⟩:=I.cell x c e
 obtain⟨m,⟨o',es,ep,ho',hd',_⟩,_⟩:=I.loc
 rw[z,ho'] at ho;cases ho;rw[hd'] at hd;cases hd
theorem Inv.funs(I:Inv X pins σ H s):s.heap.FunFrames X.base X.outer:=by
 have all:∀(l:List Env),(∀b∈frs l,b∈X.fs) ->X.s₀.heap.FunFrames X.base l ->s.heap.FunFrames X.base l:=by
   intro l
   induction l with
   |nil=>intro _ _;trivial
   | cons env r ih=>
     intro hs hl
     obtain⟨hk,⟨L,o,hf,hn,ho,hd⟩,hr⟩:=hl
     have hL:L∈X.fs:=hs L (by unfold frs;rw[List.filterMap_cons,hf];exact List.mem_cons_self)
     obtain⟨sl,e⟩:=I.base.slot L o ho (I.ok.frf L hL) hL fun z=>I.ok.exfs L z hL
     exact⟨hk,⟨L,_,hf,hn,e,hd⟩,ih (fun b hb=>hs b (by unfold frs;rw[List.filterMap_cons,hf];exact List.mem_cons_of_mem _ hb)) hr⟩
 exact all X.outer (fun _ hb=>hb) I.ok.funs
theorem Inv.stack(I:Inv X pins σ H s):s.heap.FunFrames X.base X.stack:=by
 rcases I.ok.stk with e|⟨e,hf⟩
 . rw[e];exact I.funs
 . rw[e]
   obtain⟨m,hn,_⟩:=I.loc
   refine .cons (by rw[I.ok.kind];decide) hf hn ?_ I.funs
   exact Heap.get?_none_of_le (Nat.le_trans I.ok.bsz I.ok.above)
theorem Inv.stkSub(I:Inv X pins σ H s):∀b∈frs X.stack,b∈X.env.locals::X.fs:=fun b hb=>by
 rcases I.ok.stk with e|⟨e,hf⟩
 . rw[e] at hb;exact List.mem_cons_of_mem _ hb
 . rw[e] at hb
   unfold frs at hb
   rw[List.filterMap_cons,hf] at hb
   exact hb
theorem Inv.stkFree(I:Inv X pins σ H s):∀b∈frs X.stack,H b=none:=fun b hb=>by
 rcases List.mem_cons.mp (I.stkSub b hb) with e|hb
 . rw[e];exact I.free
 . obtain⟨_,o,ho,_⟩:=I.ok.funs.mem hb
   exact I.base.free b o ho (I.ok.frf b hb) fun z=>I.ok.exfs b z hb
theorem Inv.step{g':Array GenState}{t':Nat}{d':Drawn}{ch:List Addr}(I:Inv X pins σ H s)
   (hch:∀b∈ch,(b∈X.ex\/X.s₀.heap.objs.size<=b)/\b≠X.env.locals/\(∀x c,X.env.cells.lookup x=some c ->c≠b)/\∀p∈X.pn++pins,p.1≠b)
   (keep:∀b o,b≠X.env.locals ->b ∉ X.fs ->b ∉ ch ->s.heap.get? b=some o ->H b=none ->h'.get? b=some o)
   (slot:∀b o,b≠X.env.locals ->b∈X.fs ->b ∉ ch ->s.heap.get? b=some o ->H b=none ->∃sl,h'.get? b=some {o with slots:=sl}) (free:∀b o,b ∉ ch ->s.heap.get? b=some o ->H b=none ->H' b=none)
   (there:∀b o,b ∉ ch ->s.heap.get? b=some o ->∃o',h'.get? b=some o')
   (tups:∀b xs,H b=some (.tup xs) ->H' b=some (.tup xs)) (frzs:∀b o u,H b=some (.frz o u) ->H' b=some (.frz o u)) (tbls:∀b ps,H b=some (.tbl ps) ->∃more,H' b=some (.tbl (ps++more)))
   (ns:∀m,s.heap.Ns X.env.locals m ->h'.Ns X.env.locals m) (hok:HOk X.prog X.w H' h') (hg:AllBare g'):
   Inv X pins σ H' {s with heap:=h',gens:=g',drawn:=d',toks:=t'}:=by
 have neL:∀b o,X.s₀.heap.get? b=some o ->b≠X.env.locals:=fun b o e=>Nat.ne_of_lt (Nat.lt_of_lt_of_le (Heap.lt_size e) I.ok.above)
 have neC:∀b o,X.s₀.heap.get? b=some o ->b ∉ X.ex ->b ∉ ch:=fun b o e hx hb=>by
   rcases(hch b hb).1 with z|z
   . exact hx z
   . exact absurd (Nat.lt_of_lt_of_le (Heap.lt_size e) z) (Nat.lt_irrefl _)
 have cellK:∀x c,X.env.cells.lookup x=some c ->∀v,s.heap.IsCell c v ->h'.IsCell c v:=fun x c e v ⟨o,ho,hd⟩=>by
   have nch:c ∉ ch:=fun z=>(hch c z).2.2.1 x c e rfl
   by_cases hc:c∈X.fs
   . obtain⟨sl,q⟩:=slot c o (I.cne x c e) hc nch ho (I.freeC x c e)
     exact⟨_,q,hd⟩
   . exact⟨o,keep c o (I.cne x c e) hc nch ho (I.freeC x c e),hd⟩
 refine⟨I.ok,I.os,hg,⟨fun b o e n hb hx=>?_,fun b o e n hb hx=>?_,fun b o e n hx=>?_,fun b o e hx=>?_,fun b xs e=>tups b xs (I.base.tups b xs e),fun b o xs e=>frzs b o xs (I.base.frzs b o xs e),fun b ps e=>?_⟩,?_,fun x c e=>?_,?_,fun x c e=>?_,fun p hp=>?_,hok,I.len⟩
 . exact keep b o (neL b o e) hb (neC b o e hx) (I.base.keep b o e n hb hx) (I.base.free b o e n hx)
 . obtain⟨sl,e1⟩:=I.base.slot b o e n hb hx
   obtain⟨sl',e2⟩:=slot b _ (neL b o e) hb (neC b o e hx) e1 (I.base.free b o e n hx)
   exact⟨sl',e2⟩
 . obtain⟨o',e1⟩:=I.base.there b o e hx
   exact free b o' (neC b o e hx) e1 (I.base.free b o e n hx)
 . obtain⟨o',e1⟩:=I.base.there b o e hx
   exact there b o' (neC b o e hx) e1
 . obtain⟨m1,e1⟩:=I.base.tbls b ps e
   obtain⟨m2,e2⟩:=tbls b _ e1
   exact⟨m1++m2,by rw[e2,Array.append_assoc]⟩
 . obtain⟨m,hn,hl⟩:=I.loc
   refine⟨m,ns m hn,fun i x v e1 e2 e3=>?_⟩
   obtain⟨u,r,l⟩:=hl i x v e1 e2 e3
   refine⟨u,r,?_⟩
   rcases l with l|⟨k,c,e,z⟩
   . exact .inl l
   . exact .inr ⟨k,c,e,cellK x c e _ z⟩
 . obtain⟨v,z⟩:=I.cell x c e
   exact⟨v,cellK x c e v z⟩
 . obtain⟨m,⟨o,_,_,ho,_⟩,_⟩:=I.loc
   exact free _ o (fun z=>(hch _ z).2.1 rfl) ho I.free
 . obtain⟨v,o,ho,hd⟩:=I.cell x c e
   exact free c o (fun z=>(hch c z).2.2.1 x c e rfl) ho (I.freeC x c e)
 . obtain⟨e,n,ne,nf,d⟩:=I.pin p hp
   have nch:p.1 ∉ ch:=fun z=>(hch p.1 z).2.2.2 p hp rfl
   exact⟨keep p.1 p.2 ne nf nch e n,free p.1 p.2 nch e n,ne,nf,d⟩
theorem Inv.un{t':Nat}(I:Inv X pins σ H s)(u:Un X.fs [] H H' s.heap h')(hok:HOk X.prog X.w H' h'):Inv X pins σ H' {s with heap:=h',toks:=t'}:=by
 obtain⟨m,⟨o,es,ep,ho,r⟩,_⟩:=id I.loc
 obtain⟨sl,hL⟩:=u.any ho I.free (by simp)
 exact I.step (g':=s.gens) (d':=s.drawn) (ch:=[]) (fun _ z=>nomatch z) (fun b o _ hb _ e n=>u.keep b o e n hb (by simp)) (fun b o _ hb _ e n=>u.slot b o e n hb (by simp)) (fun b o _ e n=>u.free b o e n (by simp)) (fun b o _ e=>u.there b o e (by simp)) u.tups u.frzs u.tbls (fun m' hm=>by
   obtain⟨o',es',ep',ho',r'⟩:=hm
   rw[ho] at ho';cases ho'
   exact⟨_,es',ep',hL,r'⟩) hok I.bare
theorem Inv.call{g':Array GenState}{t':Nat}{d':Drawn}{ch:List Addr}(I:Inv X pins σ H s)(u:Un (frs X.stack) ch H H' s.heap h')(hok:HOk X.prog X.w H' h')(hg:AllBare g')
   (hch:∀b∈ch,(b∈X.ex\/X.s₀.heap.objs.size<=b)/\b≠X.env.locals/\(∀x c,X.env.cells.lookup x=some c ->c≠b)/\∀p∈X.pn++pins,p.1≠b):
   Inv X pins σ H' {s with heap:=h',gens:=g',drawn:=d',toks:=t'}:=by
 obtain⟨m,⟨o,es,ep,ho,r⟩,_⟩:=id I.loc
 obtain⟨sl,hL⟩:=u.any ho I.free fun z=>(hch _ z).2.1 rfl
 exact I.step (ch:=ch) hch (fun b o hL hb hc e n=>u.keep b o e n (fun z=>(List.mem_cons.mp (I.stkSub b z)).elim hL hb) hc) (fun b o _ _ hc e n=>u.any e n hc) (fun b o hc e n=>u.free b o e n hc) (fun b o hc e=>u.there b o e hc) u.tups u.frzs u.tbls (fun m' hm=>by
   obtain⟨o',es',ep',ho',r'⟩:=hm
   rw[ho] at ho';cases ho'
   exact⟨_,es',ep',hL,r'⟩) hok hg
theorem Inv.turned{t':Nat}{it:Addr}(I:Inv X pins σ H s)(k:∀b o,b≠it ->s.heap.get? b=some o ->h'.get? b=some o)(hn:H it=none)(hL:it≠X.env.locals)
   (h1:it∈X.ex\/X.s₀.heap.objs.size<=it) (h2:∀x c,X.env.cells.lookup x=some c ->c≠it) (h3:∀p∈X.pn++pins,p.1≠it):Inv X pins σ H {s with heap:=h',toks:=t'}:=by
 have nit:∀b u,H b=some u ->b≠it:=fun b u e z=>by rw[z,hn] at e;cases e
 refine I.step (g':=s.gens) (d':=s.drawn) (ch:=[it]) (fun b hb=>?_) (fun b o _ _ hc e _=>k b o (fun z=>hc (by simp[z])) e) (fun b o _ _ hc e _=>⟨o.slots,k b o (fun z=>hc (by simp[z])) e⟩) (fun _ _ _ _ n=>n)
   (fun b o hc e=>⟨o,k b o (fun z=>hc (by simp[z])) e⟩) (fun _ _ e=>e) (fun _ _ _ e=>e) (fun b ps e=>⟨#[],by rw[e];simp⟩) (fun m hm=>?_) (fun b u e=>?_) I.bare
 . have e:b=it:=by simpa using hb
   subst e
   exact⟨h1,hL,h2,h3⟩
 . obtain⟨o,es,ep,ho,r⟩:=hm
   exact⟨o,es,ep,k _ o (Ne.symm hL) ho,r⟩
 . refine(I.hok b u e).stay (fun c v hc q=>k c v ?_ q) (fun _ q=>q) fun _ _ q=>q
   rcases hc with z|z
   . rw[z];exact nit b u e
   . exact nit c _ z
theorem Inv.tok(I:Inv X pins σ H s)(t:Nat):Inv X pins σ H {s with toks:=t}:=I.un (h':=s.heap) (t':=t) Un.refl I.hok
theorem Inv.kept{t':Nat}(I:Inv X pins σ H s)(k:∀b u,s.heap.get? b=some u ->h'.get? b=some u):Inv X pins σ H {s with heap:=h',toks:=t'}:=I.un (Un.kept k) (I.hok.kept k)
theorem Inv.laid{a:Addr}{o:HO}{t':Nat}(I:Inv X pins σ H s)(k:∀b u,s.heap.get? b=some u ->h'.get? b=some u)(hp:s.heap.objs.size<=a)(new:ObjOk X.prog X.w (upd H a o) h' a o):
   Inv X pins σ (upd H a o) {s with heap:=h',toks:=t'}:=I.un (Un.laid k hp (I.hok.fresh hp)) (I.hok.laid k hp new)
theorem Inv.write{x e:Addr}{o:HO}{t':Nat}(I:Inv X pins σ H s)(mu:Mut (H x))(he:e=x\/H e=some (.own x))(k:∀b u,b≠e ->s.heap.get? b=some u ->h'.get? b=some u)(heo:∃u,h'.get? e=some u)
   (new:ObjOk X.prog X.w (upd H x o) h' x o):Inv X pins σ (upd H x o) {s with heap:=h',toks:=t'}:=I.un (Un.write mu he k heo) (I.hok.write mu he k heo new)
theorem Inv.pins_of{pins':List (Addr×Obj)}(I:Inv X pins σ H s)(h:∀p∈pins',s.heap.get? p.1=some p.2/\H p.1=none/\p.1≠X.env.locals/\p.1 ∉ X.fs/\∀v,p.2.data≠ .cell v):Inv X pins' σ H s:=
 ⟨I.ok,I.os,I.bare,I.base,I.loc,I.cell,I.free,I.freeC,fun p hp=>(List.mem_append.mp hp).elim (fun z=>I.pin p (List.mem_append_left _ z)) (h p),I.hok,I.len⟩
theorem C2q{N:List Str}(hN:N.Nodup){i j:Nat}{x:Str}(a:N[i]?=some x)(b:N[j]?=some x):i=j:=by
 obtain⟨h1,e1⟩:=List.getElem?_eq_some_iff.mp a
 obtain⟨h2,e2⟩:=List.getElem?_eq_some_iff.mp b
 exact(List.getElem_inj hN).mp (e1.trans e2.symm)
theorem U1e{M:Model}{A:Around}{E:Value ->Shared ->Prop}{i:Nat}{x:Str}{v:V}{u:Value}{Q:Unit ->Shared ->Prop}(I:Inv X pins σ H s)(hN:X.N.Nodup)(hi:X.N[i]?=some x)(hx:Loc X.env.scope x)(r:RelV v u)
   (h:∀s',Inv X pins (σ.set i (some v)) H s' ->(∃a,Heap.SameBut a s.heap s'.heap/\(a=X.env.locals\/X.env.cells.lookup x=some a)) ->Q () s') (hf:X.fn x=true\/X.env.scope.names.lookup x=some .local:=by first|exact .inl rfl|exact .inr rfl|assumption):wpAny M A (storeName X.env x u) Q E s:=by
 obtain⟨m,hn,hl⟩:=id I.loc
 have hcls:(X.env.scope.kind== .class||(X.env.scope.kind== .module&&X.env.locals !=X.env.globals))=false:=by rw[I.ok.kind];rfl
 have hiσ:i<σ.length:=by rw[I.len];exact(List.getElem?_eq_some_iff.mp hi).1
 have cne:=I.cne
 have tracked:∀{a:Addr} {h':Heap},(∃o,s.heap.get? a=some o/\H a=none) ->Heap.SameBut a s.heap h' ->HOk X.prog X.w H h':=fun{a h'} ha hs b ob e=>by
   obtain⟨_,_,hfree⟩:=ha
   refine(I.hok b ob e).stay (fun c w' hc q=>(hs.2 c ?_).trans q) (fun _ q=>q) fun _ _ q=>q
   rintro rfl
   rcases hc with rfl|hc
   . rw[hfree] at e;cases e
   . rw[hfree] at hc;cases hc
 rcases hx with hk|hk
 . refine wpAny_storeName_local hk hn (fun h' hn' hs=>?_) hcls
   obtain⟨oL,_,_,hoL,_⟩:=id hn
   refine h _ ⟨I.ok,I.os,I.bare,⟨fun b o e n hb hx=>?_,fun b o e n hb hx=>?_,I.base.free,fun b o e hx=>?_,I.base.tups,I.base.frzs,I.base.tbls⟩,⟨_,hn',fun j y v' e1 e2 e3=>?_⟩,fun y c e=>?_,I.free,I.freeC,fun p hp=>?_,tracked ⟨oL,hoL,I.free⟩ hs,by simpa using I.len⟩ ⟨_,hs,.inl rfl⟩
   . exact(hs.2 b (Nat.ne_of_lt (Nat.lt_of_lt_of_le (Heap.lt_size e) I.ok.above))).trans (I.base.keep b o e n hb hx)
   . obtain⟨sl,e1⟩:=I.base.slot b o e n hb hx
     exact⟨sl,(hs.2 b (Nat.ne_of_lt (Nat.lt_of_lt_of_le (Heap.lt_size e) I.ok.above))).trans e1⟩
   . obtain⟨o',e1⟩:=I.base.there b o e hx
     exact⟨o',(hs.2 b (Nat.ne_of_lt (Nat.lt_of_lt_of_le (Heap.lt_size e) I.ok.above))).trans e1⟩
   . by_cases hj:j=i
     . subst hj
       rw[hi] at e1;cases e1
       rw[List.getElem?_set_self hiσ] at e2
       cases e2
       exact⟨u,r,.inl ⟨hk,by simp⟩⟩
     . rw[List.getElem?_set_ne (Ne.symm hj)] at e2
       obtain⟨u',r',q⟩:=hl j y v' e1 e2 e3
       refine⟨u',r',?_⟩
       rcases q with⟨k,e⟩|⟨k,c,e,z⟩
       . refine .inl ⟨k,?_⟩
         have:y≠x:=fun e=>hj (C2q hN e1 (e▸hi))
         simp[this,e]
       . exact .inr ⟨k,c,e,z.sameBut hs (cne y c e)⟩
   . obtain⟨w',z⟩:=I.cell y c e
     exact⟨w',z.sameBut hs (cne y c e)⟩
   . obtain⟨e,n,ne,nf,d⟩:=I.pin p hp
     exact⟨(hs.2 p.1 ne).trans e,n,ne,nf,d⟩
 . have hfn:X.fn x=true:=by
     rcases hf with z|z
     . exact z
     . rw[z] at hk;cases hk
   obtain⟨c,hc⟩:=I.ok.has x (.inl hk)
   obtain⟨w',z⟩:=I.cell x c hc
   refine wpAny_storeName_cell I.ok.kind hk hc z (fun h' hc' hs=>?_)
   obtain⟨oc,hoc,hocd⟩:=id z
   refine h {s with heap:=h'} ⟨I.ok,I.os,I.bare,⟨fun b o e n hb hx=>?_,fun b o e n hb hx=>?_,I.base.free,fun b o e hx=>?_,I.base.tups,I.base.frzs,I.base.tbls⟩,⟨m,hn.sameBut hs (Ne.symm (cne x c hc)),fun j y v' e1 e2 e3=>?_⟩,fun y c' e=>?_,I.free,I.freeC,fun p hp=>?_,tracked ⟨oc,hoc,I.freeC x c hc⟩ hs,by simpa using I.len⟩ ⟨c,hs,.inr hc⟩
   . exact(hs.2 b (Nat.ne_of_lt (Nat.lt_of_lt_of_le (Heap.lt_size e) (I.ok.cab x c hfn hc)))).trans (I.base.keep b o e n hb hx)
   . obtain⟨sl,e1⟩:=I.base.slot b o e n hb hx
     exact⟨sl,(hs.2 b (Nat.ne_of_lt (Nat.lt_of_lt_of_le (Heap.lt_size e) (I.ok.cab x c hfn hc)))).trans e1⟩
   . obtain⟨o',e1⟩:=I.base.there b o e hx
     exact⟨o',(hs.2 b (Nat.ne_of_lt (Nat.lt_of_lt_of_le (Heap.lt_size e) (I.ok.cab x c hfn hc)))).trans e1⟩
   . by_cases hj:j=i
     . subst hj
       rw[hi] at e1;cases e1
       rw[List.getElem?_set_self hiσ] at e2
       cases e2
       exact⟨u,r,.inr ⟨.inl hk,c,hc,hc'⟩⟩
     . rw[List.getElem?_set_ne (Ne.symm hj)] at e2
       obtain⟨u',r',q⟩:=hl j y v' e1 e2 e3
       refine⟨u',r',?_⟩
       rcases q with q|⟨k,c',e,z'⟩
       . exact .inl q
       . refine .inr ⟨k,c',e,z'.sameBut hs ?_⟩
         rintro rfl
         exact hj (C2q hN e1 (I.ok.inj _ _ _ e hc▸hi))
   . by_cases hcc:c'=c
     . subst hcc;exact⟨_,hc'⟩
     . obtain⟨w2,z2⟩:=I.cell y c' e
       exact⟨w2,z2.sameBut hs hcc⟩
   . obtain⟨e,n,ne,nf,d⟩:=I.pin p hp
     refine⟨(hs.2 p.1 ?_).trans e,n,ne,nf,d⟩
     intro q
     rw[q,hoc] at e
     have q':oc=p.2:=Option.some.inj e
     exact d w' (by rw[<-q'];exact hocd)
theorem A8f{M:Model}{A:Around}{E:Value ->Shared ->Prop}{i:Nat}{x:Str}{v:V}{u:Value}{Q:Unit ->Shared ->Prop}(I:Inv X pins σ H s)(hN:X.N.Nodup)(hi:X.N[i]?=some x)(hx:Loc X.env.scope x)(r:RelV v u)
   (h:∀s',Inv X pins (σ.set i (some v)) H s' ->Q () s') (hf:X.fn x=true\/X.env.scope.names.lookup x=some .local:=by first|exact .inl rfl|exact .inr rfl|assumption):wpAny M A (storeName X.env x u) Q E s:=
 U1e I hN hi hx r (fun s' I' _=>h s' I') hf
theorem Inv.call'{s':Shared}{ch:List Addr}(I:Inv X pins σ H s)(ho:s'.os=s.os)(u:Un (frs X.stack) ch H H' s.heap s'.heap)(hok:HOk X.prog X.w H' s'.heap)(hg:AllBare s'.gens)
   (hch:∀b∈ch,(b∈X.ex\/X.s₀.heap.objs.size<=b)/\b≠X.env.locals/\(∀x c,X.env.cells.lookup x=some c ->c≠b)/\∀p∈X.pn++pins,p.1≠b):Inv X pins σ H' s':=by
 obtain⟨h',g',d',t',o'⟩:=s'
 have e:o'=s.os:=ho
 subst e
 exact I.call (g':=g') (t':=t') (d':=d') u hok hg hch
end
noncomputable abbrev XK:=Value ->Option Addr ->Hp ->Prop
noncomputable abbrev St:=List (Option V)
noncomputable abbrev VK:=V ->Hp ->Prop
noncomputable abbrev TE:=St ->Hp ->VK ->Prop
noncomputable abbrev TT:=St ->Hp ->(Bool ->Hp ->Prop) ->Prop
noncomputable abbrev TA:=St ->Hp ->(List V ->Hp ->Prop) ->Prop
structure Ends where
 nx:St ->Hp ->Prop
 rt:VK
 bk:St ->Hp ->Prop:=fun _ _=>False
 ct:St ->Hp ->Prop:=fun _ _=>False
noncomputable abbrev TS:=Ends ->St ->Hp ->Prop
noncomputable def EP (X:Cx) (pins:List (Addr×Obj)) (σ:St) (Q:VK) (u:Value) (s':Shared):Prop:=∃v H',Inv X pins σ H' s'/\RelV v u/\Q v H'
noncomputable def TP (X:Cx) (pins:List (Addr×Obj)) (σ:St) (Q:Bool ->Hp ->Prop) (b:Bool) (s':Shared):Prop:=∃H',Inv X pins σ H' s'/\Q b H'
noncomputable def AP (X:Cx) (pins:List (Addr×Obj)) (σ:St) (Q:List V ->Hp ->Prop) (us:List Value) (s':Shared):Prop:=∃vs H',Inv X pins σ H' s'/\Vals vs us/\Q vs H'
noncomputable def SP (X:Cx) (pins:List (Addr×Obj)) (D:Ends) (f:Flow) (s':Shared):Prop:=
 match f with
 | .next=>∃σ' H',Inv X pins σ' H' s'/\D.nx σ' H'
 | .brk=>∃σ' H',Inv X pins σ' H' s'/\D.bk σ' H'
 | .cont=>∃σ' H',Inv X pins σ' H' s'/\D.ct σ' H'
 | .ret u=>∃v σ' H',Inv X pins σ' H' s'/\RelV v u/\D.rt v H'
noncomputable def PE (X:Cx) (e:Expr) (t:TE):Prop:=
 ∀(pins:List (Addr×Obj)) (s:Shared) (σ:St) (H:Hp) (Q:VK),Inv X pins σ H s ->t σ H Q ->wpAny (model X.prog X.w) X.A (eval e X.env) (EP X pins σ Q) X.xe s
noncomputable def PT (X:Cx) (e:Expr) (t:TT):Prop:=
 ∀(pins:List (Addr×Obj)) (s:Shared) (σ:St) (H:Hp) (Q:Bool ->Hp ->Prop),Inv X pins σ H s ->t σ H Q ->wpAny (model X.prog X.w) X.A (isTrue e X.env (eval e X.env)) (TP X pins σ Q) X.xe s
noncomputable def PW (X:Cx) (e:Expr) (t:TT):Prop:=
 ∀(whole:Sem Value) (pins:List (Addr×Obj)) (s:Shared) (σ:St) (H:Hp) (Q:Bool ->Hp ->Prop),Inv X pins σ H s ->t σ H Q ->wpAny (model X.prog X.w) X.A (isTrue e X.env whole) (TP X pins σ Q) X.xe s
theorem PW.pt{X:Cx}{e:Expr}{t:TT}(h:PW X e t):PT X e t:=h _
noncomputable def PA (X:Cx) (es:List Expr) (t:TA):Prop:=
 ∀(pos:Pos) (pins:List (Addr×Obj)) (s:Shared) (σ:St) (H:Hp) (Q:List V ->Hp ->Prop),Inv X pins σ H s ->t σ H Q ->wpAny (model X.prog X.w) X.A (spliced (backTo pos (starEach es X.env))) (AP X pins σ Q) X.xe s
noncomputable def PS (X:Cx) (st:Stmt) (t:TS):Prop:=
 ∀(pins:List (Addr×Obj)) (s:Shared) (σ:St) (H:Hp) (D:Ends),Inv X pins σ H s ->t D σ H ->wpAny (model X.prog X.w) X.A (exec st X.env) (SP X pins D) X.xe s
noncomputable def PSs (X:Cx) (st:List Stmt) (t:TS):Prop:=
 ∀(pins:List (Addr×Obj)) (s:Shared) (σ:St) (H:Hp) (D:Ends),Inv X pins σ H s ->t D σ H ->wpAny (model X.prog X.w) X.A (execs st X.env) (SP X pins D) X.xe s
theorem thn{α:Type}{t:Sem α}{Q Q':α ->Shared ->Prop}{M:Model}{A:Around}{E:Value ->Shared ->Prop}{s:Shared}(h:wpAny M A t Q E s)(hQ:∀a s,Q a s ->Q' a s):wpAny M A t Q' E s:=wpAny_mono h hQ fun _ _ x=>x
section
variable{X:Cx}
noncomputable def Z3w (i:Nat):TE:=fun σ H Q=>∃v,σ[i]?=some (some v)/\Q v H
noncomputable def tC (v:V):TE:=fun _ H Q=>Q v H
theorem G7s{i:Nat}{x:Str}{pos:Pos}(hN:X.N[i]?=some x)(hv:Vis X.env.scope x)(hd:(x==("__debug__":Str))=false:=by decide)(hcd:(x==("__classdict__":Str))=false:=by decide):PE X (.Name x pos) (Z3w i):=by
 intro pins s σ H Q I h
 obtain⟨v,e,h⟩:=h
 obtain⟨m,hn,hl⟩:=I.loc
 obtain⟨u,r,l⟩:=hl i x v hN e hv
 have fin:EP X pins σ Q u s:=⟨v,H,I,r,h⟩
 rcases l with⟨hk,hm⟩|⟨hk,c,hc,hcell⟩
 . exact wpAny_Name (wpAny_loadName_local I.ok.kind hk hn hm fin) hd
 . rcases hk with hk|hk
   . exact wpAny_Name (wpAny_loadName_cell I.ok.kind hk hc hcell fin) hd
   . exact wpAny_Name (wpAny_loadName_free I.ok.kind hk hc hcell fin hcd) hd
theorem A3{i j pos}:PE X (.Constant (.int i) j pos) (tC (.int i)):=fun _ _ _ H _ I h=>wpAny_Constant_int ⟨.int i,H,I.tok _,⟨_,rfl⟩,h⟩
theorem A0j{b j pos}:PE X (.Constant (.bool b) j pos) (tC (.bl b)):=fun _ _ _ H _ I h=>Constant_bool ⟨.bl b,H,I,rfl,h⟩
theorem U9t{j pos}:PE X (.Constant .none j pos) (tC .non):=fun _ _ _ H _ I h=>Constant_none ⟨.non,H,I,rfl,h⟩
theorem C9{x j pos}:PE X (.Constant (.str x) j pos) (tC (.str x)):=fun _ _ _ H _ I h=>Calls.Constant_str ⟨.str x,H,I.tok _,⟨_,rfl⟩,h⟩
noncomputable def Gl (X:Cx) (x:Str):Prop:=X.env.kindOf x=some .globalImplicit
theorem A0h{E:Value ->Shared ->Prop}{pins:List (Addr×Obj)}{s:Shared}{σ:St}{H:Hp}{x:Str}{u:Value}{pos:Pos}{Q:Value ->Shared ->Prop}(I:Inv X pins σ H s)(hg:Gl X x)(hm:X.mg x=some u)(h:Q u s)
   (hd:(x==("__debug__":Str))=false:=by decide):wpAny (model X.prog X.w) X.A (eval (.Name x pos) X.env) Q E s:=
 Calls.Name_function_global I.ok.kind hg (Calls.loadGlobal_global (by rw[I.ok.glob];exact I.mod.glob.keeps I.bk) hm h) hd
theorem D1z{E:Value ->Shared ->Prop}{pins:List (Addr×Obj)}{s:Shared}{σ:St}{H:Hp}{x:Str}{u:Value}{pos:Pos}{Q:Value ->Shared ->Prop}(I:Inv X pins σ H s)(hg:Gl X x)(hm:X.mg x=none)(hv:bootBuiltins x=some u)(h:Q u s)
   (hn:x≠"__name__":=by decide) (hd:(x==("__debug__":Str))=false:=by decide):wpAny (model X.prog X.w) X.A (eval (.Name x pos) X.env) Q E s:=by
 obtain⟨mb,h1,h2⟩:=I.mod.blt
 exact Calls.Name_function_global I.ok.kind hg (Calls.loadGlobal_builtin (by rw[I.ok.glob];exact I.mod.glob.keeps I.bk) hm (by rw[I.ok.blt];exact h1.keeps I.bk) ((h2 x hn).trans hv) h) hd
theorem Y7f{x:Str}{v:V}{u:Value}{pos:Pos}(hg:Gl X x)(hm:X.mg x=some u)(r:RelV v u)(hd:(x==("__debug__":Str))=false:=by decide):PE X (.Name x pos) (tC v):=
 fun _ _ _ H _ I h=>A0h I hg hm ⟨v,H,I,r,h⟩ hd
theorem Y5x{x:Str}{v:V}{u:Value}{pos:Pos}(hg:Gl X x)(hm:X.mg x=none)(hv:bootBuiltins x=some u)(r:RelV v u)(hn:x≠"__name__":=by decide)(hd:(x==("__debug__":Str))=false:=by decide):PE X (.Name x pos) (tC v):=
 fun _ _ _ H _ I h=>D1z I hg hm hv ⟨v,H,I,r,h⟩ hn hd
variable{a b:Expr}{ta tb:TE}{pos:Pos}
noncomputable def tB (t:TE):TT:=fun σ H Q=>t σ H fun x H1=>∃c,x= .bl c/\Q c H1
theorem Y6{e:Expr}{t:TE}(h:PE X e t)(he:∀whole,isTrue e X.env whole=(do let v<-whole;standAt e.pos;holding [v] (truthy v)):=by intro _;rfl):PT X e (tB t):=by
 intro pins s σ H Q I hw
 refine isTrue_plain (thn (h pins s σ H _ I hw) fun v s1 hh_=>?_) (he _)
 obtain⟨x,H1,I1,r1,q1⟩:=hh_
 obtain⟨d,rfl,q⟩:=q1
 cases r1
 exact wpAny_truthy_bool ⟨H1,I1,q⟩
variable{tA tB':TT}{rest:List Expr}
noncomputable def tAnd (t u:TT):TT:=fun σ H Q=>t σ H fun c H1=>if c=true then u σ H1 Q else Q false H1
noncomputable def tOr (t u:TT):TT:=fun σ H Q=>t σ H fun c H1=>if c=true then Q true H1 else u σ H1 Q
noncomputable def tNot (t:TT):TT:=fun σ H Q=>t σ H fun c H1=>Q (!c) H1
theorem C1c(ha:PT X a tA):PW X (.BoolOp .And [a] pos) tA:=by
 intro wh pins s σ H Q I h
 refine isTrue_and (thn (ha pins s σ H Q I h) fun c s1 e=>?_)
 cases c with
 |true=>exact isTrue_and_nil e
 |false=>exact e
theorem A8c(ha:PT X a tA):PW X (.BoolOp .Or [a] pos) tA:=by
 intro wh pins s σ H Q I h
 refine isTrue_or (thn (ha pins s σ H Q I h) fun c s1 e=>?_)
 cases c with
 |false=>exact isTrue_or_nil e
 |true=>exact e
theorem D1s(ha:PT X a tA)(hb:PW X (.BoolOp .And (b::rest) pos) tB'):PW X (.BoolOp .And (a::b::rest) pos) (tAnd tA tB'):=by
 intro wh pins s σ H Q I h
 refine isTrue_and (thn (ha pins s σ H _ I h) fun c s1 ⟨H1,I1,q1⟩=>?_)
 cases c with
 |true=>exact hb wh pins s1 σ H1 Q I1 q1
 |false=>exact⟨H1,I1,q1⟩
theorem B5b(ha:PT X a tA)(hb:PW X (.BoolOp .Or (b::rest) pos) tB'):PW X (.BoolOp .Or (a::b::rest) pos) (tOr tA tB'):=by
 intro wh pins s σ H Q I h
 refine isTrue_or (thn (ha pins s σ H _ I h) fun c s1 ⟨H1,I1,q1⟩=>?_)
 cases c with
 |true=>exact⟨H1,I1,q1⟩
 |false=>exact hb wh pins s1 σ H1 Q I1 q1
theorem A2e(ha:PT X a tA):PT X (.UnaryOp .Not a pos) (tNot tA):=by
 intro pins s σ H Q I h
 exact isTrue_not (ha pins s σ H (fun c H1=>Q (!c) H1) I h)
noncomputable def Z9y (ta tb:TE):TE:=fun σ H Q=>ta σ H fun x H1=>∃c,x= .bl c/\if c=true then tb σ H1 Q else Q (.bl false) H1
noncomputable def tOrV (ta tb:TE):TE:=fun σ H Q=>ta σ H fun x H1=>∃c,x= .bl c/\if c=true then Q (.bl true) H1 else tb σ H1 Q
noncomputable def A0bd (ta:TE):TE:=fun σ H Q=>ta σ H fun x H1=>∃c,x= .bl c/\Q (.bl (!c)) H1
theorem A0y{op}{t:TE}(h:PE X a t):PE X (.BoolOp op [a] pos) t:=fun pins s σ H Q I hw=>BoolOp_one (h pins s σ H Q I hw)
theorem A8n(ha:PE X a ta)(hb:PE X (.BoolOp .And (b::rest) pos) tb):PE X (.BoolOp .And (a::b::rest) pos) (Z9y ta tb):=by
 intro pins s σ H Q I h
 refine BoolOp_and (thn (ha pins s σ H _ I h) fun v s1 hh_=>?_)
 obtain⟨x,H1,I1,r1,q1⟩:=hh_
 obtain⟨c,rfl,q1⟩:=q1
 cases r1
 refine wpAny_truthy_bool ?_
 cases c with
 |true=>exact hb pins s1 σ H1 Q I1 q1
 |false=>exact⟨.bl false,H1,I1,rfl,q1⟩
theorem U7v(ha:PE X a ta)(hb:PE X (.BoolOp .Or (b::rest) pos) tb):PE X (.BoolOp .Or (a::b::rest) pos) (tOrV ta tb):=by
 intro pins s σ H Q I h
 refine BoolOp_or (thn (ha pins s σ H _ I h) fun v s1 hh_=>?_)
 obtain⟨x,H1,I1,r1,q1⟩:=hh_
 obtain⟨c,rfl,q1⟩:=q1
 cases r1
 refine wpAny_truthy_bool ?_
 cases c with
 |false=>exact hb pins s1 σ H1 Q I1 q1
 |true=>exact⟨.bl true,H1,I1,rfl,q1⟩
theorem G8f(ha:PE X a ta):PE X (.UnaryOp .Not a pos) (A0bd ta):=by
 intro pins s σ H Q I h
 refine UnaryOp_ (thn (ha pins s σ H _ I h) fun v s1 hh_=>?_)
 obtain⟨x,H1,I1,r1,q1⟩:=hh_
 obtain⟨c,rfl,q1⟩:=q1
 cases r1
 exact not_of (wpAny_truthy_bool ⟨.bl (!c),H1,I1,rfl,q1⟩)
noncomputable def tIf (t:TT) (ta tb:TE):TE:=fun σ H Q=>t σ H fun c H1=>if c=true then ta σ H1 Q else tb σ H1 Q
theorem A4n{c:Expr}(hc:PT X c tA)(ha:PE X a ta)(hb:PE X b tb):PE X (.IfExp c a b pos) (tIf tA ta tb):=by
 intro pins s σ H Q I h
 refine wpAny_IfExp (thn (hc pins s σ H _ I h) fun d s1 ⟨H1,I1,q1⟩=>?_)
 cases d with
 |true=>exact ha pins s1 σ H1 Q I1 q1
 |false=>exact hb pins s1 σ H1 Q I1 q1
end
noncomputable def SqL (K:PySem.W.Frag) (H:Hp) (a:Addr) (xs:List V):Prop:=
 Rd H a (.lst xs)\/
   ∃(o:Obj) (its:Array Value) (n:Nat),K.lookup a=some o/\o.cls= .type "list"/\o.dict=none/\o.data= .seq its n/\its.size<=sizeLine/\Vals xs its.toList
noncomputable def SqT (K:PySem.W.Frag) (H:Hp) (a:Addr) (xs:List V):Prop:=
 Rd H a (.tup xs)\/
   ∃(o:Obj) (its:Array Value) (n:Nat),K.lookup a=some o/\o.cls= .type "tuple"/\o.data= .seq its n/\its.size<=sizeLine/\Vals xs its.toList
noncomputable def absV:Value ->Option V
 | .none=>some .non
 | .bool b=>some (.bl b)
 | .int i _=>some (.int i)
 | .str x _=>some (.str x)
 | .bytes b _=>some (.byt b)
 | .float b _=>some (.flt b)
 | .ref a=>some (.ref a)
 | .type n=>some (.ty n)
 |_=>none
theorem RelV.abs{x:V}{u:Value}(r:RelV x u):absV u=some x:=by
 cases x with
 |non=>cases r;rfl
 |bl _=>cases r;rfl
 |int _=>obtain⟨t,rfl⟩:=r;rfl
 |str _=>obtain⟨t,rfl⟩:=r;rfl
 |byt _=>obtain⟨t,rfl⟩:=r;rfl
 |flt _=>obtain⟨t,rfl⟩:=r;rfl
 |ref _=>cases r;rfl
 |ty _=>cases r;rfl
theorem RelV.inj{x y:V}{u:Value}(r:RelV x u)(q:RelV y u):x=y:=Option.some.inj (r.abs.symm.trans q.abs)
theorem Vals.inj:∀{xs ys:List V} {us:List Value},Vals xs us ->Vals ys us ->xs=ys
 |_,_,_,.nil,.nil=>rfl
 |_,_,_,.cons r t,.cons r' t'=>by rw[r.inj r',Vals.inj t t']
section
variable{X:Cx}{pins:List (Addr×Obj)}{σ:St}{H:Hp}{s:Shared}{a:Addr}{xs ys:List V}
theorem SqL.of{K:PySem.W.Frag}(h:H a=some (.lst xs)):SqL K H a xs:= .inl (.inl h)
theorem SqT.of{K:PySem.W.Frag}(h:H a=some (.tup xs)):SqT K H a xs:= .inl (.inl h)
theorem Inv.list(I:Inv X pins σ H s)(h:SqL X.K H a xs):∃its:List Value,Vals xs its/\PlainL s.heap a its.toArray/\xs.length<=sizeLine:=by
 rcases h with h|⟨o,its,n,hk,hc,hd,hs,hz,r⟩
 . obtain⟨z,its,n,r,e⟩:=h.ok I.hok
   exact⟨its,r,⟨_,n,e,rfl,rfl,rfl⟩,z⟩
 . refine⟨its.toList,r,⟨o,n,I.kIn a o hk,hc,hd,by simpa using hs⟩,?_⟩
   have e:=r.length
   simp only[Array.length_toList] at e
   omega
theorem Inv.tuple(I:Inv X pins σ H s)(h:SqT X.K H a xs):∃its:List Value,Vals xs its/\IsTup s.heap a its.toArray/\xs.length<=sizeLine:=by
 rcases h with h|⟨o,its,n,hk,hc,hs,hz,r⟩
 . obtain⟨z,its,r,p⟩:=h.ok I.hok
   exact⟨its,r,p,z⟩
 . refine⟨its.toList,r,⟨o,I.kIn a o hk,hc,n,by simpa using hs⟩,?_⟩
   have e:=r.length
   simp only[Array.length_toList] at e
   omega
theorem Inv.list_inj(I:Inv X pins σ H s)(h:SqL X.K H a xs)(h':SqL X.K H a ys):xs=ys:=by
 obtain⟨its,r,⟨o,n,e,_,_,d⟩,_⟩:=I.list h
 obtain⟨its',r',⟨o',n',e',_,_,d'⟩,_⟩:=I.list h'
 rw[e] at e';cases e'
 rw[d] at d'
 injection d' with d1 _
 have:its=its':=by simpa using congrArg Array.toList d1
 subst this
 exact r.inj r'
theorem Inv.tuple_inj(I:Inv X pins σ H s)(h:SqT X.K H a xs)(h':SqT X.K H a ys):xs=ys:=by
 obtain⟨its,r,⟨o,e,_,n,d⟩,_⟩:=I.tuple h
 obtain⟨its',r',⟨o',e',_,n',d'⟩,_⟩:=I.tuple h'
 rw[e] at e';cases e'
 rw[d] at d'
 injection d' with d1 _
 have:its=its':=by simpa using congrArg Array.toList d1
 subst this
 exact r.inj r'
end
noncomputable abbrev Cx.wish (X:Cx) (E:Value ->Shared ->Prop):Cx:={X with xe:=E}
noncomputable abbrev Cx.nox (X:Cx):Cx:=X.wish fun _ _=>False
theorem Cx.Ok.wish{X:Cx}(ok:X.Ok)(E:Value ->Shared ->Prop):(X.wish E).Ok:=
 ⟨ok.mod,ok.kind,ok.glob,ok.blt,ok.above,ok.inj,ok.has,ok.cab,ok.hd,ok.frames,ok.stk,ok.exf,ok.bs,ok.bsz,ok.noex,ok.exfs,ok.funs,ok.frf⟩
theorem Cx.Ok.unwish{X:Cx}{E:Value ->Shared ->Prop}(ok:(X.wish E).Ok):X.Ok:=
 ⟨ok.mod,ok.kind,ok.glob,ok.blt,ok.above,ok.inj,ok.has,ok.cab,ok.hd,ok.frames,ok.stk,ok.exf,ok.bs,ok.bsz,ok.noex,ok.exfs,ok.funs,ok.frf⟩
section
variable{X:Cx}{pins:List (Addr×Obj)}{σ:St}{H:Hp}{s:Shared}{E:Value ->Shared ->Prop}
theorem Inv.wish(I:Inv X pins σ H s)(E:Value ->Shared ->Prop):Inv (X.wish E) pins σ H s:=⟨I.ok.wish E,I.os,I.bare,I.base,I.loc,I.cell,I.free,I.freeC,I.pin,I.hok,I.len⟩
theorem Inv.unwish(I:Inv (X.wish E) pins σ H s):Inv X pins σ H s:=⟨I.ok.unwish,I.os,I.bare,I.base,I.loc,I.cell,I.free,I.freeC,I.pin,I.hok,I.len⟩
theorem SP.unwish{D:Ends}{f:Flow}{s':Shared}(h:SP (X.wish E) pins D f s'):SP X pins D f s':=by
 cases f with
 |next=>obtain⟨σ',H',I,q⟩:=h;exact⟨σ',H',I.unwish,q⟩
 |brk=>obtain⟨σ',H',I,q⟩:=h;exact⟨σ',H',I.unwish,q⟩
 |cont=>obtain⟨σ',H',I,q⟩:=h;exact⟨σ',H',I.unwish,q⟩
 |ret u=>obtain⟨v,σ',H',I,r,q⟩:=h;exact⟨v,σ',H',I.unwish,r,q⟩
theorem PSs.nox{st:List Stmt}{t:TS}(h:PSs X.nox st t):PSs X st t:=fun pins s σ H D I hw=>
 wpAny_mono (h pins s σ H D (I.wish _) hw) (fun _ _ q=>q.unwish) fun _ _ z=>False.elim z
end
section
variable{X:Cx}{st:Stmt}{rest:List Stmt}{t u:TS}{e:Expr}{te:TE}{pos:Pos}
noncomputable def Z9x:TS:=fun D σ H=>D.nx σ H
noncomputable def tSeq (t u:TS):TS:=fun D σ H=>t {D with nx:=u D} σ H
theorem D7:PSs X [] Z9x:=fun _ _ σ H _ I h=>wpAny_execs_nil ⟨σ,H,I,h⟩
theorem B0(h1:PS X st t)(h2:PSs X rest u):PSs X (st::rest) (tSeq t u):=by
 intro pins s σ H D I h
 refine wpAny_execs_cons (thn (h1 pins s σ H {D with nx:=u D} I h) fun f s1 q=>?_)
 cases f with
 | next=>
   obtain⟨σ',H',I',q⟩:=q
   exact h2 pins s1 σ' H' D I' q
 |ret v=>exact q
 |brk=>exact q
 |cont=>exact q
theorem B5(h1:PS X st t):PSs X [st] t:=by
 intro pins s σ H D I h
 refine wpAny_execs_cons (thn (h1 pins s σ H D I h) fun f s1 q=>?_)
 cases f with
 |next=>exact wpAny_execs_nil q
 |ret v=>exact q
 |brk=>exact q
 |cont=>exact q
theorem Inv.quiet{pins:List (Addr×Obj)}{σ:St}{H:Hp}{s:Shared}(I:Inv X pins σ H s):interactive X.env=false:=by simp[interactive,I.ok.kind]
noncomputable def Z8s (te:TE):TS:=fun D σ H=>te σ H fun _ H1=>D.nx σ H1
theorem Y2(he:PE X e te)(hs:swapsWith e none pos.line X.env=pure false:=by rfl):PS X (.Expr e pos) (Z8s te):=by
 intro pins s σ H D I h
 exact wpAny_Expr_any (thn (he pins s σ H _ I h) fun v s1 ⟨x,H1,I1,r1,q1⟩=>⟨σ,H1,I1,q1⟩) I.quiet hs
noncomputable def tRet (te:TE):TS:=fun D σ H=>te σ H D.rt
theorem C7(he:PE X e te):PS X (.Return (some e) pos) (tRet te):=by
 intro pins s σ H D I h
 exact wpAny_Return_some (thn (he pins s σ H _ I h) fun v s1 ⟨x,H1,I1,r1,q1⟩=>⟨x,σ,H1,I1,r1,q1⟩)
noncomputable def tIfS (c:TT) (t u:TS):TS:=fun D σ H=>c σ H fun b H1=>if b=true then t D σ H1 else u D σ H1
theorem J0{c:Expr}{a b:List Stmt}{tc:TT}(hc:PT X c tc)(ha:PSs X a t)(hb:PSs X b u):PS X (.If c a b pos) (tIfS tc t u):=by
 intro pins s σ H D I h
 refine wpAny_If (thn (hc pins s σ H _ I h) fun d s1 ⟨H1,I1,q1⟩=>?_)
 cases d with
 |true=>exact ha pins s1 σ H1 D I1 q1
 |false=>exact hb pins s1 σ H1 D I1 q1
end
noncomputable abbrev TG:=V ->St ->Hp ->(St ->Hp ->Prop) ->Prop
noncomputable abbrev TGs:=List V ->St ->Hp ->(St ->Hp ->Prop) ->Prop
noncomputable def PG (X:Cx) (target:Expr) (t:TG):Prop:=
 ∀ (pins:List (Addr×Obj)) (s:Shared) (σ:St) (H:Hp) (v:V) (u:Value) (Q:St ->Hp ->Prop),Inv X pins σ H s ->RelV v u ->t v σ H Q ->
   wpAny (model X.prog X.w) X.A (assign target X.env u) (fun _ s'=>∃σ' H',Inv X pins σ' H' s'/\Q σ' H') X.xe s
noncomputable def PGs (X:Cx) (ts:List Expr) (t:TGs):Prop:=
 ∀ (pins:List (Addr×Obj)) (s:Shared) (σ:St) (H:Hp) (vs:List V) (us:List Value) (Q:St ->Hp ->Prop),Inv X pins σ H s ->Vals vs us ->t vs σ H Q ->
   wpAny (model X.prog X.w) X.A (assignInOrder ((assignEach ts X.env).map (·.2)) us) (fun _ s'=>∃σ' H',Inv X pins σ' H' s'/\Q σ' H') X.xe s
noncomputable abbrev TIp:=V ->V ->Hp ->VK ->Prop
noncomputable def PIp (X:Cx) (op:Operator) (t:TIp):Prop:=
 ∀ (pins:List (Addr×Obj)) (s:Shared) (σ:St) (H:Hp) (x y:V) (v u:Value) (Q:VK),Inv X pins σ H s ->RelV x v ->RelV y u ->t x y H Q ->
   wpAny (model X.prog X.w) X.A (inplaceOp op v u) (EP X pins σ Q) X.xe s
section
variable{X:Cx}{pos:Pos}
noncomputable def U6x (i:Nat):TG:=fun v σ H Q=>Q (σ.set i (some v)) H
theorem Y3{i:Nat}{x:Str}(hN:X.N.Nodup)(hi:X.N[i]?=some x)(hx:Loc X.env.scope x)(hf:X.fn x=true\/X.env.scope.names.lookup x=some .local:=by first|exact .inl rfl|exact .inr rfl|assumption):PG X (.Name x pos) (U6x i):=by
 intro pins s σ H v u Q I r h
 exact wpAny_assign_Name (A8f I hN hi hx r (fun s' I'=>⟨_,H,I',h⟩) hf)
noncomputable def gNil:TGs:=fun vs σ H Q=>vs=[]/\Q σ H
noncomputable def Z9z (t:TG) (u:TGs):TGs:=fun vs σ H Q=>∃v r,vs=v::r/\t v σ H fun σ' H'=>u r σ' H' Q
theorem D3d:PGs X [] gNil:=by
 intro pins s σ H vs us Q I r h
 obtain⟨e,h⟩:=h
 subst e
 cases r
 exact assignInOrder_nil ⟨σ,H,I,h⟩
theorem A0e{e:Expr}{es:List Expr}{t:TG}{u:TGs}(h1:PG X e t)(h2:PGs X es u)
   (hs:(assignEach (e::es) X.env).map (·.2)=assign e X.env::(assignEach es X.env).map (·.2):=by rfl):PGs X (e::es) (Z9z t u):=by
 intro pins s σ H vs us Q I r h
 obtain⟨v,vr,e1,h⟩:=h
 subst e1
 cases r with
 | cons r rr=>
   rw[hs]
   refine assignInOrder_cons (thn (h1 pins s σ H _ _ _ I r h) fun _ s1 hh_=>?_)
   obtain⟨σ1,H1,I1,q1⟩:=hh_
   exact h2 pins s1 σ1 H1 _ _ Q I1 rr q1
noncomputable def gTup (K:PySem.W.Frag) (n:Nat) (t:TGs):TG:=fun v σ H Q=>∃a xs,v= .ref a/\SqT K H a xs/\xs.length=n/\t xs σ H Q
theorem G6m{es:List Expr}{k:Nat}{t:TGs}{n:Nat}(hc:X.calm=true)(h:PGs X es t)
   (hn:(assignEach es X.env).length=n:=by rfl) (hst:(assignEach es X.env).findIdx? (·.1)=none:=by rfl):PG X (.Tuple es k pos) (gTup X.K n t):=by
 intro pins s σ H v u Q I r hw
 obtain⟨a,xs,e1,hq,hl,hw⟩:=hw
 subst e1
 cases r
 obtain⟨its,rv,ht,hz⟩:=I.tuple hq
 refine assign_Tuple_tuple (I.ok.hd hc) ht (by simp[hn, <-hl,rv.length]) hst fun h' hx=>?_
 have I1:Inv X pins σ H {s with heap:=h'}:=I.kept (t':=s.toks) fun b o e=>hx b o (Nat.ne_of_lt (Heap.lt_size e)) e
 exact h pins _ σ H xs _ Q I1 (by simpa using rv) hw
noncomputable def tAsg (te:TE) (g:TG):TS:=fun D σ H=>te σ H fun x H1=>g x σ H1 D.nx
theorem G8d{tg e:Expr}{te:TE}{g:TG}(he:PE X e te)(hg:PG X tg g)(hs:swapsWithSole [tg] e pos.line X.env=pure false:=by rfl)(hw:swappedStores [tg] e X.env=pure none:=by rfl)
   (h1:(assignEach [tg] X.env).map (·.2)=[assign tg X.env]:=by rfl):PS X (.Assign [tg] e pos) (tAsg te g):=by
 intro pins s σ H D I h
 refine wpAny_Assign_stores (thn (he pins s σ H _ I h) fun v s1 hh_=>?_) hs hw
 obtain⟨x,H1,I1,r1,q1⟩:=hh_
 rw[h1]
 exact thn (hg pins s1 σ H1 x v _ I1 r1 q1) fun _ s2 q=>q
theorem G0{i:Nat}{x:Str}{e:Expr}{te:TE}{pos':Pos}(hN:X.N.Nodup)(hi:X.N[i]?=some x)(hx:Loc X.env.scope x)(he:PE X e te)(hs:swapsWith e (some (.Name x pos')) pos.line X.env=pure false:=by rfl)(hf:X.fn x=true\/X.env.scope.names.lookup x=some .local:=by first|exact .inl rfl|exact .inr rfl|assumption):
   PS X (.Assign [.Name x pos'] e pos) (tAsg te (U6x i)):=by
 intro pins s σ H D I h
 refine wpAny_Assign_Name (thn (he pins s σ H _ I h) fun v s1 hh_=>?_) hs
 obtain⟨y,H1,I1,r1,q1⟩:=hh_
 exact A8f I1 hN hi hx r1 (fun s2 I2=>⟨_,H1,I2,q1⟩) hf
noncomputable def tAug (i:Nat) (te:TE) (ti:TIp):TS:=fun D σ H=>∃x,σ[i]?=some (some x)/\te σ H fun y H1=>ti x y H1 fun z H2=>D.nx (σ.set i (some z)) H2
theorem B3c{i:Nat}{x:Str}{e:Expr}{te:TE}{op:Operator}{ti:TIp}{pos':Pos}(hN:X.N.Nodup)(hi:X.N[i]?=some x)(hx:Loc X.env.scope x)(he:PE X e te)(ho:PIp X op ti)(hf:X.fn x=true\/X.env.scope.names.lookup x=some .local:=by first|exact .inl rfl|exact .inr rfl|assumption):
   PS X (.AugAssign (.Name x pos') op e pos) (tAug i te ti):=by
 intro pins s σ H D I h
 obtain⟨v,e1,h⟩:=h
 obtain⟨m,hn,hl⟩:=I.loc
 have vis:Vis X.env.scope x:=by rcases hx with k|k;exact .inl k;exact .inr (.inl k)
 obtain⟨u,r,l⟩:=hl i x v hi e1 vis
 refine wpAny_AugAssign_Name ?_
 have go:wpAny (model X.prog X.w) X.A (eval e X.env) (fun w s₂=>wpAny (model X.prog X.w) X.A (inplaceOp op u w) (fun r s₃=>wpAny (model X.prog X.w) X.A (storeName X.env x r) (fun _=>SP X pins D .next) X.xe s₃) X.xe s₂) X.xe s:=by
   refine thn (he pins s σ H _ I h) fun w s1 hh_=>?_
   obtain⟨y,H1,I1,r1,q1⟩:=hh_
   refine thn (ho pins s1 σ H1 v y u w _ I1 r r1 q1) fun z s2 hh_=>?_
   obtain⟨zv,H2,I2,r2,q2⟩:=hh_
   exact A8f I2 hN hi hx r2 (fun s3 I3=>⟨_,H2,I3,q2⟩) hf
 rcases l with⟨hk,hm⟩|⟨hk,c,hc,hcell⟩
 . exact wpAny_loadName_local I.ok.kind hk hn hm go
 . rcases hk with hk|hk
   . exact wpAny_loadName_cell I.ok.kind hk hc hcell go
   . rcases hx with k|k
     . have:X.env.scope.names.lookup x=some .free:=hk
       rw[k] at this;cases this
     . have:X.env.scope.names.lookup x=some .free:=hk
       rw[k] at this;cases this
noncomputable def ipI (f:Int ->Int ->Int):TIp:=fun x y H Q=>∃i j,x= .int i/\y= .int j/\Q (.int (f i j)) H
theorem D2s:PIp X .Add (ipI fun i j=>i+j):=by
 intro pins s σ H x y v u Q I r1 r2 h
 obtain⟨i,j,e1,e2,q⟩:=h
 subst e1;subst e2
 obtain⟨t,rfl⟩:=r1
 obtain⟨t',rfl⟩:=r2
 exact iadd_int ⟨.int _,H,I.tok _,⟨_,rfl⟩,q⟩
theorem Z4b:PIp X .Sub (ipI fun i j=>i-j):=by
 intro pins s σ H x y v u Q I r1 r2 h
 obtain⟨i,j,e1,e2,q⟩:=h
 subst e1;subst e2
 obtain⟨t,rfl⟩:=r1
 obtain⟨t',rfl⟩:=r2
 exact isub_int ⟨.int _,H,I.tok _,⟨_,rfl⟩,q⟩
end
section
variable{X:Cx}{pos:Pos}
noncomputable def U9v (c:TT) (tb:TS):TS:=fun D σ H=>∃W:Nat ->St ->Hp ->Prop,(∃m,W m σ H)/\∀m σ H,W m σ H ->
 c σ H fun b H1=>if b=true then∃N:St ->Hp ->Prop,(∀σ' H',N σ' H' ->∃m',m'<m/\W m' σ' H')/\tb {D with nx:=N,ct:=N,bk:=D.nx} σ H1 else D.nx σ H1
theorem B5e{c:Expr}{body:List Stmt}{tc:TT}{tb:TS}(hp:PassesOwn (model X.prog X.w) X.A X.env X.xe)(hc:PT X c tc)(hb:PSs X body tb):PS X (.While c body [] pos) (U9v tc tb):=by
 intro pins s σ H D I h
 obtain⟨W,⟨m0,w0⟩,turn⟩:=h
 refine wpAny_While (codeAny_whileLoop (fun n s'=>∃σ' H',Inv X pins σ' H' s'/\W n σ' H') ?_ m0 ⟨σ,H,I,w0⟩)
 rintro n s1 ⟨σ1,H1,I1,w1⟩
 refine wpAny_passesOwn hp (thn (hc pins s1 σ1 H1 _ I1 (turn n σ1 H1 w1)) fun b s2 ⟨H2,I2,q2⟩=>?_)
 cases b with
 | true=>
   obtain⟨N,hN,q2⟩:=q2
   rw[if_pos rfl]
   refine wpAny_passesOwn hp (thn (hb pins s2 σ1 H2 _ I2 q2) fun f s3 q3=>?_)
   cases f with
   | next=>
     obtain⟨σ3,H3,I3,n3⟩:=q3
     obtain⟨m',hm,w3⟩:=hN σ3 H3 n3
     exact⟨m',hm,σ3,H3,I3,w3⟩
   | cont=>
     obtain⟨σ3,H3,I3,n3⟩:=q3
     obtain⟨m',hm,w3⟩:=hN σ3 H3 n3
     exact⟨m',hm,σ3,H3,I3,w3⟩
   |brk=>exact q3
   |ret v=>exact q3
 | false=>
   rw[if_neg Bool.false_ne_true]
   exact wpAny_execs_nil ⟨σ1,H2,I2,q2⟩
end
structure It where
 go:Nat ->Hp ->Prop
 yld:Nat ->Hp ->V ->Hp ->Prop
 stop:Nat ->Hp ->Prop
noncomputable def B3j (X:Cx) (pins:List (Addr×Obj)) (H:Hp) (b:Addr):Prop:=
 H b=none/\b≠X.env.locals/\b ∉ X.fs/\(b∈X.ex\/X.s₀.heap.objs.size<=b)/\(∀x c,X.env.cells.lookup x=some c ->c≠b)/\∀p∈X.pn++pins,p.1≠b
theorem Inv.fpOk{X:Cx}{pins:List (Addr×Obj)}{σ:St}{H H':Hp}{s:Shared}{b:Addr}(I:Inv X pins σ H s)(hb:s.heap.objs.size<=b)(hn:H' b=none):B3j X pins H' b:=by
 refine⟨hn,Nat.ne_of_gt (Nat.lt_of_lt_of_le I.lt hb),I.nofs hb,.inr (Nat.le_trans I.sz hb),fun x c e z=>?_,fun p hp z=>?_⟩
 . obtain⟨v,q⟩:=I.cell x c e
   exact absurd (Nat.lt_of_lt_of_le q.lt (by rw[z];exact hb)) (Nat.lt_irrefl _)
 . exact absurd (Nat.lt_of_lt_of_le (Heap.lt_size (I.pin p hp).1) (by rw[z];exact hb)) (Nat.lt_irrefl _)
structure Turn(P:Program)(w:World)(K:PySem.W.Frag)(tg:Expr)(J:It)(fp:List Addr)(it:Addr)(tn:Nat ->Heap ->Prop):Prop where
 mem:it∈fp
 obj:∀i h,tn i h ->∀b∈fp,∃o,h.get? b=some o/\∀v,o.data≠ .cell v
 keep:∀i h h',tn i h ->(∀b∈fp,∀o,h.get? b=some o ->h'.get? b=some o) ->tn i h'
 item:∀(X:Cx),X.prog=P ->X.w=w ->X.K=K ->X.calm=true ->∀(i:Nat) (pins:List (Addr×Obj)) (s:Shared) (σ:St) (H:Hp) (E:Value ->Shared ->Prop),Inv X pins σ H s ->(∀b∈fp,B3j X pins H b) ->tn i s.heap ->J.go i H ->
   wpAny (model P w) X.A (pyNext (.ref it)) (fun r s1=>∃u,r=some u/\
     wpAny (model P w) X.A (letOwnedTupleGo tg (.ref it) u) (fun _ s2=>∃x H',Inv X pins σ H' s2/\RelV x u/\J.yld i H x H'/\tn (i+1) s2.heap/\∀b∈fp,H' b=none) E s1) E s
 done:∀(X:Cx),X.prog=P ->X.w=w ->X.K=K ->X.calm=true ->∀(i:Nat) (pins:List (Addr×Obj)) (s:Shared) (σ:St) (H:Hp) (E:Value ->Shared ->Prop),Inv X pins σ H s ->(∀b∈fp,B3j X pins H b) ->tn i s.heap ->J.stop i H ->
   wpAny (model P w) X.A (pyNext (.ref it)) (fun r s1=>r=none/\Inv X pins σ H s1) E s
 self:∀(A:Around) (i:Nat) (s:Shared) (Q:Value ->Shared ->Prop) (E:Value ->Shared ->Prop),tn i s.heap ->Q (.ref it) s ->wpAny (model P w) A (pyIter (.ref it)) Q E s
noncomputable abbrev TI:=St ->Hp ->(It ->Hp ->Prop) ->Prop
noncomputable def PIE (X:Cx) (pins:List (Addr×Obj)) (σ:St) (tg:Expr) (R:It ->Hp ->Prop) (itv:Value) (s2:Shared):Prop:=
 ∃(it:Addr) (fp:List Addr) (tn:Nat ->Heap ->Prop) (J:It) (H':Hp),itv= .ref it/\Inv X pins σ H' s2/\Turn X.prog X.w X.K tg J fp it tn/\tn 0 s2.heap/\(∀b∈fp,B3j X pins H' b)/\R J H'
noncomputable def PI (X:Cx) (tg iter:Expr) (wi:TI):Prop:=
 ∀ (pins:List (Addr×Obj)) (s:Shared) (σ:St) (H:Hp) (R:It ->Hp ->Prop),Inv X pins σ H s ->wi σ H R ->
   wpAny (model X.prog X.w) X.A (eval iter X.env) (fun v s1=>wpAny (model X.prog X.w) X.A (pyIter v) (PIE X pins σ tg R) X.xe s1) X.xe s
theorem U7j{M:Model}{A:Around}{E:Value ->Shared ->Prop}{s:Shared}{tg:Expr}{it:Addr}{u:Value}{o:Obj}{n:String}{vs:Array Value}{Q:Unit ->Shared ->Prop}(ho:s.heap.get? it=some o)(hc:o.cls= .type n)(hd:o.data= .fields vs)
   (hn: ["enumerate","zip","dict_itemiterator","dict_reverseitemiterator","odict_iterator","itertools.zip_longest","itertools.pairwise"].contains n=false) (hQ:Q () s):wpAny M A (letOwnedTupleGo tg (.ref it) u) Q E s:=by
 unfold letOwnedTupleGo
 cases tg <;>first
   |exact wpAny_pure hQ
   |(cases u<;>first
       |exact wpAny_pure hQ
       | (refine wpAny_bind (wpAny_load ho ?_)
          rw[hc,hd]
          show wpAny M A (if(["enumerate","zip","dict_itemiterator","dict_reverseitemiterator","odict_iterator","itertools.zip_longest","itertools.pairwise"].contains n&&vs[0]?==some (rawInt _))=true then _ else _) Q E s
          rw[if_neg (by intro h;rw[hn,Bool.false_and] at h;cases h)]
          exact wpAny_pure hQ))
noncomputable def Itl (K:PySem.W.Frag) (a:Addr):It:=
 ⟨fun i H=>∃xs x,SqL K H a xs/\xs[i]?=some x,fun i H x H'=>H'=H/\∀xs,SqL K H a xs ->xs[i]?=some x,fun i H=>∃xs,SqL K H a xs/\xs.length<=i⟩
noncomputable def Itt (K:PySem.W.Frag) (a:Addr):It:=
 ⟨fun i H=>∃xs x,SqT K H a xs/\xs[i]?=some x,fun i H x H'=>H'=H/\∀xs,SqT K H a xs ->xs[i]?=some x,fun i H=>∃xs,SqT K H a xs/\xs.length<=i⟩
noncomputable def Itr (lo:Int) (n:Nat):It:=⟨fun i _=>i<n,fun i H x H'=>H'=H/\x= .int (lo+i),fun i _=>n<=i⟩
theorem U2m{P:Program}{w:World}{K:PySem.W.Frag}{tg:Expr}(a it:Addr):Turn P w K tg (Itl K a) [it] it (fun i h=>h.IsListIter it a i) where
 mem:=by simp
 obj:=fun i h st b hb=>by
   have e:b=it:=by simpa using hb
   subst e
   obtain⟨o,e,c,d⟩:=st
   exact⟨o,e,fun v z=>by rw[d] at z;cases z⟩
 keep:=fun i h h' st k=>st.at fun o e=>k it (by simp) o e
 item:=by
   intro X hP hw hK hc i pins s σ H E I hf st hg
   subst hP hw hK
   obtain⟨xs,x,hq,hx⟩:=hg
   obtain⟨its,rv,p,hz⟩:=I.list hq
   obtain⟨u,hu,ru⟩:=rv.get hx
   obtain⟨f0,f1,f2,f3,f4,f5⟩:=hf it (by simp)
   refine wpAny_pyNext_list_item st p.isList (x:=u) (by simpa using hu) fun h' st' sb=>?_
   have I1:Inv X pins σ H {s with heap:=h'}:=I.turned (t':=s.toks) (fun b o hb e=>(sb.2 b hb).trans e) f0 f1 f3 f4 f5
   obtain⟨o,e,c,d⟩:=id st'
   exact⟨u,rfl,U7j (s:={s with heap:=h'}) e c d (by decide) ⟨x,H,I1,ru,⟨rfl,fun ys hy=>by rw[I.list_inj hy hq];exact hx⟩,st',fun b hb=>(hf b hb).1⟩⟩
 done:=by
   intro X hP hw hK hc i pins s σ H E I hf st hg
   subst hP hw hK
   obtain⟨xs,hq,hx⟩:=hg
   obtain⟨its,rv,p,hz⟩:=I.list hq
   obtain⟨f0,f1,f2,f3,f4,f5⟩:=hf it (by simp)
   have hl:=rv.length
   exact wpAny_pyNext_list_end (I.ok.hd hc) st p.isList (by simp;omega) fun h' eb=>⟨rfl,I.turned (t':=s.toks) (fun b o hb e=>eb b o hb e) f0 f1 f3 f4 f5⟩
 self:=fun _ _ _ _ _ st h=>wpAny_pyIter_listiter st h
theorem G7g{P:Program}{w:World}{K:PySem.W.Frag}{tg:Expr}(a it:Addr):Turn P w K tg (Itt K a) [it] it (fun i h=>h.IsTupleIter it a i) where
 mem:=by simp
 obj:=fun i h st b hb=>by
   have e:b=it:=by simpa using hb
   subst e
   obtain⟨o,e,c,d⟩:=st
   exact⟨o,e,fun v z=>by rw[d] at z;cases z⟩
 keep:=fun i h h' st k=>st.at fun o e=>k it (by simp) o e
 item:=by
   intro X hP hw hK hc i pins s σ H E I hf st hg
   subst hP hw hK
   obtain⟨xs,x,hq,hx⟩:=hg
   obtain⟨its,rv,p,hz⟩:=I.tuple hq
   obtain⟨u,hu,ru⟩:=rv.get hx
   obtain⟨f0,f1,f2,f3,f4,f5⟩:=hf it (by simp)
   refine wpAny_pyNext_tuple_item st (show s.heap.IsTuple a its.toArray from p) (x:=u) (by simpa using hu) fun h' st' sb=>?_
   have I1:Inv X pins σ H {s with heap:=h'}:=I.turned (t':=s.toks) (fun b o hb e=>(sb.2 b hb).trans e) f0 f1 f3 f4 f5
   obtain⟨o,e,c,d⟩:=id st'
   exact⟨u,rfl,U7j (s:={s with heap:=h'}) e c d (by decide) ⟨x,H,I1,ru,⟨rfl,fun ys hy=>by rw[I.tuple_inj hy hq];exact hx⟩,st',fun b hb=>(hf b hb).1⟩⟩
 done:=by
   intro X hP hw hK hc i pins s σ H E I hf st hg
   subst hP hw hK
   obtain⟨xs,hq,hx⟩:=hg
   obtain⟨its,rv,p,hz⟩:=I.tuple hq
   obtain⟨f0,f1,f2,f3,f4,f5⟩:=hf it (by simp)
   have hl:=rv.length
   exact wpAny_pyNext_tuple_end (I.ok.hd hc) st (show s.heap.IsTuple a its.toArray from p) (by simp;omega) fun h' eb=>⟨rfl,I.turned (t':=s.toks) (fun b o hb e=>eb b o hb e) f0 f1 f3 f4 f5⟩
 self:=fun _ _ _ _ _ st h=>wpAny_pyIter_tupleiter st h
theorem G6z{P:Program}{w:World}{K:PySem.W.Frag}{tg:Expr}(it:Addr)(lo:Int)(n:Nat):Turn P w K tg (Itr lo n) [it] it (fun i h=>IsRangeIter h it (lo+(i:Nat)*1) ((n:Int)- (i:Nat)) 1) where
 mem:=by simp
 obj :=fun i h st b hb=>by
   have e:b=it:=by simpa using hb
   subst e
   exact⟨_,st,fun v z=>by
     have z':Data.fields _=Data.cell v:=z
     cases z'⟩
 keep:=fun i h h' st k=>k it (by simp) _ st
 item:=by
   intro X hP hw hK hc i pins s σ H E I hf st hg
   subst hP hw hK
   obtain⟨f0,f1,f2,f3,f4,f5⟩:=hf it (by simp)
   have W:=Walks.range (prog:=X.prog) (w:=X.w) (I.ok.hd hc) it lo 1 n
   refine W.item i s _ _ hg st fun v h' tk hv st' kk=>?_
   obtain⟨t,rfl⟩:=hv
   have I1:Inv X pins σ H {s with heap:=h',toks:=tk}:=I.turned (fun b o hb e=>kk b o (by simpa using hb) e) f0 f1 f3 f4 f5
   refine⟨_,rfl,U7j (s:={s with heap:=h',toks:=tk}) (n:="range_iterator") st' rfl rfl (by decide) ⟨.int (lo+i),H,I1,⟨t,?_⟩,⟨rfl,rfl⟩,st',fun b hb=>(hf b hb).1⟩⟩
   rw[Int.mul_one]
 done:=by
   intro X hP hw hK hc i pins s σ H E I hf st hg
   subst hP hw hK
   obtain⟨f0,f1,f2,f3,f4,f5⟩:=hf it (by simp)
   exact wpAny_pyNext_range_end (I.ok.hd hc) st (by have:n<=i:=hg;omega) fun h' eb=>⟨rfl,I.turned (t':=s.toks) (fun b o hb e=>eb b o hb e) f0 f1 f3 f4 f5⟩
 self:=fun _ _ _ _ _ st h=>wpAny_pyIter_rangeiter st h
section
variable{X:Cx}{tg:Expr}
noncomputable def Z8j (K:PySem.W.Frag) (tl:TE):TI:=fun σ H R=>tl σ H fun x H1=>∃a,x= .ref a/\(∃xs,SqL K H1 a xs)/\R (Itl K a) H1
noncomputable def iTup (K:PySem.W.Frag) (tl:TE):TI:=fun σ H R=>tl σ H fun x H1=>∃a,x= .ref a/\(∃xs,SqT K H1 a xs)/\R (Itt K a) H1
theorem C1d{l:Expr}{tl:TE}(hl:PE X l tl):PI X tg l (Z8j X.K tl):=by
 intro pins s σ H R I h
 refine thn (hl pins s σ H _ I h) fun v s1 hh_=>?_
 obtain⟨x,H1,I1,r1,q1⟩:=hh_
 obtain⟨a,e,⟨xs,hq⟩,q⟩:=q1
 subst e
 cases r1
 obtain⟨its,rv,p,hz⟩:=I1.list hq
 refine wpAny_pyIter_list p.isList ?_
 refine⟨s1.heap.objs.size,[s1.heap.objs.size],_,_,H1,rfl,I1.kept (t':=s1.toks) fun b o e=>Heap.get?_push_of_some _ e,U2m a _,⟨_,Heap.get?_push_size _ rfl,rfl,rfl⟩,fun b hb=>?_,q⟩
 have e:b=s1.heap.objs.size:=by simpa using hb
 subst e
 exact I1.fpOk (Nat.le_refl _) (I1.hok.fresh (Nat.le_refl _))
theorem U9k{l:Expr}{tl:TE}(hl:PE X l tl):PI X tg l (iTup X.K tl):=by
 intro pins s σ H R I h
 refine thn (hl pins s σ H _ I h) fun v s1 hh_=>?_
 obtain⟨x,H1,I1,r1,q1⟩:=hh_
 obtain⟨a,e,⟨xs,hq⟩,q⟩:=q1
 subst e
 cases r1
 obtain⟨its,rv,p,hz⟩:=I1.tuple hq
 refine wpAny_pyIter_tuple (show s1.heap.IsTuple a its.toArray from p) ?_
 refine⟨s1.heap.objs.size,[s1.heap.objs.size],_,_,H1,rfl,I1.kept (t':=s1.toks) fun b o e=>Heap.get?_push_of_some _ e,G7g a _,⟨_,Heap.get?_push_size _ rfl,rfl,rfl⟩,fun b hb=>?_,q⟩
 have e:b=s1.heap.objs.size:=by simpa using hb
 subst e
 exact I1.fpOk (Nat.le_refl _) (I1.hok.fresh (Nat.le_refl _))
theorem U8v{pins:List (Addr×Obj)}{σ:St}{H:Hp}{s:Shared}{R:It ->Hp ->Prop}{E:Value ->Shared ->Prop}{lo hi:Int}{t u v:Tok}{tk:Nat}(I:Inv X pins σ H s)(h1: -(2^62)<=lo)(h2:lo<2^62)(h3: -(2^62)<=hi)(h4:hi<2^62)
   (q:R (Itr lo (hi-lo).toNat) H):wpAny (model X.prog X.w) X.A (pyIter (.ref s.heap.objs.size)) (PIE X pins σ tg R) E {s with heap:=s.heap.push {cls:= .type "range",data:= .fields #[.int lo t,.int hi u,.int 1 v]},toks:=tk}:=by
 refine wpAny_pyIter_range (IsRange.new ..) (small_one h1 h2 h3 h4) ?_
 have I1:Inv X pins σ H {s with heap:=s.heap.push {cls:= .type "range",data:= .fields #[.int lo t,.int hi u,.int 1 v]},toks:=tk}:=I.kept fun b o e=>Heap.get?_push_of_some _ e
 refine⟨(s.heap.push {cls:= .type "range",data:= .fields #[.int lo t,.int hi u,.int 1 v]}).objs.size,[(s.heap.push {cls:= .type "range",data:= .fields #[.int lo t,.int hi u,.int 1 v]}).objs.size],_,_,H,rfl,
   I1.kept (t':=tk) fun b o e=>Heap.get?_push_of_some _ e,G6z _ lo (hi-lo).toNat,?_,fun b hb=>?_,q⟩
 . have e1:lo+((0:Nat):Int)*1=lo:=by simp
   have e2:(((hi-lo).toNat:Nat):Int)- ((0:Nat):Int)=Builtin.Range.rangeSize lo hi 1:=by rw[rangeSize_one];split<;>omega
   show IsRangeIter _ _ (lo+((0:Nat):Int)*1) ((((hi-lo).toNat:Nat):Int)- ((0:Nat):Int)) 1
   rw[e1,e2]
   exact Heap.get?_push_size _ rfl
 . have e:b=(s.heap.push {cls:= .type "range",data:= .fields #[.int lo t,.int hi u,.int 1 v]}).objs.size:=by simpa using hb
   subst e
   exact I1.fpOk (Nat.le_refl _) (I1.hok.fresh (Nat.le_refl _))
noncomputable def Z9c (ta:TA):TI:=fun σ H R=>ta σ H fun vs H1=>∃j:Int,vs=[.int j]/\ -(2^62)<=j/\j<2^62/\R (Itr 0 j.toNat) H1
theorem U1m{a:Expr}{ta:TA}{p pos:Pos}(hg:Gl X "range")(hm:X.mg "range"=none)(ha:PA X [a] ta)(hs:starEach [a] X.env=[(false,eval a X.env)]:=by rfl):PI X tg (.Call (.Name "range" p) [a] [] pos) (Z9c ta):=by
 intro pins s σ H R I h
 refine Call_ (D1z I hg hm boot_range (PyProof.Rows.callWith_type1 (thn (ha pos pins s σ H _ I h) fun us s1 hh_=>?_) hs rfl))
 obtain⟨vs,H1,I1,r1,q1⟩:=hh_
 obtain⟨j,e,q1,q2,q⟩:=q1
 subst e
 cases r1 with
 | cons r rr=>
   cases rr
   obtain⟨t,rfl⟩:=r
   exact call_range_1 (U8v I1 (by omega) (by omega) q1 q2 (by simpa using q))
noncomputable def tFor (wi:TI) (g:TG) (tb:TS):TS:=fun D σ H=>wi σ H fun J H1=>∃W:Nat ->Nat ->St ->Hp ->Prop,(∃m,W 0 m σ H1)/\∀i m σ H,W i m σ H ->
 (J.stop i H/\D.nx σ H)\/(J.go i H/\∃N:St ->Hp ->Prop,(∀σ' H',N σ' H' ->∃m',m'<m/\W (i+1) m' σ' H')/\∀x H',J.yld i H x H' ->g x σ H' fun σ2 H2=>tb {D with nx:=N,ct:=N,bk:=D.nx} σ2 H2)
noncomputable def A0b (fp:List Addr) (h:Heap):List (Addr×Obj):=fp.filterMap fun b=>(h.get? b).map fun o=>(b,o)
theorem A1a{fp:List Addr}{h:Heap}{b:Addr}{o:Obj}(hb:b∈fp)(e:h.get? b=some o):(b,o)∈A0b fp h:=List.mem_filterMap.mpr ⟨b,hb,by rw[e];rfl⟩
theorem U2k{fp:List Addr}{h:Heap}{p:Addr×Obj}(hp:p∈A0b fp h):p.1∈fp/\h.get? p.1=some p.2:=by
 obtain⟨b,hb,e⟩:=List.mem_filterMap.mp hp
 cases q:h.get? b with
 |none=>rw[q] at e;cases e
 | some o=>
   rw[q] at e
   have e':(b,o)=p:=Option.some.inj e
   subst e'
   exact⟨hb,q⟩
theorem Inv.pinned{pins:List (Addr×Obj)}{σ:St}{H:Hp}{s:Shared}{fp:List Addr}(I:Inv X pins σ H s)(hf:∀b∈fp,B3j X pins H b)(ho:∀b∈fp,∃o,s.heap.get? b=some o/\∀v,o.data≠ .cell v):Inv X (pins++A0b fp s.heap) σ H s:=
 I.pins_of fun p hp=>(List.mem_append.mp hp).elim (fun z=>I.pin p (List.mem_append_right _ z)) fun z=>by
   obtain⟨hb,e⟩:=U2k z
   obtain⟨f0,f1,f2,_⟩:=hf p.1 hb
   obtain⟨o,e',d⟩:=ho p.1 hb
   rw[e] at e';cases e'
   exact⟨e,f0,f1,f2,d⟩
theorem Inv.unpinned{pins pl:List (Addr×Obj)}{σ:St}{H:Hp}{s:Shared}(I:Inv X (pins++pl) σ H s):Inv X pins σ H s:=I.pins_of fun p hp=>I.pin p (List.mem_append_right _ (List.mem_append_left _ hp))
theorem G6y{iter:Expr}{body:List Stmt}{wi:TI}{g:TG}{tb:TS}{pos:Pos}(hp:PassesOwn (model X.prog X.w) X.A X.env X.xe)(hc:X.calm=true)(hi:PI X tg iter wi)(hg:PG X tg g)(hb:PSs X body tb)
   (hs:∀x,foldedSetIterable iter X.env x=pure x:=by intro _;rfl):PS X (.For tg iter body [] pos) (tFor wi g tb):=by
 intro pins s σ H D I h
 refine wpAny_For (thn (hi pins s σ H _ I h) fun v s1 h1=>thn h1 fun itv s2 h2=>?_) hs
 obtain⟨it,fp,tn,J,H2,e,I2,T,st2,f2,W,⟨m0,w0⟩,turn⟩:=h2
 subst e
 have stat:∀{H':Hp},(∀b∈fp,H' b=none) ->∀b∈fp,B3j X pins H' b:=fun hn b hb=>⟨hn b hb,(f2 b hb).2⟩
 refine codeAny_forLoop_any (fun n s'=>∃i σ' H',Inv X pins σ' H' s'/\tn i s'.heap/\(∀b∈fp,H' b=none)/\W i n σ' H') ?_ m0 ⟨0,σ,H2,I2,st2,fun b hb=>(f2 b hb).1,w0⟩
 rintro n s3 ⟨i,σ3,H3,I3,st3,fr3,w3⟩
 rcases turn i n σ3 H3 w3 with⟨stop,qn⟩|⟨go,N,hN,step⟩
 . refine wpAny_passesOwn hp (thn (T.done X rfl rfl rfl hc i pins s3 σ3 H3 X.xe I3 (stat fr3) st3 stop) fun r s4 ⟨hr,I4⟩=>?_)
   subst hr
   exact wpAny_execs_nil ⟨σ3,H3,I4,qn⟩
 . refine wpAny_passesOwn hp (thn (T.item X rfl rfl rfl hc i pins s3 σ3 H3 X.xe I3 (stat fr3) st3 go) fun r s4 ⟨u,hr,h4⟩=>?_)
   subst hr
   refine wpAny_passesOwn hp (thn h4 fun _ s5 hh_=>?_)
   obtain⟨x,H5,I5,r5,y5,st5,fr5⟩:=hh_
   have I5':=I5.pinned (stat fr5) (T.obj _ _ st5)
   refine wpAny_passesOwn hp (thn (hg _ s5 σ3 H5 x u _ I5' r5 (step x H5 y5)) fun _ s6 hh_=>?_)
   obtain⟨σ6,H6,I6,q6⟩:=hh_
   refine wpAny_passesOwn hp (thn (hb _ s6 σ6 H6 _ I6 q6) fun f s7 q7=>?_)
   have again:∀{σ7:St} {H7:Hp},Inv X (pins++A0b fp s5.heap) σ7 H7 s7 ->N σ7 H7 ->∃m,m<n/\∃i σ' H',Inv X pins σ' H' s7/\tn i s7.heap/\(∀b∈fp,H' b=none)/\W i m σ' H':=fun{σ7 H7} I7 n7=>by
     obtain⟨m',hm,w7⟩:=hN σ7 H7 n7
     refine⟨m',hm,i+1,σ7,H7,I7.unpinned,T.keep _ _ _ st5 fun b hb o e=>(I7.pin (b,o) (List.mem_append_right _ (List.mem_append_right _ (A1a hb e)))).1,fun b hb=>?_,w7⟩
     obtain⟨o,e,d⟩:=T.obj _ _ st5 b hb
     exact(I7.pin (b,o) (List.mem_append_right _ (List.mem_append_right _ (A1a hb e)))).2.1
   cases f with
   |next=>obtain⟨σ7,H7,I7,n7⟩:=q7;exact again I7 n7
   |cont=>obtain⟨σ7,H7,I7,n7⟩:=q7;exact again I7 n7
   |brk=>obtain⟨σ7,H7,I7,q7⟩:=q7;exact⟨σ7,H7,I7.unpinned,q7⟩
   |ret v=>obtain⟨x7,σ7,H7,I7,r7,q7⟩:=q7;exact⟨x7,σ7,H7,I7.unpinned,r7,q7⟩
end
theorem C2z{K:PySem.W.Frag}{a:Addr}{xs:List V}{g:TG}{tb:TS}{D:Ends}{σ:St}{H:Hp}(Pv:Nat ->St ->Hp ->Prop)(h0:Pv 0 σ H)(hl:∀i σ H,i<=xs.length ->Pv i σ H ->SqL K H a xs)
   (hs:∀i x σ H,xs[i]?=some x ->Pv i σ H ->g x σ H fun σ2 H2=>tb {D with nx:=Pv (i+1),ct:=Pv (i+1),bk:=D.nx} σ2 H2) (hd:∀σ H,Pv xs.length σ H ->D.nx σ H):
   ∃ W:Nat ->Nat ->St ->Hp ->Prop,(∃m,W 0 m σ H)/\∀i m σ H,W i m σ H ->
     ((Itl K a).stop i H/\D.nx σ H)\/((Itl K a).go i H/\∃N:St ->Hp ->Prop,(∀σ' H',N σ' H' ->∃m',m'<m/\W (i+1) m' σ' H')/\∀x H',(Itl K a).yld i H x H' ->g x σ H' fun σ2 H2=>tb {D with nx:=N,ct:=N,bk:=D.nx} σ2 H2):=by
 refine⟨fun i m σ H=>m=xs.length-i/\i<=xs.length/\Pv i σ H,⟨xs.length,by simp,Nat.zero_le _,h0⟩,?_⟩
 rintro i m σ H ⟨rfl,hi,p⟩
 have q:=hl i σ H hi p
 by_cases hlt:i<xs.length
 . refine .inr ⟨⟨xs,xs[i],q,by simp[hlt]⟩,Pv (i+1),fun σ' H' p'=>⟨xs.length-(i+1),by omega,rfl,hlt,p'⟩,fun x H' y=>?_⟩
   obtain⟨e,y⟩:=y
   subst e
   exact hs i x σ _ (y xs q) p
 . have e:i=xs.length:=by omega
   subst e
   exact .inl ⟨⟨xs,q,Nat.le_refl _⟩,hd σ H p⟩
theorem U2r{lo:Int}{n:Nat}{g:TG}{tb:TS}{D:Ends}{σ:St}{H:Hp}(Pv:Nat ->St ->Hp ->Prop)(h0:Pv 0 σ H)
   (hs:∀i σ H,i<n ->Pv i σ H ->g (.int (lo+i)) σ H fun σ2 H2=>tb {D with nx:=Pv (i+1),ct:=Pv (i+1),bk:=D.nx} σ2 H2) (hd:∀σ H,Pv n σ H ->D.nx σ H):
   ∃ W:Nat ->Nat ->St ->Hp ->Prop,(∃m,W 0 m σ H)/\∀i m σ H,W i m σ H ->
     ((Itr lo n).stop i H/\D.nx σ H)\/((Itr lo n).go i H/\∃N:St ->Hp ->Prop,(∀σ' H',N σ' H' ->∃m',m'<m/\W (i+1) m' σ' H')/\∀x H',(Itr lo n).yld i H x H' ->g x σ H' fun σ2 H2=>tb {D with nx:=N,ct:=N,bk:=D.nx} σ2 H2):=by
 refine⟨fun i m σ H=>m=n-i/\i<=n/\Pv i σ H,⟨n,by simp,Nat.zero_le _,h0⟩,?_⟩
 rintro i m σ H ⟨rfl,hi,p⟩
 by_cases hlt:i<n
 . refine .inr ⟨hlt,Pv (i+1),fun σ' H' p'=>⟨n-(i+1),by omega,rfl,hlt,p'⟩,fun x H' y=>?_⟩
   obtain⟨e,y⟩:=y
   subst e y
   exact hs i σ _ hlt p
 . have e:i=n:=by omega
   subst e
   exact .inl ⟨Nat.le_refl _,hd σ H p⟩
theorem B5a{c:TT}{tb:TS}{D:Ends}{σ:St}{H:Hp}(Pv:St ->Hp ->Prop)(μ:St ->Hp ->Nat)(h0:Pv σ H)
   (hs:∀σ H,Pv σ H ->c σ H fun b H1=>if b=true then tb {D with nx:=fun σ' H'=>Pv σ' H'/\μ σ' H'<μ σ H,ct:=fun σ' H'=>Pv σ' H'/\μ σ' H'<μ σ H,bk:=D.nx} σ H1 else D.nx σ H1)
   (mono:∀σ H Q Q',(∀b H1,Q b H1 ->Q' b H1) ->c σ H Q ->c σ H Q'):U9v c tb D σ H:=by
 refine⟨fun m σ H=>m=μ σ H/\Pv σ H,⟨_,rfl,h0⟩,?_⟩
 rintro m σ H ⟨rfl,p⟩
 refine mono σ H _ _ (fun b H1 q=>?_) (hs σ H p)
 cases b with
 |true=>exact⟨_,fun σ' H' ⟨p',l⟩=>⟨_,l,rfl,p'⟩,q⟩
 |false=>exact q
noncomputable abbrev R2:=V ->V ->Hp ->VK ->Prop
noncomputable def OpR (X:Cx) (f:Value ->Value ->Sem Value) (r:R2):Prop:=
 ∀ (pins:List (Addr×Obj)) (s:Shared) (σ:St) (H:Hp) (x y:V) (v u:Value) (Q:VK),Inv X pins σ H s ->RelV x v ->RelV y u ->r x y H Q ->
   wpAny (model X.prog X.w) X.A (f v u) (EP X pins σ Q) X.xe s
noncomputable def UnR (X:Cx) (f:Value ->Sem Value) (r:V ->Hp ->VK ->Prop):Prop:=
 ∀ (pins:List (Addr×Obj)) (s:Shared) (σ:St) (H:Hp) (x:V) (v:Value) (Q:VK),Inv X pins σ H s ->RelV x v ->r x H Q ->
   wpAny (model X.prog X.w) X.A (f v) (EP X pins σ Q) X.xe s
noncomputable def A7y (X:Cx) (f:Value) (r:List V ->Hp ->VK ->Prop):Prop:=
 ∀ (pins:List (Addr×Obj)) (s:Shared) (σ:St) (H:Hp) (xs:List V) (us:List Value) (Q:VK),Inv X pins σ H s ->Vals xs us ->r xs H Q ->
   wpAny (model X.prog X.w) X.A (call f us) (EP X pins σ Q) X.xe s
noncomputable def tOp (r:R2) (ta tb:TE):TE:=fun σ H Q=>ta σ H fun x H1=>tb σ H1 fun y H2=>r x y H2 Q
noncomputable def tUn (r:V ->Hp ->VK ->Prop) (ta:TE):TE:=fun σ H Q=>ta σ H fun x H1=>r x H1 Q
noncomputable def rI (C:Int ->Int ->Prop) (g:Int ->Int ->V):R2:=fun x y H Q=>∃i j,x= .int i/\y= .int j/\C i j/\Q (g i j) H
noncomputable def rI0 (g:Int ->Int ->V):R2:=fun x y H Q=>∃i j,x= .int i/\y= .int j/\Q (g i j) H
noncomputable def rU (g:Int ->V):V ->Hp ->VK ->Prop:=fun x H Q=>∃i,x= .int i/\Q (g i) H
section
variable{X:Cx}{a b c:Expr}{ta tb tc:TE}{pos:Pos}
theorem Z3y(ha:PE X a ta)(hb:PE X b tb){pins:List (Addr×Obj)}{s:Shared}{σ:St}{H:Hp}{R:V ->V ->Hp ->Prop}(I:Inv X pins σ H s)
   (h:ta σ H fun x H1=>tb σ H1 fun y H2=>R x y H2) {Q:Value ->Shared ->Prop} {f:Value ->Value ->Sem Value}
   (hf:∀v u s2 x y H2,Inv X pins σ H2 s2 ->RelV x v ->RelV y u ->R x y H2 ->wpAny (model X.prog X.w) X.A (f v u) Q X.xe s2):
   wpAny (model X.prog X.w) X.A (eval a X.env) (fun v s₁=>wpAny (model X.prog X.w) X.A (eval b X.env) (fun u s₂=>wpAny (model X.prog X.w) X.A (f v u) Q X.xe s₂) X.xe s₁) X.xe s:=by
 refine thn (ha pins s σ H _ I h) fun v s1 hh_=>?_
 obtain⟨x,H1,I1,r1,q1⟩:=hh_
 refine thn (hb pins s1 σ H1 _ I1 q1) fun u s2 hh_=>?_
 obtain⟨y,H2,I2,r2,q2⟩:=hh_
 exact hf v u s2 x y H2 I2 r1 r2 q2
theorem B9{op:Operator}{r:R2}(ho:OpR X (binaryOp op) r)(ha:PE X a ta)(hb:PE X b tb):PE X (.BinOp a op b pos) (tOp r ta tb):=by
 intro pins s σ H Q I h
 exact wpAny_BinOp (Z3y ha hb I h fun v u s2 x y H2 I2 rx ry q=>ho pins s2 σ H2 x y v u Q I2 rx ry q)
theorem D0p{op:UnaryOp}{r:V ->Hp ->VK ->Prop}(ho:UnR X (unaryOp op) r)(ha:PE X a ta):PE X (.UnaryOp op a pos) (tUn r ta):=by
 intro pins s σ H Q I h
 exact UnaryOp_ (thn (ha pins s σ H _ I h) fun v s1 ⟨x,H1,I1,r1,q1⟩=>ho pins s1 σ H1 x v Q I1 r1 q1)
theorem opI{f:Value ->Value ->Sem Value}{C:Int ->Int ->Prop}{g:Int ->Int ->Int}
   (rule:∀(i j:Int) (t u:Tok) (s:Shared) (Q:Value ->Shared ->Prop) (E:Value ->Shared ->Prop),C i j ->Q (.int (g i j) s.toks) {s with toks:=s.toks+1} ->wpAny (model X.prog X.w) X.A (f (.int i t) (.int j u)) Q E s):
   OpR X f (rI C fun i j=> .int (g i j)):=by
 intro pins s σ H x y v u Q I rx ry h
 obtain⟨i,j,rfl,rfl,hc,q⟩:=h
 obtain⟨t,rfl⟩:=rx
 obtain⟨t',rfl⟩:=ry
 exact rule i j t t' s _ _ hc ⟨.int (g i j),H,I.tok _,⟨_,rfl⟩,q⟩
theorem Z8v{f:Value ->Value ->Sem Value}{g:Int ->Int ->Int}
   (rule:∀(i j:Int) (t u:Tok) (s:Shared) (Q:Value ->Shared ->Prop) (E:Value ->Shared ->Prop),Q (.int (g i j) s.toks) {s with toks:=s.toks+1} ->wpAny (model X.prog X.w) X.A (f (.int i t) (.int j u)) Q E s):
   OpR X f (rI0 fun i j=> .int (g i j)):=by
 intro pins s σ H x y v u Q I rx ry h
 obtain⟨i,j,rfl,rfl,q⟩:=h
 obtain⟨t,rfl⟩:=rx
 obtain⟨t',rfl⟩:=ry
 exact rule i j t t' s _ _ ⟨.int (g i j),H,I.tok _,⟨_,rfl⟩,q⟩
theorem Y5s{f:Value ->Value ->Sem Value}{g:Int ->Int ->Bool}
   (rule:∀(i j:Int) (t u:Tok) (s:Shared) (Q:Value ->Shared ->Prop) (E:Value ->Shared ->Prop),Q (.bool (g i j)) s ->wpAny (model X.prog X.w) X.A (f (.int i t) (.int j u)) Q E s):
   OpR X f (rI0 fun i j=> .bl (g i j)):=by
 intro pins s σ H x y v u Q I rx ry h
 obtain⟨i,j,rfl,rfl,q⟩:=h
 obtain⟨t,rfl⟩:=rx
 obtain⟨t',rfl⟩:=ry
 exact rule i j t t' s _ _ ⟨.bl (g i j),H,I,rfl,q⟩
noncomputable def Z3v (i j:Int):Prop:=0<=j/\j<=1000000/\i.natAbs<2^64
noncomputable def CMul (i j:Int):Prop:=(-(2^64)<i/\i<2^64)\/(-(2^64)<j/\j<2^64)
theorem CMul.ok{i j:Int}(h:CMul i j):IntMulOk i j:=by
 rcases h with⟨h1,h2⟩|⟨h1,h2⟩
 . exact .of_left (intBits_le_64 h1 h2)
 . exact .of_right (intBits_le_64 h1 h2)
theorem V2:OpR X (binaryOp .Add) (rI0 fun i j=> .int (i+j)):=Z8v fun _ _ _ _ _ _ _ q=>add_int q
theorem U8:OpR X (binaryOp .Sub) (rI0 fun i j=> .int (i-j)):=Z8v fun _ _ _ _ _ _ _ q=>sub_int q
theorem U0:OpR X (binaryOp .Mod) (rI (fun _ j=>0<j) fun i j=> .int (i % j)):=opI fun i j _ _ _ _ _ hc q=>by
 have h1:(0:Int)<j:=hc
 exact mod_int' (by omega) (by rw[Int.fmod_eq_emod_of_nonneg i (by omega)];exact q)
theorem U7z:OpR X (binaryOp .Pow) (rI Z3v fun i j=> .int (i^j.toNat)):=opI fun _ _ _ _ _ _ _ hc q=>pow_int_small hc.1 hc.2.1 hc.2.2 q
theorem unI{f:Value ->Sem Value}{g:Int ->Int}
   (rule:∀(i:Int) (t:Tok) (s:Shared) (Q:Value ->Shared ->Prop) (E:Value ->Shared ->Prop),Q (.int (g i) s.toks) {s with toks:=s.toks+1} ->wpAny (model X.prog X.w) X.A (f (.int i t)) Q E s):
   UnR X f (rU fun i=> .int (g i)):=by
 intro pins s σ H x v Q I rx h
 obtain⟨i,rfl,q⟩:=h
 obtain⟨t,rfl⟩:=rx
 exact rule i t s _ _ ⟨.int (g i),H,I.tok _,⟨_,rfl⟩,q⟩
theorem B6m:UnR X (unaryOp .USub) (rU fun i=> .int (-i)):=unI fun _ _ _ _ _ q=>neg_int q
end
noncomputable def scal:V ->V ->Bool
 | .non,.non=>true| .non,.int _=>true| .int _,.non=>true| .non,.bl _=>true| .bl _,.non=>true| .non,.str _=>true| .str _,.non=>true
 | .int _,.int _=>true| .bl _,.bl _=>true| .str _,.str _=>true| .byt _,.byt _=>true
 | .int _,.str _=>true| .str _,.int _=>true| .bl _,.str _=>true| .str _,.bl _=>true
 |_,_=>false
noncomputable def rEq:R2:=fun x y H Q=>scal x y=true/\Q (.bl (decide (x=y))) H
noncomputable def rNe:R2:=fun x y H Q=>scal x y=true/\Q (.bl (!decide (x=y))) H
theorem J9p{i j:Int}:decide (V.int i=V.int j)=(i==j):=by
 rw[Bool.eq_iff_iff]
 simp
theorem V0w{i j:Bool}:decide (V.bl i=V.bl j)=(i==j):=by
 rw[Bool.eq_iff_iff]
 simp
theorem J8g{i j:Str}:decide (V.str i=V.str j)=(i==j):=by
 rw[Bool.eq_iff_iff]
 simp
theorem J9v{i j:Array UInt8}:decide (V.byt i=V.byt j)=(i.toList==j.toList):=by
 rw[Bool.eq_iff_iff]
 cases i
 cases j
 simp
section
variable{X:Cx}{a b c:Expr}{ta tb tc:TE}{pos:Pos}
theorem V0{pins:List (Addr×Obj)}{σ:St}{H:Hp}{s:Shared}{Q:VK}{k k':Bool}(I:Inv X pins σ H s)(q:Q (.bl k) H)(e:k=k'):EP X pins σ Q (.bool k') s:=by
 subst e
 exact⟨.bl k,H,I,rfl,q⟩
theorem U2:OpR X (compareOp .Eq) rEq:=by
 intro pins s σ H x y v u Q I rx ry h
 obtain⟨hs,q⟩:=h
 cases x with
 | non=>
   cases rx
   cases y with
   |non=>cases ry;exact PySem.EqNone.eq_none_none (V0 I q (by simp))
   |bl j=>cases ry;exact PySem.EqNone.eq_none_bool (V0 I q (by simp))
   |int j=>obtain⟨t',rfl⟩:=ry;exact PySem.EqNone.eq_none_int (V0 I q (by simp))
   |str j=>obtain⟨t',rfl⟩:=ry;exact PySem.EqNone.eq_none_str (V0 I q (by simp))
   |_=>exact absurd (show false=true from hs) Bool.false_ne_true
 | bl i=>
   cases rx
   cases y with
   |non=>cases ry;exact PySem.EqNone.eq_bool_none (V0 I q (by simp))
   |bl j=>cases ry;exact eq_bool (V0 I q V0w)
   |str j=>obtain⟨t',rfl⟩:=ry;exact PySem.EqMixed.eq_bool_str (V0 I q (by simp))
   |_=>exact absurd (show false=true from hs) Bool.false_ne_true
 | int i=>
   obtain⟨t,rfl⟩:=rx
   cases y with
   |non=>cases ry;exact PySem.EqNone.eq_int_none (V0 I q (by simp))
   |int j=>obtain⟨t',rfl⟩:=ry;exact eq_int (V0 I q J9p)
   |str j=>obtain⟨t',rfl⟩:=ry;exact PySem.EqMixed.eq_int_str (V0 I q (by simp))
   |_=>exact absurd (show false=true from hs) Bool.false_ne_true
 | str i=>
   obtain⟨t,rfl⟩:=rx
   cases y with
   |non=>cases ry;exact PySem.EqNone.eq_str_none (V0 I q (by simp))
   |bl j=>cases ry;exact PySem.EqMixed.eq_str_bool (V0 I q (by simp))
   |int j=>obtain⟨t',rfl⟩:=ry;exact PySem.EqMixed.eq_str_int (V0 I q (by simp))
   |str j=>obtain⟨t',rfl⟩:=ry;exact eq_str (V0 I q J8g)
   |_=>exact absurd (show false=true from hs) Bool.false_ne_true
 | byt i=>
   obtain⟨t,rfl⟩:=rx
   cases y with
   |byt j=>obtain⟨t',rfl⟩:=ry;exact PySem.W.eq_bytes (V0 I q J9v)
   |_=>exact absurd (show false=true from hs) Bool.false_ne_true
 |_=>cases y<;>exact absurd (show false=true from hs) Bool.false_ne_true
theorem C1k:OpR X (compareOp .NotEq) rNe:=by
 intro pins s σ H x y v u Q I rx ry h
 obtain⟨hs,q⟩:=h
 cases x with
 | non=>
   cases rx
   cases y with
   |non=>cases ry;exact PySem.EqNone.ne_none_none (V0 I q (by simp))
   |bl j=>cases ry;exact PySem.EqNone.ne_none_bool (V0 I q (by simp))
   |int j=>obtain⟨t',rfl⟩:=ry;exact PySem.EqNone.ne_none_int (V0 I q (by simp))
   |str j=>obtain⟨t',rfl⟩:=ry;exact PySem.EqNone.ne_none_str (V0 I q (by simp))
   |_=>exact absurd (show false=true from hs) Bool.false_ne_true
 | bl i=>
   cases rx
   cases y with
   |non=>cases ry;exact PySem.EqNone.ne_bool_none (V0 I q (by simp))
   |bl j=>cases ry;exact ne_bool (V0 I q (congrArg not V0w))
   |str j=>obtain⟨t',rfl⟩:=ry;exact PySem.EqMixed.ne_bool_str (V0 I q (by simp))
   |_=>exact absurd (show false=true from hs) Bool.false_ne_true
 | int i=>
   obtain⟨t,rfl⟩:=rx
   cases y with
   |non=>cases ry;exact PySem.EqNone.ne_int_none (V0 I q (by simp))
   |int j=>obtain⟨t',rfl⟩:=ry;exact ne_int (V0 I q (congrArg not J9p))
   |str j=>obtain⟨t',rfl⟩:=ry;exact PySem.EqMixed.ne_int_str (V0 I q (by simp))
   |_=>exact absurd (show false=true from hs) Bool.false_ne_true
 | str i=>
   obtain⟨t,rfl⟩:=rx
   cases y with
   |non=>cases ry;exact PySem.EqNone.ne_str_none (V0 I q (by simp))
   |bl j=>cases ry;exact PySem.EqMixed.ne_str_bool (V0 I q (by simp))
   |int j=>obtain⟨t',rfl⟩:=ry;exact PySem.EqMixed.ne_str_int (V0 I q (by simp))
   |str j=>obtain⟨t',rfl⟩:=ry;exact ne_str (V0 I q (congrArg not J8g))
   |_=>exact absurd (show false=true from hs) Bool.false_ne_true
 | byt i=>
   obtain⟨t,rfl⟩:=rx
   cases y with
   |byt j=>obtain⟨t',rfl⟩:=ry;exact PySem.W.ne_bytes (V0 I q (congrArg not J9v))
   |_=>exact absurd (show false=true from hs) Bool.false_ne_true
 |_=>cases y<;>exact absurd (show false=true from hs) Bool.false_ne_true
theorem C1z:OpR X (compareOp .Lt) (rI0 fun i j=> .bl (decide (i<j))):=Y5s fun _ _ _ _ _ _ _ q=>lt_int q
theorem V0u:OpR X (compareOp .LtE) (rI0 fun i j=> .bl (decide (i<=j))):=Y5s fun _ _ _ _ _ _ _ q=>le_int q
theorem C2x:OpR X (compareOp .Gt) (rI0 fun i j=> .bl (decide (j<i))):=Y5s fun _ _ _ _ _ _ _ q=>gt_int q
theorem J9e:OpR X (compareOp .GtE) (rI0 fun i j=> .bl (decide (j<=i))):=Y5s fun _ _ _ _ _ _ _ q=>ge_int q
theorem U2a:OpR X (compareOp .In) (fun x y H Q=>∃i j,x= .str i/\y= .str j/\Q (.bl (!(Builtin.Str.occurrences j i 0 j.length 1).isEmpty)) H):=by
 intro pins s σ H x y v u Q I rx ry h
 obtain⟨i,j,rfl,rfl,q⟩:=h
 obtain⟨t,rfl⟩:=rx
 obtain⟨t',rfl⟩:=ry
 exact in_str (V0 I q rfl)
theorem Z4j:OpR X (compareOp .Is) (fun x y H Q=>y= .non/\Q (.bl (decide (x= .non))) H):=by
 intro pins s σ H x y v u Q I rx ry h
 obtain⟨rfl,q⟩:=h
 cases ry
 refine is_none_gen (V0 I q ?_)
 cases x<;>first
   |(cases rx;rfl)
   |(obtain⟨t,rfl⟩:=rx;rfl)
theorem D4(b:Expr){op:CmpOp}(h:op≠ .In:=by decide)(h2:op≠ .NotIn:=by decide):behindInMarks op b=false:=by
 have e1:(op==CmpOp.In)=false:=by cases op<;>first|rfl|exact absurd rfl h
 have e2:(op==CmpOp.NotIn)=false:=by cases op<;>first|rfl|exact absurd rfl h2
 cases b<;>simp[behindInMarks,e1,e2]
theorem G9{op:CmpOp}{r:R2}(ho:OpR X (compareOp op) r)(ha:PE X a ta)(hb:PE X b tb)(hm:behindInMarks op b=false):PE X (.Compare a [op] [b] pos) (tOp r ta tb):=by
 intro pins s σ H Q I h
 exact wpAny_Compare1 (Z3y ha hb I h fun v u s2 x y H2 I2 rx ry q=>ho pins s2 σ H2 x y v u Q I2 rx ry q) hm
noncomputable def Z9b (t:TE):TT:=fun σ H Q=>t σ H fun x H'=>∃k,x= .bl k/\Q k H'
theorem D5{op:CmpOp}{r:R2}(ho:OpR X (compareOp op) r)(ha:PE X a ta)(hb:PE X b tb)(hm:behindInMarks op b=false):PT X (.Compare a [op] [b] pos) (Z9b (tOp r ta tb)):=by
 intro pins s σ H Q I h
 refine wpAny_isTrue_Compare1 (thn (ha pins s σ H _ I h) fun v s1 ⟨x,H1,I1,r1,q1⟩=>thn (hb pins s1 σ H1 _ I1 q1) fun u s2 ⟨y,H2,I2,r2,q2⟩=>
   thn (ho pins s2 σ H2 x y v u _ I2 r1 r2 q2) fun c s3 ⟨z,H3,I3,r3,k,e,q3⟩=>?_) hm
 subst e
 cases r3
 exact wpAny_truthy_bool ⟨H3,I3,q3⟩
theorem C1v:(sizeLine:Nat)<2^63:=by rw[sizeLine_eq];decide
theorem G6r:OpR X (binaryOp .Add) (fun x y H Q=>∃i j,x= .str i/\y= .str j/\i.length+j.length<=sizeLine/\Q (.str (i++j)) H):=by
 intro pins s σ H x y v u Q I rx ry h
 obtain⟨i,j,rfl,rfl,hz,q⟩:=h
 obtain⟨t,rfl⟩:=rx
 obtain⟨t',rfl⟩:=ry
 exact add_str (fun t' tk=>⟨.str (i++j),H,I.tok _,⟨_,rfl⟩,q⟩) hz
theorem C1y{x:V}{us:List Value}(r:Vals [x] us):∃u,us=[u]/\RelV x u:=by
 cases r with
 |cons r1 r2=>cases r2;exact⟨_,rfl,r1⟩
theorem Z1k{x y:V}{us:List Value}(r:Vals [x,y] us):∃u w',us=[u,w']/\RelV x u/\RelV y w':=by
 cases r with
 | cons r1 r2=>
   cases r2 with
   |cons r3 r4=>cases r4;exact⟨_,_,rfl,r1,r3⟩
theorem Z0(hc:X.calm=true):A7y X (.builtin "max") (fun xs H Q=>∃i j,xs=[.int i,.int j]/\Q (.int (if j>i then j else i)) H):=by
 intro pins s σ H xs us Q I r h
 obtain⟨i,j,rfl,q⟩:=h
 obtain⟨u,w',rfl,⟨t,rfl⟩,⟨t',rfl⟩⟩:=Z1k r
 refine max_two_ints (I.ok.hd hc) fun h' tk k=>⟨_,H,I.kept k,?_,q⟩
 by_cases hj:j>i
 . rw[if_pos hj,if_pos hj];exact⟨_,rfl⟩
 . rw[if_neg hj,if_neg hj];exact⟨_,rfl⟩
theorem D0b(hc:X.calm=true):A7y X (.builtin "min") (fun xs H Q=>∃i j,xs=[.int i,.int j]/\Q (.int (if j<i then j else i)) H):=by
 intro pins s σ H xs us Q I r h
 obtain⟨i,j,rfl,q⟩:=h
 obtain⟨u,w',rfl,⟨t,rfl⟩,⟨t',rfl⟩⟩:=Z1k r
 refine min_two_ints (I.ok.hd hc) fun h' tk k=>⟨_,H,I.kept k,?_,q⟩
 by_cases hj:j<i
 . rw[if_pos hj,if_pos hj];exact⟨_,rfl⟩
 . rw[if_neg hj,if_neg hj];exact⟨_,rfl⟩
theorem Y0:A7y X (.type "int") (fun xs H Q=>(∃i,xs=[.int i]/\Q (.int i) H)\/∃k,xs=[.bl k]/\Q (.int (if k then 1 else 0)) H):=by
 intro pins s σ H xs us Q I r h
 rcases h with⟨i,rfl,q⟩|⟨k,rfl,q⟩
 . obtain⟨u,rfl,t,rfl⟩:=C1y r
   exact call_int_int ⟨.int i,H,I,⟨_,rfl⟩,q⟩
 . obtain⟨u,rfl,r1⟩:=C1y r
   cases r1
   exact call_int_bool ⟨.int (if k then 1 else 0),H,I.tok _,⟨_,rfl⟩,q⟩
theorem Y7:A7y X (.type "str") (fun xs H Q=>∃i,xs=[.int i]/\i.natAbs.log2<1920/\Q (.str (toString i)) H):=by
 intro pins s σ H xs us Q I r h
 obtain⟨i,rfl,hz,q⟩:=h
 obtain⟨u,rfl,t,rfl⟩:=C1y r
 exact PySem.P.str_of_int hz ⟨.str _,H,I.tok _,⟨_,rfl⟩,q⟩
end
structure ObjM(h:Heap)(x dx C:Addr)(mA:Str ->Option Value):Prop where
 obj:h.get? x=some (PySem.W.instObj C dx)
 ns:h.Ns1 dx mA
 ne:dx≠x
theorem B6r{h:Heap}{dx:Addr}{mA:Str ->Option Value}(n:h.Ns1 dx mA):∃od,h.get? dx=some od/\∀name,PySem.W.lookIn name od=some (mA name):=by
 obtain⟨o,es,ep,ho,hd,hk,_,hm⟩:=n
 refine⟨o,ho,fun name=>?_⟩
 have e:=hm name
 unfold nsFind findBy at e
 rw[<-Array.find?_toList] at e
 unfold PySem.W.lookIn
 rw[hd]
 dsimp only
 split
 . rename_i y q
   rw[q] at e
   exact congrArg some e
 . rename_i q
   rw[q] at e
   have a:es.toList.any (·.refKey)=false:=by
     rw[List.any_eq_false]
     intro y hy
     obtain⟨z,t,hkey⟩:=hk y (Array.mem_toList_iff.mp hy)
     simp[DictEntry.refKey,hkey]
   have a':¬es.toList.any (·.refKey)=true:=by rw[a];exact Bool.false_ne_true
   rw[if_neg a']
   exact congrArg some e
theorem ObjM.look{h:Heap}{x dx C:Addr}{mA:Str ->Option Value}(I:ObjM h x dx C mA):∃od,PySem.W.InstAt h x (PySem.W.instObj C dx) C (some od)/\∀name,PySem.W.lookIn name od=some (mA name):=
 let⟨od,ho,hl⟩:=B6r I.ns
 ⟨od,⟨I.obj,rfl,rfl,ho⟩,hl⟩
section
variable{prog:Program}{w:World}{A:Around}{E:Value ->Shared ->Prop}{s:Shared}{K:PySem.W.Frag}{x dx C f:Addr}{mA:Str ->Option Value}{name:Str}{v:Value}
theorem Y4p{expr:Bool}{Q:Value ->Shared ->Prop}(X:K.In s.heap)(I:ObjM s.heap x dx C mA)(hg:PySem.W.plainGet K C name=true)(hh:PySem.W.hasDictIn K C=true)
   (ha:PySem.W.findIn K (.ref C) name=some none) (hv:mA name=some v) (hv':PySem.W.handedIn v=true) (h:Q v {s with toks:=s.toks+1}):
   wpAny (model prog w) A (getAttr (.ref x) name expr) Q E s:=by
 obtain⟨od,J,hl⟩:=I.look
 exact PySem.W.get_value X J (PySem.W.plainGet_of hg).1 (PySem.W.findObj_own hh ha rfl (by rw[hl,hv])) hv' h
theorem V0e{pl:Sem Bool}{Q:Value×List Value ->Shared ->Prop}(X:K.In s.heap)(I:ObjM s.heap x dx C mA)(hg:PySem.W.plainGet K C name=true)
   (hf:PySem.W.findIn K (.ref C) name=some (some (.ref f))) (ht:PySem.W.isFn K (.ref f)=true) (hv:mA name=none) (h:Q (.ref f,[.ref x]) s):
   wpAny (model prog w) A (getMethod (.ref x) name pl) Q E s:=by
 obtain⟨od,J,hl⟩:=I.look
 exact PySem.W.method_fn X J (PySem.W.plainGet_of hg).1 (PySem.W.plainGet_of hg).2 hf (beq_iff_eq.mp ht) (by show(PySem.W.lookIn name od).map (·.isSome)=some false;rw[hl,hv];rfl) h
theorem Y4z{ns:List Str}{Q:Unit ->Shared ->Prop}(X:K.In s.heap)(I:ObjM s.heap x dx C mA)
   (hs:PySem.W.findIn K (.ref C) "__setattr__"=some (some (.builtin "object.__setattr__"))) (hp:PySem.W.plainOver K C=true) (ht:PySem.W.takerIn K C name=some none) (hh:PySem.W.hasDictIn K C=true)
   (hw:PySem.Within mA ns) (hsz:ns.length<=sizeLine)
   (h:∀h',ObjM h' x dx C (fun y=>if y=name then some v else mA y) ->Heap.SameBut dx s.heap h' ->Q () {s with heap:=h',toks:=s.toks+2}):
   wpAny (model prog w) A (setAttr (.ref x) name v) Q E s:=by
 obtain⟨od,J,hl⟩:=I.look
 refine PySem.W.set_plain X J hs (PySem.W.osa_open (s:={s with toks:=s.toks+1}) (r:=none) X J hp ht fun b=>?_)
 obtain⟨cd,hc,hd'⟩:=PySem.W.any_some hh
 have hx:s.heap.get? x=some ⟨.ref C,some dx,.plain, #[]⟩:=I.obj
 refine wpAny_bind (wpAny_pure (wpAny_bind (wpAny_bind (wpAny_loadPart hx (wpAny_bind (PySem.W.Looks.here (s:={s with toks:=s.toks+1}) (PySem.W.looks_clsIn X hc) ?_))))))
 rw[hd']
 refine wpAny_pure (a:=some dx) (wpAny_bind (wpAny_pure (wpAny_bind ?_)))
 refine wpAny_nsSet1 (s:={s with toks:=s.toks+1}) I.ns fun h' hn2 hs2=>?_
 obtain⟨oD,esD,epD,hoD,hdD,hcD⟩:=hn2.count (PySem.Within.cons name v hw)
 refine wpAny_bind (wpAny_lookBehind hoD (by rw[hdD];exact pastItsLine_dict (Nat.le_trans hcD (by rw[List.length_cons];omega))) ?_)
 exact wpAny_pure (h _ ⟨(hs2.2 _ (Ne.symm I.ne)).trans I.obj,hn2,I.ne⟩ hs2)
theorem G2r{R:Result ->Shared ->Prop}{vs:List Value}{kw:List (Str×Value)}(X:K.In s.heap)(hm:PySem.W.makesIn K C=true)
   (hi:PySem.W.findIn K (.ref C) "__init__"=some (some (.ref f))) (hf:PySem.W.typeIn K (.ref f)=some (.type "function"))
   (h:codeAny (model prog w) (A.under (.builtin "type.__call__" ⟨.ref C::vs,kw⟩)) (.call (.ref f) ⟨.ref (s.heap.objs.size+1)::vs,kw⟩) (PySem.W.InitBack (s.heap.objs.size+1) R)
     {s with heap:=(s.heap.push PySem.W.emptyDict).push (PySem.W.instObj C s.heap.objs.size)}):
   codeAny (model prog w) A (.call (.ref C) ⟨vs,kw⟩) R s:=by
 obtain⟨hh,g,d,t,os⟩:=s
 exact PySem.W.make_core (PySem.W.makes_of X hm) (PySem.W.looks_findIn X hi) (fun self=>PySem.W.bind_fn X self hf) (.inl rfl) h
theorem U1k{R:Result ->Shared ->Prop}(X:K.In s.heap)(hm:PySem.W.makesIn K C=true)
   (hi:PySem.W.findIn K (.ref C) "__init__"=some (some (.builtin "object.__init__")))
   (hb:∀self,PySem.W.Looks (model prog w) s.heap (bindSpecial (.builtin "object.__init__") self) (.builtin "object.__init__",[self]))
   (h:codeAny (model prog w) (A.under (.builtin "type.__call__" ⟨[.ref C],[]⟩)) (.call (.builtin "object.__init__") ⟨[.ref (s.heap.objs.size+1)],[]⟩) (PySem.W.InitBack (s.heap.objs.size+1) R)
     {s with heap:=(s.heap.push PySem.W.emptyDict).push (PySem.W.instObj C s.heap.objs.size)}):
   codeAny (model prog w) A (.call (.ref C) ⟨[],[]⟩) R s:=by
 obtain⟨hh,g,d,t,os⟩:=s
 exact PySem.W.make_core (PySem.W.makes_of X hm) (PySem.W.looks_findIn X hi) hb (.inr ⟨rfl,rfl⟩) h
end
noncomputable def V9 (f:Str) (v:V):List (Str×V) ->List (Str×V)
 | []=>[(f,v)]
 |(g,x)::r=>if g=f then(g,v)::r else(g,x)::V9 f v r
theorem G4(f g:Str)(v:V):∀fs:List (Str×V),(V9 f v fs).lookup g=if g=f then some v else fs.lookup g
 | []=>by
   show List.lookup g [(f,v)]=_
   by_cases h:g=f
   . have hb:(g==f)=true:=beq_iff_eq.mpr h
     simp only[List.lookup,hb,if_pos h]
   . have hb:(g==f)=false:=beq_eq_false_iff_ne.mpr h
     simp only[List.lookup,hb,if_neg h]
 | (k, x)::r=>by
   have ih:=G4 f g v r
   rw[show V9 f v ((k,x)::r)=(if k=f then(k,v)::r else(k,x)::V9 f v r) from rfl]
   by_cases hk:k=f
   . rw[if_pos hk]
     by_cases h:g=k
     . have hb:(g==k)=true:=beq_iff_eq.mpr h
       simp only[List.lookup,hb,if_pos (h.trans hk)]
     . have hb:(g==k)=false:=beq_eq_false_iff_ne.mpr h
       simp only[List.lookup,hb,if_neg (fun e:g=f=>h (e.trans hk.symm))]
   . rw[if_neg hk]
     by_cases h:g=k
     . have hb:(g==k)=true:=beq_iff_eq.mpr h
       simp only[List.lookup,hb,if_neg (fun e:g=f=>hk (h.symm.trans e))]
     . have hb:(g==k)=false:=beq_eq_false_iff_ne.mpr h
       simp only[List.lookup,hb]
       exact ih
theorem B6s(f:Str)(v:V):∀fs:List (Str×V),f∈(V9 f v fs).map (·.1)/\∀g,g∈fs.map (·.1) ->g∈(V9 f v fs).map (·.1)
 | []=>⟨by simp[V9],fun g h=>by simp at h⟩
 | (k, x)::r=>by
   obtain⟨i1,i2⟩:=B6s f v r
   rw[show V9 f v ((k,x)::r)=(if k=f then(k,v)::r else(k,x)::V9 f v r) from rfl]
   by_cases hk:k=f
   . rw[if_pos hk]
     subst hk
     exact⟨by simp,fun g h=>by simpa using h⟩
   . rw[if_neg hk]
     refine⟨?_,fun g h=>?_⟩
     . rw[List.map_cons]
       exact List.mem_cons_of_mem _ i1
     . rw[List.map_cons] at h ⊢
       rcases List.mem_cons.mp h with e|e
       . exact List.mem_cons.mpr (.inl e)
       . exact List.mem_cons_of_mem _ (i2 g e)
theorem A1r(f:Str)(v:V):∀fs:List (Str×V),(V9 f v fs).length<=fs.length+1
 | []=>by simp[V9]
 | (k,x)::r=>by
   have ih:=A1r f v r
   rw[show V9 f v ((k,x)::r)=(if k=f then(k,v)::r else(k,x)::V9 f v r) from rfl]
   by_cases hk:k=f
   . rw[if_pos hk,List.length_cons,List.length_cons];omega
   . rw[if_neg hk,List.length_cons,List.length_cons];omega
theorem RelO.some_of{v:V}{o:Option Value}(r:RelO (some v) o):∃u,o=some u/\RelV v u:=by
 cases o with
 |none=>exact(show False from r).elim
 |some u=>exact⟨u,rfl,r⟩
theorem RelO.none_of{o:Option Value}(r:RelO none o):o=none:=by
 cases o with
 |none=>rfl
 |some u=>exact(show False from r).elim
theorem D0g{v:V}{u:Value}(r:RelV v u):PySem.W.handedIn u=true:=by
 cases v with
 |non=>cases(show u=Value.none from r);rfl
 |bl b=>cases(show u=Value.bool b from r);rfl
 |int i=>obtain⟨t,e⟩:=(show∃t,u=Value.int i t from r);cases e;rfl
 |str x=>obtain⟨t,e⟩:=(show∃t,u=Value.str x t from r);cases e;rfl
 |byt b=>obtain⟨t,e⟩:=(show∃t,u=Value.bytes b t from r);cases e;rfl
 |flt b=>obtain⟨t,e⟩:=(show∃t,u=Value.float b t from r);cases e;rfl
 |ref a=>cases(show u=Value.ref a from r);rfl
 |ty n=>cases(show u=Value.type n from r);rfl
section
variable{P:Program}{w:World}{H H':Hp}{h h':Heap}{a C dx:Addr}{fs fs':List (Str×V)}
theorem C1b(hok:HOk P w H h)(e:H a=some (.ins C dx fs)):∃mA,ObjM h a dx C mA/\(∀f,RelO (fs.lookup f) (mA f))/\PySem.Within mA (fs.map (·.1))/\fs.length<=1000/\H dx=some (.own a):=by
 obtain⟨d,z,ne,ob,mA,n,r,q⟩:=(show ObjOk P w H h a (.ins C dx fs) from hok a _ e)
 exact⟨mA,⟨ob,n,ne⟩,r,q,z,d⟩
end
structure Cls(K:PySem.W.Frag)(C:Addr):Prop where
 pg:PySem.W.plainGet K C Str.empty=true
 hd:PySem.W.hasDictIn K C=true
 po:PySem.W.plainOver K C=true
 sa:PySem.W.findIn K (.ref C) "__setattr__"=some (some (.builtin "object.__setattr__"))
theorem Cls.get{K:PySem.W.Frag}{C:Addr}(c:Cls K C)(f:Str):PySem.W.plainGet K C f=true:=c.pg
noncomputable def NoAttr (K:PySem.W.Frag) (C:Addr) (f:Str):Prop:=PySem.W.findIn K (.ref C) f=some none
theorem NoAttr.taker{K:PySem.W.Frag}{C:Addr}{f:Str}(n:NoAttr K C f):PySem.W.takerIn K C f=some none:=by
 unfold PySem.W.takerIn
 rw[show PySem.W.findIn K (.ref C) f=some none from n]
 rfl
structure Meth(K:PySem.W.Frag)(C:Addr)(m:Str)(f:Addr):Prop where
 at_:PySem.W.findIn K (.ref C) m=some (some (.ref f))
 fn:PySem.W.isFn K (.ref f)=true
 kp:PySem.W.keepIn K (.ref f)=true
section
variable{X:Cx}{pins:List (Addr×Obj)}{σ:St}{H:Hp}{s:Shared}{a C dx:Addr}{fs:List (Str×V)}{f:Str}{v:V}{A:Around}{E:Value ->Shared ->Prop}
theorem G6g{b:Bool}{Q:Value ->Shared ->Prop}(I:Inv X pins σ H s)(e:H a=some (.ins C dx fs))(c:Cls X.K C)(n:NoAttr X.K C f)(l:fs.lookup f=some v)
   (h:∀u s',Inv X pins σ H s' ->RelV v u ->Q u s'):wpAny (model X.prog X.w) A (getAttr (.ref a) f b) Q E s:=by
 obtain⟨mA,O,r,_,_,_⟩:=C1b I.hok e
 obtain⟨u,hu,ru⟩:=RelO.some_of (v:=v) (o:=mA f) (by rw[<-l];exact r f)
 exact Y4p I.kIn O (c.get f) c.hd n hu (D0g ru) (h u _ (I.tok _) ru)
theorem C2c{m:Str}{g:Addr}{pl:Sem Bool}{Q:Value×List Value ->Shared ->Prop}(I:Inv X pins σ H s)(e:H a=some (.ins C dx fs))(c:Cls X.K C)(k:Meth X.K C m g)(l:fs.lookup m=none)
   (h:Q (.ref g,[.ref a]) s):wpAny (model X.prog X.w) A (getMethod (.ref a) m pl) Q E s:=by
 obtain⟨mA,O,r,_,_,_⟩:=C1b I.hok e
 have hn:mA m=none:=RelO.none_of (by rw[<-l];exact r m)
 exact V0e I.kIn O (c.get m) k.at_ k.fn hn h
theorem G7j{y:V}{u:Value}{Q:Unit ->Shared ->Prop}(I:Inv X pins σ H s)(e:H a=some (.ins C dx fs))(c:Cls X.K C)(n:NoAttr X.K C f)(hl:fs.length<1000)(ry:RelV y u)
   (h:∀s',Inv X pins σ (upd H a (.ins C dx (V9 f y fs))) s' ->Q () s'):wpAny (model X.prog X.w) A (setAttr (.ref a) f u) Q E s:=by
 obtain⟨mA,O,r,wi,_,ho⟩:=C1b I.hok e
 have hz:(fs.map (·.1)).length<=sizeLine:=by rw[List.length_map,sizeLine_eq];omega
 refine Y4z I.kIn O c.sa c.po n.taker c.hd wi hz fun h' O' sb=>h _ ?_
 have hd:∃o,h'.get? dx=some o:=let⟨o,_,_,e',_⟩:=O'.ns;⟨o,e'⟩
 refine I.write (x:=a) (e:=dx) (by rw[e];exact True.intro) (.inr ho) (fun b q hb z=>(sb.2 b hb).trans z) hd ?_
 refine⟨by rw[D3 O.ne];exact ho,?_,O.ne,O'.obj,_,O'.ns,fun g=>?_,fun g hg=>?_⟩
 . have:=A1r f y fs;omega
 . show RelO ((V9 f y fs).lookup g) (if g=f then some u else mA g)
   rw[G4]
   by_cases q:g=f
   . rw[if_pos q,if_pos q];exact ry
   . rw[if_neg q,if_neg q];exact r g
 . by_cases q:g=f
   . rw[q];exact(B6s f y fs).1
   . refine(B6s f y fs).2 g (wi g fun z=>hg ?_)
     show(if g=f then some u else mA g)=none
     rw[if_neg q];exact z
theorem Inv.made(I:Inv X pins σ H s):Inv X pins σ (upd (upd H s.heap.objs.size (.own (s.heap.objs.size+1))) (s.heap.objs.size+1) (.ins C s.heap.objs.size []))
   {s with heap:=(s.heap.push PySem.W.emptyDict).push (PySem.W.instObj C s.heap.objs.size)}:=by
 have e1:(s.heap.push PySem.W.emptyDict).get? s.heap.objs.size=some PySem.W.emptyDict:=Heap.get?_push_size s.heap rfl
 have e2:((s.heap.push PySem.W.emptyDict).push (PySem.W.instObj C s.heap.objs.size)).get? (s.heap.objs.size+1)=some (PySem.W.instObj C s.heap.objs.size):=by
   have:=Heap.get?_push_size (s.heap.push PySem.W.emptyDict) (o:=PySem.W.instObj C s.heap.objs.size) rfl
   rwa[Heap.size_push] at this
 have e3:(s.heap.push PySem.W.emptyDict).Ns s.heap.objs.size (fun _=>none):=⟨PySem.W.emptyDict, #[],_,e1,rfl,(fun e he=>absurd he (by simp)),fun _=>rfl⟩
 have I1:=I.laid (a:=s.heap.objs.size) (o:= .own (s.heap.objs.size+1)) (h':=s.heap.push PySem.W.emptyDict) (t':=s.toks) (fun b u q=>Heap.get?_push_of_some _ q) (Nat.le_refl _) ⟨_,e1⟩
 refine I1.laid (a:=s.heap.objs.size+1) (o:= .ins C s.heap.objs.size []) (t':=s.toks) (fun b u q=>Heap.get?_push_of_some _ q) (Nat.le_of_eq (Heap.size_push _ _)) ?_
 have ne:s.heap.objs.size≠s.heap.objs.size+1:=Nat.ne_of_lt (Nat.lt_succ_self _)
 refine⟨by rw[D3 ne,A9],Nat.zero_le _,ne,e2,fun _=>none,(Heap.Ns1.of_empty e3).at fun o q=>Heap.get?_push_of_some _ q,fun _=>True.intro,fun y hy=>absurd rfl hy⟩
theorem J8a{prog:Program}{w:World}{env:Env}{e:Expr}{f:Str}{pos:Pos}{s:Shared}{Q:Value ->Shared ->Prop}(hb:attributeBase e f env (eval e env)=eval e env)
   (h:wpAny (model prog w) A (eval e env) (fun o s₁=>wpAny (model prog w) A (getAttr o f true) Q E s₁) E s):wpAny (model prog w) A (eval (.Attribute e f pos) env) Q E s:=
 Attribute_any_ h (by rw[arm_eval_Attribute,hb])
end
noncomputable def tFld (K:PySem.W.Frag) (ta:TE) (f:Str):TE:=fun σ H Q=>ta σ H fun x H1=>∃a C dx fs v,x= .ref a/\H1 a=some (.ins C dx fs)/\Cls K C/\NoAttr K C f/\fs.lookup f=some v/\Q v H1
noncomputable def sFld (K:PySem.W.Frag) (ta tv:TE) (f:Str):TS:=fun D σ H=>tv σ H fun y H1=>ta σ H1 fun x H2=>∃a C dx fs,x= .ref a/\H2 a=some (.ins C dx fs)/\Cls K C/\NoAttr K C f/\fs.length<1000/\
 D.nx σ (upd H2 a (.ins C dx (V9 f y fs)))
section
variable{X:Cx}{o e value:Expr}{f:Str}{pos pos' tpos:Pos}{ta tv:TE}
theorem G8(he:PE X e ta)(hb:attributeBase e f X.env (eval e X.env)=eval e X.env):PE X (.Attribute e f pos) (tFld X.K ta f):=by
 intro pins s σ H Q I h
 refine J8a hb (thn (he pins s σ H _ I h) fun u s1 hh_=>?_)
 obtain⟨x,H1,I1,rx,a,C,dx,fs,v,ex,ea,c,n,l,q⟩:=hh_
 subst ex
 obtain rfl:u=Value.ref a:=rx
 exact G6g I1 ea c n l fun u' s2 I2 ru=>⟨v,H1,I2,ru,q⟩
theorem A0a(ha:PE X o ta)(hv:PE X value tv)(hs:swapsWith value (some (.Attribute o f pos')) pos.line X.env=pure false):PS X (.Assign [.Attribute o f pos'] value pos) (sFld X.K ta tv f):=by
 intro pins s σ H D I h
 refine plainObj_wpAny_Assign_Attribute (thn (hv pins s σ H _ I h) fun u s1 ⟨y,H1,I1,ry,q⟩=>thn (ha pins s1 σ H1 _ I1 q) fun ov s2 hh_=>?_) hs
 obtain⟨x,H2,I2,rx,a,C,dx,fs,ex,ea,c,n,l,q2⟩:=hh_
 subst ex
 obtain rfl:ov=Value.ref a:=rx
 exact G7j I2 ea c n l ry fun s3 I3=>⟨σ,_,I3,q2⟩
end
section
variable{X:Cx}{pins:List (Addr×Obj)}{σ:St}{H:Hp}{s:Shared}{A:Around}{E:Value ->Shared ->Prop}{Q:Value ->Shared ->Prop}{c:Value}{b:Bool}
inductive TyOf(K:PySem.W.Frag)(H:Hp):V ->Value ->Prop where
 |non:TyOf K H .non (.type "NoneType")
 |bl (x:Bool):TyOf K H (.bl x) (.type "bool")
 |int (i:Int):TyOf K H (.int i) (.type "int")
 |str (x:Str):TyOf K H (.str x) (.type "str")
 |flt (x:UInt64):TyOf K H (.flt x) (.type "float")
 |lst {a:Addr} {xs:List V} (e:H a=some (.lst xs)):TyOf K H (.ref a) (.type "list")
 |frz {a:Addr} {o:Obj} {xs:List V} (e:H a=some (.frz o (.lst xs))):TyOf K H (.ref a) (.type "list")
 |tup {a:Addr} {xs:List V} (e:H a=some (.tup xs)):TyOf K H (.ref a) (.type "tuple")
 |dK {a:Addr} {kvs:List (Key×V)} (e:H a=some (.dK kvs)):TyOf K H (.ref a) (.type "dict")
 |dT {a:Addr} {kvs:List (List Key×V)} (e:H a=some (.dT kvs)):TyOf K H (.ref a) (.type "dict")
 |ins {a C dx:Addr} {fs:List (Str×V)} (e:H a=some (.ins C dx fs)) (cl:Cls K C) (ha:PySem.W.findIn K (.ref C) "__class__"=some (some (.builtin "object.__class__")))
     (hn:PySem.W.specialIn K (.builtin "object.__class__") "__get__"=some (some (.builtin "getset_descriptor.__get__"))) (htk:PySem.W.takesIn K (.builtin "object.__class__")=some true)
     (hm:PySem.W.mroIn K C (.type "object")=some true):TyOf K H (.ref a) (.ref C)
theorem U2n{x:V}{u t:Value}(I:Inv X pins σ H s)(rx:RelV x u)(ty:TyOf X.K H x t)(e:PySem.W.kitOne X.K t c=some b)(h:∀tk,Q (.bool b) {s with toks:=tk}):
   wpAny (model X.prog X.w) A (call (.builtin "isinstance") [u,c]) Q E s:=by
 cases ty with
 |non=>cases(show u=Value.none from rx);exact PySem.W.kia_one PySem.W.kitx_none I.kIn True.intro e (fun z=>nomatch z) h
 |bl y=>cases(show u=Value.bool y from rx);exact PySem.W.kia_one PySem.W.kitx_bool I.kIn True.intro e (fun z=>nomatch z) h
 |int i=>obtain⟨t,q⟩:=(show∃t,u=Value.int i t from rx);cases q;exact PySem.W.kia_one PySem.W.kitx_int I.kIn True.intro e (fun z=>nomatch z) h
 |str y=>obtain⟨t,q⟩:=(show∃t,u=Value.str y t from rx);cases q;exact PySem.W.kia_one PySem.W.kitx_str I.kIn True.intro e (fun z=>nomatch z) h
 |flt y=>obtain⟨t,q⟩:=(show∃t,u=Value.float y t from rx);cases q;exact PySem.W.kia_one PySem.W.kitx_float I.kIn True.intro e (fun z=>nomatch z) h
 | @lst a xs ea=>
   cases(show u=Value.ref a from rx)
   obtain⟨_,_,n,_,h1⟩:=(show ObjOk X.prog X.w H s.heap a (.lst xs) from I.hok a _ ea)
   exact PySem.W.kia_one PySem.W.kitx_list I.kIn ⟨_,h1,rfl⟩ e (fun z=>nomatch z) h
 | @frz a ob xs ea=>
   cases(show u=Value.ref a from rx)
   obtain⟨_,_,_,n,_,h1⟩:=(show ObjOk X.prog X.w H s.heap a (.frz ob (.lst xs)) from I.hok a _ ea)
   exact PySem.W.kia_one PySem.W.kitx_list I.kIn ⟨_,h1,rfl⟩ e (fun z=>nomatch z) h
 | @tup a xs ea=>
   cases(show u=Value.ref a from rx)
   obtain⟨_,_,_,p⟩:=(show ObjOk X.prog X.w H s.heap a (.tup xs) from I.hok a _ ea)
   obtain⟨o,h1,h2,_⟩:=p
   exact PySem.W.kia_one PySem.W.kitx_tuple I.kIn ⟨o,h1,h2⟩ e (fun z=>nomatch z) h
 | @dK a kvs ea=>
   cases(show u=Value.ref a from rx)
   obtain⟨_,_,vs,_,p⟩:=(show ObjOk X.prog X.w H s.heap a (.dK kvs) from I.hok a _ ea)
   obtain⟨o,es,ep,h1,h2,_⟩:=p
   exact PySem.W.kia_one PySem.W.kitx_dict I.kIn ⟨o,h1,h2.1⟩ e (fun z=>nomatch z) h
 | @dT a kvs ea=>
   cases(show u=Value.ref a from rx)
   obtain⟨_,_,xs,_,o,es,ep,h1,h2,_⟩:=(show ObjOk X.prog X.w H s.heap a (.dT kvs) from I.hok a _ ea)
   exact PySem.W.kia_one PySem.W.kitx_dict I.kIn ⟨o,h1,h2.1⟩ e (fun z=>nomatch z) h
 | @ins a C dx fs ea cl ha hn htk hm=>
   cases(show u=Value.ref a from rx)
   obtain⟨mA,O,_⟩:=C1b I.hok ea
   obtain⟨od,J,_⟩:=O.look
   exact PySem.W.kia_one (PySem.W.kitx_own (cl.get _) cl.hd ha hn htk hm) I.kIn J e (fun z=>nomatch z) h
end
structure Room(k:Nat)(A:Around):Prop where
 hd:A.handled=none
 dp:A.depth+3*k+5<recursionLimit
 un:A.units+16*k+200<cLine
theorem Room.mono{j k:Nat}{A:Around}(r:Room k A)(h:j<=k):Room j A:=⟨r.hd,by have:=r.dp;omega,by have:=r.un;omega⟩
theorem Room.deeper{k:Nat}{A:Around}(r:Room (k+1) A)(env:Env):Room k (A.deeper env):=
 ⟨r.hd,by have:=r.dp;show A.depth+1+3*k+5<_;omega,by have:=r.un;show A.units+3+16*k+200<_;omega⟩
theorem G6j{A:Around}{C:Addr}{us:List Value}{kw:List (Str×Value)}:(A.under (.builtin "type.__call__" ⟨.ref C::us,kw⟩)).depth=A.depth+1:=by
 first|rfl|simp[Around.under,Code.weight,Code.isCreation,Code.isGuard,Code.isCaller,Code.frames,Code.isFrame,guardIds]
theorem G6s{A:Around}{C:Addr}{us:List Value}{kw:List (Str×Value)}:(A.under (.builtin "type.__call__" ⟨.ref C::us,kw⟩)).units=A.units+1:=by
 first|rfl|simp[Around.under,Code.cUnits,Code.frames,Code.isFrame]
theorem Room.make{k:Nat}{A:Around}(r:Room (k+1) A)(C:Addr)(us:List Value)(kw:List (Str×Value)):Room k (A.under (.builtin "type.__call__" ⟨.ref C::us,kw⟩)):=
 ⟨r.hd,by have:=r.dp;rw[G6j];omega,by have:=r.un;rw[G6s];omega⟩
theorem Room.depth{k:Nat}{A:Around}(r:Room k A):A.depth<recursionLimit:=by have:=r.dp;omega
theorem Room.units{k:Nat}{A:Around}(r:Room k A):A.units+64<cLine:=by have:=r.un;omega
noncomputable def B6f:TA:=fun _ H Q=>Q [] H
noncomputable def A4p (ta:TE) (tr:TA):TA:=fun σ H Q=>ta σ H fun x H1=>tr σ H1 fun xs H2=>Q (x::xs) H2
section
variable{X:Cx}{e:Expr}{es:List Expr}{te:TE}{t:TA}{pos:Pos}
theorem A7:PA X [] B6f:=fun _ _ _ _ H Q I h=>Calls.spliced_nil ⟨[],H,I,.nil,h⟩
theorem A0(ha:PE X e te)(hr:PA X es t)(hs:starEach (e::es) X.env=(false,eval e X.env)::starEach es X.env:=by rfl):PA X (e::es) (A4p te t):=by
 intro pos pins s σ H Q I h
 rw[hs]
 show wpAny _ _ (spliced ((false,eval e X.env)::backTo pos (starEach es X.env))) _ _ s
 refine Calls.spliced_cons (thn (ha pins s σ H _ I h) fun u s1 hh_=>?_)
 obtain⟨x,H1,I1,r1,q1⟩:=hh_
 exact thn (hr pos pins s1 σ H1 _ I1 q1) fun us s2 ⟨xs,H2,I2,r2,q2⟩=>⟨x::xs,H2,I2,.cons r1 r2,q2⟩
noncomputable def tTup (t:TA):TE:=fun σ H Q=>t σ H fun xs H1=>xs.length<=sizeLine/\∀p,H1 p=none ->Q (.ref p) (upd H1 p (.tup xs))
noncomputable def Y6h (t:TA):TE:=fun σ H Q=>t σ H fun xs H1=>xs.length<=sizeLine/\∀p,H1 p=none ->Q (.ref p) (upd H1 p (.lst xs))
theorem V4{x1}(h:PA X es t):PE X (.Tuple es x1 pos) (tTup t):=by
 intro pins s σ H Q I hq
 refine wpAny_Tuple_spliced (thn (h pos pins s σ H _ I hq) fun us s1 ⟨xs,H1,I1,r,z,q⟩=>⟨by rw[<-r.length];exact z,?_⟩)
 have hf:H1 s1.heap.objs.size=none:=I1.hok.fresh (Nat.le_refl _)
 refine⟨.ref s1.heap.objs.size,upd H1 s1.heap.objs.size (.tup xs),I1.laid (t':=s1.toks) (fun b u e=>Heap.get?_push_of_some _ e) (Nat.le_refl _) ?_,rfl,q _ hf⟩
 exact⟨z,us,r,⟨_,Heap.get?_push_size _ rfl,rfl,_,rfl⟩⟩
theorem U1(h:PA X es t):PE X (.List es pos) (Y6h t):=by
 intro pins s σ H Q I hq
 refine wpAny_List_spliced (thn (h pos pins s σ H _ I hq) fun us s1 ⟨xs,H1,I1,r,z,q⟩=>⟨by rw[<-r.length];exact z,?_⟩)
 have hf:H1 s1.heap.objs.size=none:=I1.hok.fresh (Nat.le_refl _)
 refine⟨.ref s1.heap.objs.size,upd H1 s1.heap.objs.size (.lst xs),I1.laid (t':=s1.toks) (fun b u e=>Heap.get?_push_of_some _ e) (Nat.le_refl _) ?_,rfl,q _ hf⟩
 exact⟨z,us,0,r,Heap.get?_push_size _ rfl⟩
end
noncomputable abbrev Sp:=List V ->Hp ->VK ->XK ->Prop
noncomputable abbrev CXT:=List Env ->Hp ->Shared ->XK ->Value ->Shared ->Prop
structure Env0(P:Program)(w:World)(K:PySem.W.Frag)(mg:Str ->Option Value)(base:Heap)(A:Around)(outer:List Env)(s:Shared)(H:Hp):Prop where
 frames:A.frames=some outer
 mod:Mod K mg base
 bs:∀b o,base.get? b=some o ->s.heap.get? b=some o/\H b=none
 bsz:base.objs.size<=s.heap.objs.size
 funs:s.heap.FunFrames base outer
 frf:∀b∈frs outer,H b=none
 hok:HOk P w H s.heap
 bare:AllBare s.gens
noncomputable def CE (outer:List Env) (P:Program) (w:World) (H:Hp) (s:Shared) (Q:VK) (u:Value) (s':Shared):Prop:=
 ∃v H',s'.os=s.os/\AllBare s'.gens/\Un (frs outer) [] H H' s.heap s'.heap/\HOk P w H' s'.heap/\RelV v u/\Q v H'
noncomputable def CR (CX:CXT) (outer:List Env) (P:Program) (w:World) (H:Hp) (s:Shared) (Q:VK) (E:XK) (r:Result) (s':Shared):Prop:=
 match r with
 | .ok (.ret u)=>CE outer P w H s Q u s'
 | .ok _=>False
 | .error e=>CX outer H s E e s'
structure FnOk(P:Program)(w:World)(K:PySem.W.Frag)(mg:Str ->Option Value)(base:Heap)(CX:CXT)(k:Nat)(f:Addr)(fd:FuncData)(ps:List Str)(sp:Sp):Prop where
 len:∀vs H Q E,sp vs H Q E ->vs.length=ps.length
 run:∀(A:Around) (outer:List Env) (s:Shared) (H:Hp) (args:Args) (us:List Value) (vs:List V) (Q:VK) (E:XK),Room k A ->Env0 P w K mg base A outer s H ->BindsTo s fd args (ps.zip us) ->Vals vs us ->sp vs H Q E ->
   codeAny (model P w) A (.call (.ref f) args) (CR CX outer P w H s Q E) s
theorem FnOk.mono{P:Program}{w:World}{K:PySem.W.Frag}{mg:Str ->Option Value}{base:Heap}{CX:CXT}{j k:Nat}{f:Addr}{fd:FuncData}{ps:List Str}{sp:Sp}(F:FnOk P w K mg base CX j f fd ps sp)(h:j<=k):
   FnOk P w K mg base CX k f fd ps sp:=⟨F.len,fun A outer s H args us vs Q E hr=>F.run A outer s H args us vs Q E (hr.mono h)⟩
theorem Env0.make{P:Program}{w:World}{K:PySem.W.Frag}{mg:Str ->Option Value}{base:Heap}{A:Around}{outer:List Env}{s:Shared}{H:Hp}(e:Env0 P w K mg base A outer s H)(C:Addr)(us:List Value)(kw:List (Str×Value)):
   Env0 P w K mg base (A.under (.builtin "type.__call__" ⟨.ref C::us,kw⟩)) outer s H:=⟨by first|exact e.frames|(simpa[Around.under,Code.envs,Code.isFrame,pushEnvs] using e.frames),e.mod,e.bs,e.bsz,e.funs,e.frf,e.hok,e.bare⟩
section
variable{X:Cx}{pins:List (Addr×Obj)}{σ:St}{H:Hp}{s s':Shared}
theorem Inv.env0(I:Inv X pins σ H s):Env0 X.prog X.w X.K X.mg X.base X.A X.stack s H:=
 ⟨I.ok.frames,I.ok.mod,I.bs,Nat.le_trans I.ok.bsz I.sz,I.stack,I.stkFree,I.hok,I.bare⟩
theorem Inv.after{Q:VK}{u:Value}(I:Inv X pins σ H s)(h:CE X.stack X.prog X.w H s Q u s'):EP X pins σ Q u s':=by
 obtain⟨v,H',os,bare,un,hok,r,q⟩:=h
 obtain⟨hh,g,d,t,os'⟩:=s'
 obtain rfl:os'=s.os:=os
 exact⟨v,H',I.call (h':=hh) (g':=g) (d':=d) (t':=t) (ch:=[]) un hok bare (fun b z=>absurd z (by simp)),r,q⟩
end
noncomputable def A0ag (C:Addr) (sp:Sp) (dvs:List V) (E:XK) (t:TA):TE:=fun σ H Q=>t σ H fun vs H1=>∀x dx,H1 x=none ->H1 dx=none ->dx≠x ->
 sp (.ref x::(vs++dvs)) (upd (upd H1 dx (.own x)) x (.ins C dx [])) (fun v H2=>v= .non/\Q (.ref x) H2) E
noncomputable def Binds (K:PySem.W.Frag) (fd:FuncData) (ps:List Str) (ds:List Value):Prop:=
 ∀(s:Shared) (us:List Value),K.In s.heap ->(us++ds).length=ps.length ->BindsTo s fd ⟨us,[]⟩ (ps.zip (us++ds))
theorem Binds.all{K:PySem.W.Frag}{fd:FuncData}{ps:List Str}(h:∀us:List Value,us.length=ps.length ->bindArgs fd ⟨us,[]⟩=pure (ps.zip us)):Binds K fd ps []:=fun s us _ hl=>by
 rw[List.append_nil] at hl ⊢
 exact .of_eq (h us hl)
noncomputable def G7b (CX:CXT) (X:Cx) (E:XK):Prop:=∀(pins:List (Addr×Obj)) (σ:St) (H:Hp) (s:Shared) (e:Value) (s':Shared),Inv X pins σ H s ->CX X.stack H s E e s' ->X.xe e s'
section
variable{X:Cx}{CX:CXT}{k:Nat}{f C:Addr}{fd:FuncData}{ps:List Str}{sp:Sp}{dvs:List V}{ds:List Value}{E:XK}{x m:Str}{p pos apos:Pos}{e o:Expr}{es:List Expr}{ta:TE}{t:TA}
structure Mk(K:PySem.W.Frag)(C f:Addr):Prop where
 makes:PySem.W.makesIn K C=true
 init:PySem.W.findIn K (.ref C) "__init__"=some (some (.ref f))
 fn:PySem.W.isFn K (.ref f)=true
 kp:PySem.W.keepIn K (.ref C)=true
theorem U8w{pins:List (Addr×Obj)}{σ:St}{H:Hp}{s:Shared}{Q:VK}{us:List Value}{vs:List V}(M:Mk X.K C f)(F:FnOk X.prog X.w X.K X.mg X.base CX k f fd ps sp)(hr:Room (k+1) X.A)(hb:Binds X.K fd ps ds)(hd:Vals dvs ds)
   (hx:G7b CX X E) (I:Inv X pins σ H s) (r:Vals vs us)
   (h:∀x dx,H x=none ->H dx=none ->dx≠x ->sp (.ref x::(vs++dvs)) (upd (upd H dx (.own x)) x (.ins C dx [])) (fun v H2=>v= .non/\Q (.ref x) H2) E):
   wpAny (model X.prog X.w) X.A (call (.ref C) us) (EP X pins σ Q) X.xe s:=by
 have hq:=h (s.heap.objs.size+1) s.heap.objs.size (I.hok.fresh (Nat.le_succ _)) (I.hok.fresh (Nat.le_refl _)) (Nat.ne_of_lt (Nat.lt_succ_self _))
 have I2:=Inv.made (C:=C) I
 have r2:Vals (V.ref (s.heap.objs.size+1)::(vs++dvs)) (Value.ref (s.heap.objs.size+1)::(us++ds)):= .cons rfl (r.append hd)
 have hl:(Value.ref (s.heap.objs.size+1)::us++ds).length=ps.length:=by
   have e:=r2.length
   rw[F.len _ _ _ _ hq] at e
   exact e.symm
 refine wpAny_call (G2r (f:=f) I.kIn M.makes M.init (beq_iff_eq.mp M.fn) (codeAny_mono (F.run _ X.stack _ _ ⟨Value.ref (s.heap.objs.size+1)::us,[]⟩ (Value.ref (s.heap.objs.size+1)::(us++ds)) _ _ E (hr.make C us [])
   (I2.env0.make C us []) (hb _ (Value.ref (s.heap.objs.size+1)::us) I2.kIn hl) r2 hq) fun r s' hq'=>?_))
 cases r with
 |error e=>exact hx pins σ _ _ e s' I2 hq'
 | ok fl=>
   cases fl with
   | ret u=>
     obtain⟨v,H',I3,rv,ev,q3⟩:=I2.after hq'
     subst ev
     exact⟨rv,⟨V.ref (s.heap.objs.size+1),H',I3,rfl,q3⟩⟩
   |next=>exact False.elim hq'
   |brk=>exact False.elim hq'
   |cont=>exact False.elim hq'
theorem D2g(M:Mk X.K C f)(F:FnOk X.prog X.w X.K X.mg X.base CX k f fd ps sp)(hr:Room (k+1) X.A)(hg:Gl X x)(hm:X.mg x=some (.ref C))(hb:Binds X.K fd ps ds)(hd:Vals dvs ds)(hx:G7b CX X E)
   (ha:PA X (e::es) t) (hdb:(x==("__debug__":Str))=false:=by decide) (he:starEach (e::es) X.env=(false,eval e X.env)::starEach es X.env:=by rfl) (hpl:(backTo pos (starEach es X.env)).any (·.1)=false:=by rfl):
   PE X (.Call (.Name x p) (e::es) [] pos) (A0ag C sp dvs E t):=by
 intro pins s σ H Q I h
 refine wpAny_Call_Name_kw (A0h I hg hm ?_ hdb)
 refine PySem.W.callWith_K (h₀:=X.base) I.ok.mod.kin M.kp (thn (ha pos pins s σ H _ I h) fun us s1 ⟨vs,H1,I1,r,q⟩=>⟨I1.kIn,?_⟩) he hpl
 exact U8w M F hr hb hd hx I1 r q
end
section
variable{X:Cx}{CX:CXT}{k:Nat}{f C:Addr}{fd:FuncData}{ps ks:List Str}{sp:Sp}{E:XK}{x m:Str}{p pos apos kpos:Pos}{e o:Expr}{es:List Expr}{kws:List Keyword}{te ta:TE}{t tk:TA}{nm:Option Str}
structure KBinds(K:PySem.W.Frag)(fd:FuncData)(ps ks:List Str)(g:List Value ->List Value ->List Value)(gV:List V ->List V ->List V):Prop where
 to:∀(s:Shared) (us ws:List Value),K.In s.heap ->(g us ws).length=ps.length ->BindsTo s fd ⟨us,ks.zip ws⟩ (ps.zip (g us ws))
 rel:∀{vs:List V} {us:List Value} {zs:List V} {ws:List Value},Vals vs us ->Vals zs ws ->Vals (gV vs zs) (g us ws)
variable{g:List Value ->List Value ->List Value}{gV:List V ->List V ->List V}
end
structure FnScope(N P:List Str)(sc:Scope):Prop where
 kind:sc.kind= .function
 co:sc.isCoroutine=false
 gen:sc.isGenerator=false
 nd:N.Nodup
 pre:N.take P.length=P
 par:∀x∈P,sc.names.lookup x=some .local\/sc.names.lookup x=some .cell
 nofree:∀y∈sc.names,y.2≠ .free
theorem C9x{kindOf:Str ->Option NameKind}{x:Str}:∀{binds:List (Str×Value)} {m:Str ->Option Value},(∀v,(x,v) ∉ binds) ->bindL kindOf binds m x=m x
 | [],_,_=>rfl
 | (n,v)::r,m,h=>by
   unfold bindL
   rw[C9x fun w hw=>h w (List.mem_cons_of_mem _ hw)]
   split
   . have:x≠n:=by rintro rfl;exact h v List.mem_cons_self
     simp[this]
   . rfl
theorem C9u{kindOf:Str ->Option NameKind}{x:Str}:∀{binds:List (Str×Value)} {m:Str ->Option Value},(∀v,(x,v) ∉ binds) ->bindC kindOf binds m x=m x
 | [],_,_=>rfl
 | (n,v)::r,m,h=>by
   unfold bindC
   rw[C9u fun w hw=>h w (List.mem_cons_of_mem _ hw)]
   split
   . rfl
   . have:x≠n:=by rintro rfl;exact h v List.mem_cons_self
     simp[this]
theorem D0k{kindOf:Str ->Option NameKind}{x:Str}{v:Value}:∀{P:List Str} {vs:List Value} {i:Nat} {m:Str ->Option Value},P.Nodup ->P[i]?=some x ->vs[i]?=some v ->kindOf x=some .local ->
   bindL kindOf (P.zip vs) m x=some v
 | [],_,_,_,_,h,_,_=>by simp at h
 |_::_,[],_,_,_,_,h,_=>by simp at h
 | p::P,w::vs,0,m,nd,h1,h2,hk=>by
   simp at h1 h2;subst h1;subst h2
   show bindL kindOf ((p,w)::P.zip vs) m p=_
   unfold bindL
   rw[C9x fun v hv=>(List.nodup_cons.mp nd).1 (List.of_mem_zip hv).1,if_pos hk]
   simp
 | p::P,w::vs,i+1,m,nd,h1,h2,hk=>by
   show bindL kindOf ((p,w)::P.zip vs) m x=_
   unfold bindL
   exact D0k (i:=i) (List.nodup_cons.mp nd).2 (by simpa using h1) (by simpa using h2) hk
theorem C9w{kindOf:Str ->Option NameKind}{x:Str}{v:Value}:∀{P:List Str} {vs:List Value} {i:Nat} {m:Str ->Option Value},P.Nodup ->P[i]?=some x ->vs[i]?=some v ->kindOf x≠some .local ->
   bindC kindOf (P.zip vs) m x=some v
 | [],_,_,_,_,h,_,_=>by simp at h
 |_::_,[],_,_,_,_,h,_=>by simp at h
 | p::P,w::vs,0,m,nd,h1,h2,hk=>by
   simp at h1 h2;subst h1;subst h2
   show bindC kindOf ((p,w)::P.zip vs) m p=_
   unfold bindC
   rw[C9u fun v hv=>(List.nodup_cons.mp nd).1 (List.of_mem_zip hv).1,if_neg hk]
   simp
 | p::P,w::vs,i+1,m,nd,h1,h2,hk=>by
   show bindC kindOf ((p,w)::P.zip vs) m x=_
   unfold bindC
   exact C9w (i:=i) (List.nodup_cons.mp nd).2 (by simpa using h1) (by simpa using h2) hk
noncomputable def A0w (N:List Str) (vs:List V):St:=vs.map some++List.replicate (N.length-vs.length) none
noncomputable def Z9 (CX:CXT) (P:Program) (w:World) (K:PySem.W.Frag) (mg:Str ->Option Value) (base:Heap) (N:List Str) (qual:Str) (scope:Scope) (f:Addr) (cd:Value) (A:Around) (outer:List Env) (s:Shared) (H:Hp) (E:XK):Cx where
 prog:=P
 w:=w
 K:=K
 mg:=mg
 base:=base
 A:=A.deeper (envOfC qual scope s.heap.objs.size f cd)
 N:=N
 s₀:=s
 H₀:=H
 env:=envOfC qual scope s.heap.objs.size f cd
 outer:=outer
 stack:=envOfC qual scope s.heap.objs.size f cd::outer
 ex:=[]
 calm:=true
 fn:=fun _=>true
 pn:=[]
 xe:=fun e s'=>wpAny (model P w) (A.deeper (envOfC qual scope s.heap.objs.size f cd)) (leaving (envOfC qual scope s.heap.objs.size f cd) e) (fun _ s''=>CX outer H s E e s'') (fun e' s''=>CX outer H s E e' s'') s'
theorem G1z{sc:Scope}{n:Nat}{x:Str}(h:sc.names.lookup x=some .cell):∃c,(cellsFrom n sc.names []).lookup x=some c:=by
 have q:=PySem.W.cellsFrom_some sc.names n [] (.inl h)
 exact Option.isSome_iff_exists.mp q
theorem B6d{CX:CXT}{P:Program}{w:World}{K:PySem.W.Frag}{mg:Str ->Option Value}{base:Heap}{N ps:List Str}{qual:Str}{scope:Scope}{f:Addr}{cd:Value}{A:Around}{outer:List Env}{s s1:Shared}{H:Hp}{E:XK}{us:List Value}{vs:List V}
   (S:FnScope N ps scope) (hd:A.handled=none) (e0:Env0 P w K mg base A outer s H) (hl:vs.length=ps.length) (r:Vals vs us)
   (x:InCallC s s.heap.objs.size (bindL (envOfC qual scope s.heap.objs.size f cd).kindOf (ps.zip us) fun _=>none) (cellsFrom (s.heap.objs.size+1) scope.names []) (bindC (envOfC qual scope s.heap.objs.size f cd).kindOf (ps.zip us) fun _=>none) s1):
   Inv (Z9 CX P w K mg base N qual scope f cd A outer s H E) [] (A0w N vs) H s1:=by
 have hpl:ps.length<=N.length:=by have:=congrArg List.length S.pre;rw[List.length_take] at this;omega
 obtain⟨h1,tk,rfl,hk⟩:=x.done
 have noA:∀b:Addr,b ∉ (Z9 CX P w K mg base N qual scope f cd A outer s H E).ex:=fun b z=>absurd (show b∈([]:List Addr) from z) (by simp)
 refine⟨⟨e0.mod,S.kind,rfl,rfl,Nat.le_refl _,fun y z c h1 h2=>?_,fun y hy=>?_,fun y c _ h=>?_,fun _=>hd,Around.frames_deeper e0.frames,.inr ⟨rfl,rfl⟩,fun b z=>absurd z (noA b),e0.bs,e0.bsz,fun b _ _=>noA b,fun b z=>absurd z (noA b),e0.funs,e0.frf⟩,
   rfl,e0.bare,Un.kept hk,⟨_,x.toInCall.ns,fun i y v h1 h2 h3=>?_⟩,fun y c h=>⟨_,x.cell y c h⟩,e0.hok.fresh (Nat.le_refl _),fun y c h=>?_,fun p hp=>absurd (show p∈([]:List (Addr×Obj)) from hp) (by simp),e0.hok.kept hk,?_⟩
 . exact name_of_addr x.apart (PySem.mem_of_lookup h1) (PySem.mem_of_lookup h2)
 . have hy:scope.names.lookup y=some .cell\/scope.names.lookup y=some .free:=hy
   rcases hy with hy|hy
   . exact G1z hy
   . exact absurd rfl (S.nofree _ (PySem.mem_of_lookup hy))
 . exact Nat.le_of_lt (x.above y c (PySem.mem_of_lookup h))
 . have hi:i<vs.length:=by
     unfold A0w at h2
     by_cases hi:i<vs.length
     . exact hi
     . rw[List.getElem?_append_right (by simpa using hi)] at h2
       rw[List.getElem?_replicate] at h2
       split at h2<;>cases h2
   have ha:vs[i]?=some v:=by
     unfold A0w at h2
     rw[List.getElem?_append_left (by simpa using hi),List.getElem?_map] at h2
     cases e:vs[i]? with
     |none=>rw[e] at h2;cases h2
     |some a=>rw[e] at h2;cases h2;rfl
   obtain⟨u,hu,rv⟩:=r.get ha
   have hp:ps[i]?=some y:=by
     rw[<-S.pre,List.getElem?_take_of_lt (by omega)];exact h1
   have ndP:ps.Nodup:=by rw[<-S.pre];exact S.nd.sublist (List.take_sublist _ _)
   refine⟨u,rv,?_⟩
   rcases S.par y (List.mem_of_getElem? hp) with k|k
   . exact .inl ⟨k,D0k ndP hp hu k⟩
   . obtain⟨c,e⟩:=G1z (n:=s.heap.objs.size+1) k
     refine .inr ⟨.inl k,c,e,?_⟩
     have q:=x.cell y c e
     rw[C9w ndP hp hu (by show scope.names.lookup y≠_;rw[k];decide)] at q
     exact q
 . exact e0.hok.fresh (Nat.le_of_lt (x.above y c (PySem.mem_of_lookup h)))
 . unfold A0w
   show _=N.length
   rw[List.length_append,List.length_map,List.length_replicate]
   omega
theorem U6z{CX:CXT}{P:Program}{w:World}{K:PySem.W.Frag}{mg:Str ->Option Value}{base:Heap}{k:Nat}{f:Addr}{name qual:Str}{params:Arguments}{body:List Stmt}{scope:Scope}{dV kV doc pm cdv ct oc:Value}{an od:Option Addr}
   {osl:Array (Option Value)} {N ps:List Str} {sp:Sp} (lk:K.lookup f=some ⟨oc,od,.func (PySem.W.fnOf name qual params body scope dV kV doc pm an cdv ct),osl⟩) (hcd:PySem.W.codeIn K cdv qual=true) (S:FnScope N ps scope)
   (len:∀vs H Q E,sp vs H Q E ->vs.length=ps.length)
   (hbody:∀(A:Around) (outer:List Env) (s:Shared) (H:Hp) (vs:List V) (Q:VK) (E:XK),Room k (A.deeper (envOfC qual scope s.heap.objs.size f cdv)) ->sp vs H Q E ->
     ∃t,PSs (Z9 CX P w K mg base N qual scope f cdv A outer s H E) body t/\t {nx:=fun _ H'=>Q .non H',rt:=Q} (A0w N vs) H):
   FnOk P w K mg base CX (k+1) f (PySem.W.fnOf name qual params body scope dV kV doc pm an cdv ct) ps sp:=by
 refine⟨len,fun A outer s H args us vs Q E hr e0 hb r hsp=>?_⟩
 have hl:=len _ _ _ _ hsp
 have KX:K.In s.heap:=e0.mod.kin.keeps fun b o e=>(e0.bs b o e).1
 have lim:s.heap.NoLimit:=e0.mod.nolimit.keeps fun b o e=>(e0.bs b o e).1
 have hkind:∀y∈ps.zip us,scope.names.lookup y.1=some .local\/(scope.names.lookup y.1=some .cell/\((cellsFrom (s.heap.objs.size+1) scope.names []).lookup y.1).isSome=true):=fun⟨n,v⟩ hy=>by
   rcases S.par n (List.of_mem_zip hy).1 with q|q
   . exact .inl q
   . exact .inr ⟨q,PySem.W.cellsFrom_some _ _ _ (.inl q)⟩
 refine codeAny_call_function hr.depth (KX _ _ lk) rfl S.co S.gen rfl (PySem.W.codeRec_of KX hcd) (hb _ _ _ _ ?_)
 refine wpAny_newFunctionEnv_cells S.kind hkind fun env he s1 x=>?_
 subst he
 refine⟨lim.keeps x.toInCall.keep,codeAny_func ?_⟩
 obtain⟨t,ht,hq⟩:=hbody A outer s H vs Q E (hr.deeper _) hsp
 have I:Inv (Z9 CX P w K mg base N qual scope f cdv A outer s H E) [] (A0w N vs) H s1:=B6d S hr.hd e0 hl r x
 refine wpAny_mono (ht [] s1 (A0w N vs) H _ I hq) (fun fl s' hs=>?_) fun e s' hs=>hs
 have fin:∀{σ':St} {H':Hp} {v:V} {u:Value},Inv (Z9 CX P w K mg base N qual scope f cdv A outer s H E) [] σ' H' s' ->RelV v u ->Q v H' ->CE outer P w H s Q u s':=
   fun{σ' H' v u} J rv q=>⟨v,H',J.os,J.bare,J.base,J.hok,rv,q⟩
 cases fl with
 | ret u=>
   obtain⟨v,σ',H',J,rv,q⟩:=hs
   exact fin J rv q
 | next=>
   obtain⟨σ',H',J,q⟩:=hs
   exact fin (v:=V.non) (u:=Value.none) J rfl q
 | brk=>
   obtain⟨_,_,_,q⟩:=hs
   exact False.elim q
 | cont=>
   obtain⟨_,_,_,q⟩:=hs
   exact False.elim q
section
variable{X:Cx}{x:Str}{p pos:Pos}{e:Expr}{es:List Expr}{t:TA}{id T:String}{r:List V ->Hp ->VK ->Prop}
noncomputable def tCB (r:List V ->Hp ->VK ->Prop) (t:TA):TE:=fun σ H Q=>t σ H fun vs H1=>r vs H1 Q
theorem V3(hc:A7y X (.builtin id) r)(hg:Gl X x)(hm:X.mg x=none)(hv:bootBuiltins x=some (.builtin id))(ha:PA X (e::es) t)(hn:x≠"__name__":=by decide)(hdb:(x==("__debug__":Str))=false:=by decide)
   (he:starEach (e::es) X.env=(false,eval e X.env)::starEach es X.env:=by rfl) (hpl:(backTo pos (starEach es X.env)).any (·.1)=false:=by rfl):PE X (.Call (.Name x p) (e::es) [] pos) (tCB r t):=by
 intro pins s σ H Q I h
 refine wpAny_Call_Name_kw (D1z I hg hm hv ?_ hn hdb)
 exact PyProof.Rows.callWith_builtin1 (thn (ha pos pins s σ H _ I h) fun us s1 ⟨vs,H1,I1,r1,q1⟩=>hc pins s1 σ H1 vs us Q I1 r1 q1) he hpl
theorem J9(hc:A7y X (.type T) r)(hg:Gl X x)(hm:X.mg x=none)(hv:bootBuiltins x=some (.type T))(ha:PA X (e::es) t)(hn:x≠"__name__":=by decide)(hdb:(x==("__debug__":Str))=false:=by decide)
   (he:starEach (e::es) X.env=(false,eval e X.env)::starEach es X.env:=by rfl) (hpl:(backTo pos (starEach es X.env)).any (·.1)=false:=by rfl):PE X (.Call (.Name x p) (e::es) [] pos) (tCB r t):=by
 intro pins s σ H Q I h
 refine wpAny_Call_Name_kw (D1z I hg hm hv ?_ hn hdb)
 exact PyProof.Rows.callWith_type1 (thn (ha pos pins s σ H _ I h) fun us s1 ⟨vs,H1,I1,r1,q1⟩=>hc pins s1 σ H1 vs us Q I1 r1 q1) he hpl
end
end L2
namespace HT
open PySem PyProof.Rows
section
open PySem.SeqAt
open PySem.AutoSeq1 (wpAny_loadPart')
open PySem.MeetsSeq PySem.MeetsSeq2 PySem.MeetsSeq3
end
section
variable{prog:Program}{w:World}{A:Around}{E:Value ->Shared ->Prop}{s:Shared}
theorem cat_tup{t b:Addr}{vs ws:List Value}{Q:Value ->Shared ->Prop}(ht:IsTup s.heap t vs.toArray)(hb:IsTup s.heap b ws.toArray)(hv:vs≠ [])
   (h1:ws=[] ->Q (.ref t) s) (h2:ws≠ [] ->Q (.ref s.heap.objs.size) {s with heap:=s.heap.push {cls:= .type "tuple",data:= .seq (vs++ws).toArray}})
   (hsz:vs.length+ws.length<=sizeLine):wpAny (model prog w) A (binaryOp .Add (.ref t) (.ref b)) Q E s:=by
 obtain⟨⟨cls,dd,data,sl⟩,ho,hc,n,hd⟩:=id ht
 obtain⟨⟨cls2,dd2,data2,sl2⟩,ho2,hc2,n2,hd2⟩:=id hb
 simp only at hc hd hc2 hd2
 subst hc hd hc2 hd2
 have e:vs.toArray++ws.toArray=(vs++ws).toArray:=by simp
 by_cases hw:ws=[]
 . exact concat_meets ⟨_,ho,rfl⟩ ⟨_,ho2,rfl⟩ noFill_tuple_add seq_tuple_add PySem.F.slot_tuple_add PySem.F.entry_tuple_add (PySem.F.args_tuple_add_2 _ _)
     (tuple_addW1 t b vs.toArray ws.toArray n n2 dd dd2 sl sl2 (by simpa using hv) (by simp[hw])) ⟨ho,ho2,h1 hw⟩
 . refine concat_meets ⟨_,ho,rfl⟩ ⟨_,ho2,rfl⟩ noFill_tuple_add seq_tuple_add PySem.F.slot_tuple_add PySem.F.entry_tuple_add (PySem.F.args_tuple_add_2 _ _)
     (tuple_addW2 t b vs.toArray ws.toArray n n2 dd dd2 sl sl2 (by simpa using hv) (by simpa using hw) (by rw[List.size_toArray,List.size_toArray];exact hsz)) ⟨ho,ho2,?_⟩
   rw[e]
   exact h2 hw
noncomputable def sIx (n d:Nat):Option Int ->Nat
 |none=>d
 |some v=>if v<0 then(v+(n:Int)).toNat else min v.toNat n
theorem Z4e(n d:Nat)(hd:d<=n)(o:Option Int):sIx n d o<=n:=by
 cases o with
 |none=>exact hd
 | some v=>
   show(if v<0 then(v+(n:Int)).toNat else min v.toNat n)<=n
   by_cases hv:v<0
   . rw[if_pos hv];omega
   . rw[if_neg hv];exact Nat.min_le_right _ _
theorem J8d(v:Int)(n d:Nat):(if v<0 then max (v+(n:Int)) 0 else min v (n:Int))=((sIx n d (some v):Nat):Int):=by
 show(if v<0 then max (v+(n:Int)) 0 else min v (n:Int))=(((if v<0 then(v+(n:Int)).toNat else min v.toNat n):Nat):Int)
 by_cases hv:v<0
 . simp only[if_pos hv];omega
 . simp only[if_neg hv];omega
theorem G6u(lo hi:Option Int)(n:Nat):Builtin.Slice.sliceAdjust lo hi 1 (n:Int)=(((sIx n 0 lo:Nat):Int),((sIx n n hi:Nat):Int)):=by
 have h1:¬((1:Int)<0):=by omega
 unfold Builtin.Slice.sliceAdjust
 simp only[h1,if_false]
 refine Prod.ext ?_ ?_
 . cases lo with
   |none=>rfl
   |some v=>exact J8d v n 0
 . cases hi with
   |none=>rfl
   |some v=>exact J8d v n n
theorem G7p(i j:Nat):Builtin.Slice.slicePlaces (i:Int) (j:Int) 1=j-i:=by
 unfold Builtin.Slice.slicePlaces
 have h1:(1:Int)>0:=by omega
 simp only[h1,if_true,Int.ediv_one]
 split<;>omega
theorem C1u{v:Value}{o:Option Int}{Q:Option Int ->Shared ->Prop}(p:IsPart v o)(h:Q o s):wpAny (model prog w) A (Builtin.Slice.slicePartIndex v) Q E s:=by
 cases p with
 |none=>exact slicePart_none h
 |int i t=>exact slicePart_int h
theorem B6g{sl:Addr}{vl vu:Value}{lo hi:Option Int}{n:Nat}{Q:Int×Int×Nat ->Shared ->Prop}(hs:s.heap.IsSliceOf sl vl vu .none)(pl:IsPart vl lo)(pu:IsPart vu hi)
   (h:Q (((sIx n 0 lo:Nat):Int),1,sIx n n hi-sIx n 0 lo) s):wpAny (model prog w) A (Builtin.Slice.sliceApplied (.ref sl) (pure (n:Int))) Q E s:=by
 obtain⟨os,hos,hcs,hds⟩:=id hs
 unfold Builtin.Slice.sliceApplied Builtin.Slice.sliceFields
 refine wpAny_bind (wpAny_bind (wpAny_field hos hds (x:=vl) rfl (wpAny_bind (wpAny_field hos hds (x:=vu) rfl (wpAny_bind (wpAny_field hos hds (x:= .none) rfl (wpAny_pure ?_)))))))
 refine wpAny_bind (slicePart_none ?_)
 show wpAny _ _ (if((1:Int)==0)=true then _ else _) _ _ s
 rw[if_neg (by decide)]
 refine wpAny_bind (C1u pl (wpAny_bind (C1u pu (wpAny_bind (wpAny_pure ?_)))))
 show wpAny _ _ (match Builtin.Slice.sliceAdjust lo hi 1 (n:Int) with|(lo,hi)=>pure (lo,(1:Int),Builtin.Slice.slicePlaces lo hi 1)) _ _ s
 rw[G6u lo hi n]
 show wpAny _ _ (pure (((sIx n 0 lo:Nat):Int),(1:Int),Builtin.Slice.slicePlaces ((sIx n 0 lo:Nat):Int) ((sIx n n hi:Nat):Int) 1)) _ _ s
 rw[G7p]
 exact wpAny_pure h
theorem V0y(xs:Array Value)(i k:Nat):((List.range k).filterMap fun(m:Nat)=>xs[((i:Int)+(m:Int)*1).toNat]?).toArray=((xs.toList.drop i).take k).toArray:=by
 have e:(fun(m:Nat)=>xs[((i:Int)+(m:Int)*1).toNat]?)=fun m=>xs[i+m]?:=by
   funext m
   have:((i:Int)+(m:Int)*1).toNat=i+m:=by omega
   rw[this]
 rw[e]
 have:=pick_run xs i k
 rw[List.filterMap_map] at this
 have e2:((fun x=>xs[x]?)∘fun x=>i+x)=fun m=>xs[i+m]?:=rfl
 rw[e2] at this
 rw[this]
theorem getItem_tuple_cut{t sl:Addr}{items:Array Value}{vl vu:Value}{lo hi:Option Int}{Q:Value ->Shared ->Prop}(ht:IsTup s.heap t items)(hs:s.heap.IsSliceOf sl vl vu .none)(pl:IsPart vl lo)(pu:IsPart vu hi)
   (hw:¬(sIx items.size 0 lo=0/\sIx items.size items.size hi=items.size))
   (h:Q (.ref s.heap.objs.size) {s with heap:=s.heap.push {cls:= .type "tuple",data:= .seq ((items.toList.drop (sIx items.size 0 lo)).take (sIx items.size items.size hi-sIx items.size 0 lo)).toArray}})
   (hsz:items.size<=sizeLine):wpAny (model prog w) A (getItem (.ref t) (.ref sl)) Q E s:=by
 have htake:sizeOk (.seq ((items.toList.drop (sIx items.size 0 lo)).take (sIx items.size items.size hi-sIx items.size 0 lo)).toArray):=by
   show((items.toList.drop (sIx items.size 0 lo)).take (sIx items.size items.size hi-sIx items.size 0 lo)).toArray.size<=sizeLine
   rw[List.size_toArray,List.length_take,List.length_drop,Array.length_toList]
   omega
 have hj:sIx items.size items.size hi<=items.size:=Z4e _ _ (Nat.le_refl _) hi
 obtain⟨os,hos,hcs,hds⟩:=id hs
 have hTs:s.TypeIs (.ref sl) "slice":=⟨os,hos,hcs⟩
 unfold getItem
 try with_reducible refine wpAny_holding ?_
 first|refine wpAny_bind (wpAny_pure ?_)|skip
 refine wpAny_bind (wpAny_sequenceKey ht.typeIs (by decide) ?_)
 refine wpAny_bind (wpAny_callSpecial?_slot (name:=Str.ofString "__getitem__") ht.typeIs PyProof.Rows.slot_tuple_getitem
   (wpAny_call_entry PyProof.Rows.slot_tuple_getitem ht.typeIs entry_tuple_getitem ?_ (args_tuple_getitem _ _)))
 show wpAny _ _ (Builtin.Tuple.tupleItemsOf (.ref t)>>=_) _ _ s
 refine wpAny_bind (tupleItemsOf_ ht ?_)
 refine wpAny_bind (wpAny_typeOf hTs ?_)
 rw[if_pos (by decide)]
 refine wpAny_bind (B6g hs pl pu ?_)
 have hno:¬((((sIx items.size 0 lo:Nat):Int)==0&&(1:Int)==1&&(sIx items.size items.size hi-sIx items.size 0 lo)==items.size)=true):=by
   intro q
   rw[Bool.and_eq_true,Bool.and_eq_true] at q
   have q1:((sIx items.size 0 lo:Nat):Int)=0:=eq_of_beq q.1.1
   have q2:sIx items.size items.size hi-sIx items.size 0 lo=items.size:=eq_of_beq q.2
   exact hw ⟨by omega,by omega⟩
 show wpAny _ _ (if(((sIx items.size 0 lo:Nat):Int)==0&&(1:Int)==1&&(sIx items.size items.size hi-sIx items.size 0 lo)==items.size)=true then _ else _) _ _ s
 rw[if_neg hno,V0y]
 first
   |exact wpAny_bind (m:=Builtin.Tuple.tupleExact _) (wpAny_newObj_type (wpAny_pure ⟨_,rfl,wpAny_pure h⟩) htake)
   |exact wpAny_bind (m:=Builtin.Tuple.tupleExact _) (wpAny_newObj_type (wpAny_bind (wpAny_pure (wpAny_pure ⟨_,rfl,wpAny_pure h⟩))) htake)
   |exact wpAny_bind (wpAny_bind (m:=Builtin.Tuple.tupleExact _) (wpAny_newObj_type (wpAny_pure (wpAny_pure ⟨_,rfl,wpAny_pure h⟩)) htake))
   |exact wpAny_bind (wpAny_bind (m:=Builtin.Tuple.tupleExact _) (wpAny_newObj_type (wpAny_pure ⟨_,rfl,wpAny_pure h⟩) htake))
end
end HT
namespace L2
open PySem PySem.Spec PyProof.Rows
noncomputable abbrev TO:=St ->Hp ->(Option Int ->Hp ->Prop) ->Prop
noncomputable def PO (X:Cx) (e:Option Expr) (t:TO):Prop:=
 ∀ (pins:List (Addr×Obj)) (s:Shared) (σ:St) (H:Hp) (Q:Option Int ->Hp ->Prop),Inv X pins σ H s ->t σ H Q ->
   wpAny (model X.prog X.w) X.A (evalPart e X.env) (fun u s'=>∃o H',Inv X pins σ H' s'/\IsPart u o/\Q o H') X.xe s
noncomputable def Y4e:TO:=fun _ H Q=>Q none H
noncomputable def Z9p (t:TE):TO:=fun σ H Q=>t σ H fun x H1=>∃i,x= .int i/\Q (some i) H1
section
variable{X:Cx}{e:Expr}{te:TE}{lo hi:Option Expr}{tl th:TO}{pos p2:Pos}
theorem J7y:PO X none Y4e:=by
 intro pins s σ H Q I h
 rw[evalPart_none]
 exact wpAny_pure ⟨none,H,I,.none,h⟩
theorem J8s(h:PE X e te):PO X (some e) (Z9p te):=by
 intro pins s σ H Q I hw
 rw[evalPart_some]
 refine thn (h pins s σ H _ I hw) fun u s1 hh_=>?_
 obtain⟨x,H1,I1,r1,q1⟩:=hh_
 obtain⟨i,rfl,q⟩:=q1
 obtain⟨t,rfl⟩:=r1
 exact⟨some i,H1,I1,.int i t,q⟩
noncomputable def SlR (X:Cx) (r:V ->Option Int ->Option Int ->Hp ->VK ->Prop):Prop:=
 ∀ (pins:List (Addr×Obj)) (s:Shared) (σ:St) (H:Hp) (x:V) (v vl vu:Value) (lo hi:Option Int) (sl:Addr) (Q:VK),Inv X pins σ H s ->RelV x v ->s.heap.IsSliceOf sl vl vu .none ->IsPart vl lo ->IsPart vu hi ->r x lo hi H Q ->
   ∃T id,typeLookup (.type T) "__getitem__"=pure (some (.builtin id))/\s.TypeIs v T/\wpAny (model X.prog X.w) X.A (getItem v (.ref sl)) (EP X pins σ Q) X.xe s
noncomputable def tSl (r:V ->Option Int ->Option Int ->Hp ->VK ->Prop) (te:TE) (tl th:TO):TE:=fun σ H Q=>te σ H fun x H1=>tl σ H1 fun l H2=>th σ H2 fun u H3=>r x l u H3 Q
theorem G1w{r:V ->Option Int ->Option Int ->Hp ->VK ->Prop}(hr:SlR X r)(he:PE X e te)(hl:PO X lo tl)(hu:PO X hi th):PE X (.Subscript e (.Slice lo hi none p2) pos) (tSl r te tl th):=by
 intro pins s σ H Q I h
 refine Subscript_ (thn (he pins s σ H _ I h) fun v s1 hh_=>?_)
 obtain⟨x,H1,I1,r1,q1⟩:=hh_
 refine wpAny_Slice (thn (hl pins s1 σ H1 _ I1 q1) fun vl s2 ⟨l,H2,I2,pl,q2⟩=>thn (hu pins s2 σ H2 _ I2 q2) fun vu s3 hh_=>?_)
 obtain⟨u,H3,I3,pu,q3⟩:=hh_
 rw[evalPart_none]
 refine wpAny_pure ?_
 have I4:Inv X pins σ H3 {s3 with heap:=s3.heap.push {cls:= .type "slice",data:= .fields #[vl,vu,.none]}}:=I3.kept (t':=s3.toks) fun b ob q=>Heap.get?_push_of_some _ q
 obtain⟨T,id,hT,ht,hg⟩:=hr pins {s3 with heap:=s3.heap.push {cls:= .type "slice",data:= .fields #[vl,vu,.none]}} σ H3 x v vl vu l u s3.heap.objs.size Q I4 r1 (Heap.IsSliceOf.new ..) pl pu q3
 show wpAny (model X.prog X.w) X.A (subscriptTail e (.Slice lo hi none p2) v (.ref s3.heap.objs.size)) (EP X pins σ Q) X.xe {s3 with heap:=s3.heap.push {cls:= .type "slice",data:= .fields #[vl,vu,.none]}}
 exact tail_any (ops:=[.ref s3.heap.objs.size,v]) ht hT hg (by with_unfolding_all rfl)
noncomputable def U1j (xs:List V) (lo hi:Option Int):List V:=(xs.drop (HT.sIx xs.length 0 lo)).take (HT.sIx xs.length xs.length hi-HT.sIx xs.length 0 lo)
theorem G1u(xs:List V)(lo hi:Option Int):(U1j xs lo hi).length<=xs.length:=by
 unfold U1j
 rw[List.length_take,List.length_drop]
 omega
noncomputable def rSlT (K:PySem.W.Frag):V ->Option Int ->Option Int ->Hp ->VK ->Prop:=fun x lo hi H Q=>∃a xs,x= .ref a/\SqT K H a xs/\
 ¬(HT.sIx xs.length 0 lo=0/\HT.sIx xs.length xs.length hi=xs.length)/\∀p,H p=none ->Q (.ref p) (upd H p (.tup (U1j xs lo hi)))
theorem V0j:SlR X (rSlT X.K):=by
 intro pins s σ H x v vl vu lo hi sl Q I rx hs pl pu h
 obtain⟨a,xs,rfl,hx,hw,q⟩:=h
 cases rx
 obtain⟨its,r,ht,hz⟩:=I.tuple hx
 have hlen:its.toArray.size=xs.length:=by rw[List.size_toArray];exact r.length.symm
 refine⟨"tuple",_,PyProof.Rows.slot_tuple_getitem.lookup,ht.typeIs,?_⟩
 refine HT.getItem_tuple_cut ht hs pl pu (by rw[hlen];exact hw) ?_ (by rw[hlen];exact hz)
 rw[hlen]
 refine⟨.ref s.heap.objs.size,_,I.laid (t':=s.toks) (o:= .tup (U1j xs lo hi)) (fun b ob q=>Heap.get?_push_of_some _ q) (Nat.le_refl _) ?_,rfl,q _ (I.hok.fresh (Nat.le_refl _))⟩
 exact⟨Nat.le_trans (G1u xs lo hi) hz,_,(r.drop (HT.sIx xs.length 0 lo)).take (HT.sIx xs.length xs.length hi-HT.sIx xs.length 0 lo),IsTup.new _ _⟩
noncomputable def Z9r (K:PySem.W.Frag):R2:=fun x y H Q=>∃a b xs ys,x= .ref a/\y= .ref b/\SqT K H a xs/\SqT K H b ys/\xs≠ []/\xs.length+ys.length<=sizeLine/\
 (ys=[] ->Q (.ref a) H)/\(ys≠ [] ->∀p,H p=none ->Q (.ref p) (upd H p (.tup (xs++ys))))
theorem Vals.nil_iff{xs:List V}{us:List Value}(r:Vals xs us):us=[]↔xs=[]:=by
 cases r with
 |nil=>simp
 |cons _ _=>simp
theorem Y4m:OpR X (binaryOp .Add) (Z9r X.K):=by
 intro pins s σ H x y v u Q I rx ry h
 obtain⟨a,b,xs,ys,rfl,rfl,ha,hb,hx,hz,q1,q2⟩:=h
 cases rx
 cases ry
 obtain⟨its,r1,p1,_⟩:=I.tuple ha
 obtain⟨its2,r2,p2,_⟩:=I.tuple hb
 refine HT.cat_tup p1 p2 (fun z=>hx (r1.nil_iff.mp z)) (fun z=>⟨.ref a,H,I,rfl,q1 (r2.nil_iff.mp z)⟩) (fun z=>?_) (by rw[<-r1.length, <-r2.length];exact hz)
 refine⟨.ref s.heap.objs.size,_,I.laid (t':=s.toks) (o:= .tup (xs++ys)) (fun b ob q=>Heap.get?_push_of_some _ q) (Nat.le_refl _) ?_,rfl,q2 (fun w=>z (r2.nil_iff.mpr w)) _ (I.hok.fresh (Nat.le_refl _))⟩
 exact⟨by rw[List.length_append];exact hz,_,r1.append r2,IsTup.new _ _⟩
end
noncomputable def ixN (n:Nat) (i:Int):Option Nat:=if 0<=i then(if i<n then some i.toNat else none) else if -(n:Int)<=i then some (i+n).toNat else none
noncomputable def atI {α:Type} (xs:List α) (i:Int):Option α:=(ixN xs.length i).bind fun j=>xs[j]?
theorem Y4f{n:Nat}{i:Int}{j:Nat}(h:ixN n i=some j):seqIndex? i n=some j/\j<n/\ -(n:Int)<=i/\i<n:=by
 unfold ixN at h
 by_cases h0:0<=i
 . rw[if_pos h0] at h
   by_cases h1:i<n
   . rw[if_pos h1] at h
     have e:i.toNat=j:=Option.some.inj h
     exact⟨by rw[seqIndex_of h0 h1,e],by omega,by omega,h1⟩
   . rw[if_neg h1] at h;cases h
 . rw[if_neg h0] at h
   by_cases h1: -(n:Int)<=i
   . rw[if_pos h1] at h
     have e:(i+n).toNat=j:=Option.some.inj h
     exact⟨by rw[seqIndex_neg (by omega) h1,e],by omega,h1,by omega⟩
   . rw[if_neg h1] at h;cases h
theorem D1t{α:Type}{xs:List α}{i:Int}{v:α}(h:atI xs i=some v):∃j,seqIndex? i xs.length=some j/\xs[j]?=some v/\j<xs.length/\ -(xs.length:Int)<=i/\i<xs.length:=by
 unfold atI at h
 cases e:ixN xs.length i with
 |none=>rw[e] at h;cases h
 | some j=>
   rw[e] at h
   obtain⟨h1,h2,h3,h4⟩:=Y4f e
   exact⟨j,h1,h,h2,h3,h4⟩
theorem D9{α:Type}{xs:List α}{j:Nat}{v:α}(h:xs[j]?=some v):atI xs (j:Int)=some v:=by
 have hj:j<xs.length:=(List.getElem?_eq_some_iff.mp h).1
 have e:ixN xs.length (j:Int)=some j:=by
   unfold ixN
   rw[if_pos (by omega),if_pos (by omega)];simp
 unfold atI;rw[e];exact h
noncomputable def Y6v (b:Expr):Prop:=∀o i,subscripted b false o i=operate [o,i] (getItem o i)
noncomputable def IxR (X:Cx) (r:R2):Prop:=
 ∀ (value slice:Expr) (pins:List (Addr×Obj)) (s:Shared) (σ:St) (H:Hp) (x y:V) (v u:Value) (Q:VK),Inv X pins σ H s ->RelV x v ->RelV y u ->r x y H Q ->
   subscripted slice false v u=operate [v,u] (getItem v u) ->wpAny (model X.prog X.w) X.A (subscriptTail value slice v u) (EP X pins σ Q) X.xe s
noncomputable def MtR (X:Cx) (id:String) (r:V ->List V ->Hp ->VK ->Prop):Prop:=
 ∀ (pins:List (Addr×Obj)) (s:Shared) (σ:St) (H:Hp) (x:V) (xs:List V) (v:Value) (us:List Value) (Q:VK),Inv X pins σ H s ->RelV x v ->Vals xs us ->r x xs H Q ->
   wpAny (model X.prog X.w) X.A (call (.builtin id) (v::us)) (EP X pins σ Q) X.xe s
section
variable{X:Cx}{a b:Expr}{ta tb:TE}{pos:Pos}
theorem U6{r:R2}(hr:IxR X r)(ha:PE X a ta)(hb:PE X b tb)(hs:Y6v b):PE X (.Subscript a b pos) (tOp r ta tb):=by
 intro pins s σ H Q I h
 exact Subscript_ (Z3y ha hb I h fun v u s2 x y H2 I2 rx ry q=>hr a b pins s2 σ H2 x y v u Q I2 rx ry q (hs _ _))
noncomputable def rIxL (K:PySem.W.Frag):R2:=fun x y H Q=>∃p xs i v,x= .ref p/\y= .int i/\SqL K H p xs/\atI xs i=some v/\Q v H
noncomputable def rIxT (K:PySem.W.Frag):R2:=fun x y H Q=>∃p xs i v,x= .ref p/\y= .int i/\SqT K H p xs/\atI xs i=some v/\Q v H
noncomputable def rIxS:R2:=fun x y H Q=>∃z i c,x= .str z/\y= .int i/\z.length<=sizeLine/\atI z.cps.toList i=some c/\Q (.str ⟨#[c]⟩) H
theorem A1g:IxR X (rIxL X.K):=by
 intro value slice pins s σ H x y v u Q I rx ry h hs
 obtain⟨p,xs,i,z,rfl,rfl,hq,he,q⟩:=h
 cases rx
 obtain⟨t,rfl⟩:=ry
 obtain⟨its,r,pl,hz⟩:=I.list hq
 obtain⟨j,h1,h2,h3,h4,h5⟩:=D1t he
 obtain⟨w,ew,rw'⟩:=r.get h2
 have hl:=r.length
 have hn:=C1v
 have fin:EP X pins σ Q w s:=⟨z,H,I,rw',q⟩
 by_cases h0:0<=i
 . have hj:i.toNat=j:=by
     rw[seqIndex_of h0 h5] at h1
     exact Option.some.inj h1
   exact item_listR pl.isList h0 (by omega) (by rw[hj];simpa using ew) fin hs
 . have hj:(i+(its.toArray.size:Int)).toNat=j:=by
     rw[seqIndex_neg (by omega) h4] at h1
     rw[List.size_toArray, <-hl]
     exact Option.some.inj h1
   exact subscriptTail_builtinR (x:=w) pl.isList.typeIs slot_list_getitem.lookup
     (wpAny_getItem_list_neg (Q:=fun r s'=>r=w/\EP X pins σ Q r s') pl.isList (by omega) (by rw[List.size_toArray]<;>omega) (by omega) (by rw[hj];simpa using ew) ⟨rfl,fin⟩) hs
theorem U7:IxR X (rIxT X.K):=by
 intro value slice pins s σ H x y v u Q I rx ry h hs
 obtain⟨p,xs,i,z,rfl,rfl,hq,he,q⟩:=h
 cases rx
 obtain⟨t,rfl⟩:=ry
 obtain⟨its,r,pl,hz⟩:=I.tuple hq
 obtain⟨j,h1,h2,h3,h4,h5⟩:=D1t he
 obtain⟨w,ew,rw'⟩:=r.get h2
 have hl:=r.length
 have hn:=C1v
 have fin:EP X pins σ Q w s:=⟨z,H,I,rw',q⟩
 exact subscriptTail_builtinR (x:=w) pl.typeIs slot_tuple_getitem.lookup
   (getItem_tuple (j:=j) (Q:=fun r s'=>r=w/\EP X pins σ Q r s') pl (by omega) (by omega) (by rw[List.size_toArray, <-hl];exact h1) (by simpa using ew) ⟨rfl,fin⟩) hs
theorem U8n:IxR X rIxS:=by
 intro value slice pins s σ H x y v u Q I rx ry h hs
 obtain⟨z,i,c,rfl,rfl,hz,he,q⟩:=h
 obtain⟨t,rfl⟩:=rx
 obtain⟨t',rfl⟩:=ry
 obtain⟨j,h1,h2,h3,h4,h5⟩:=D1t he
 have hl:z.cps.toList.length=z.length:=by simp[Str.length]
 rw[hl] at h1 h4 h5
 have hn:=C1v
 exact tail_any (typeIs_str s z t) slot_str_getitem.lookup (getItem_str (c:=c) (by
   have e1:decide (i< -(2^63:Int))=false:=decide_eq_false (by omega)
   have e2:decide (i>=2^63)=false:=decide_eq_false (by omega)
   rw[e1,e2,Bool.or_false]) (by rw[h1];simpa using h2) ⟨.str ⟨#[c]⟩,H,I.tok _,⟨_,rfl⟩,q⟩) hs
noncomputable def B2p:V ->Bool
 | .non=>true
 | .bl _=>true
 | .int _=>true
 | .str _=>true
 |_=>false
noncomputable def eqV:V ->V ->Bool
 | .non,.non=>true
 | .bl a,.bl b=>a==b
 | .bl a,.int b=>(if a then 1 else 0)==b
 | .int a,.bl b=>a==(if b then 1 else 0)
 | .int a,.int b=>a==b
 | .str a,.str b=>a==b
 |_,_=>false
theorem Z4r{A:Around}{s:Shared}{y x:V}{u v:Value}(ry:RelV y u)(rx:RelV x v)(fy:B2p y=true)(fx:B2p x=true):SeqAt.EqAt A s u v (eqV y x):=by
 cases y with
 | non=>
   cases ry
   cases x with
   |non=>cases rx;exact SeqAt.EqAt.same _
   |bl b=>cases rx;exact SeqAt.EqAt.none_bool b
   |int b=>obtain⟨t,rfl⟩:=rx;exact SeqAt.EqAt.none_int b t
   |str b=>obtain⟨t,rfl⟩:=rx;exact SeqAt.EqAt.none_str b t
   |_=>exact absurd (show false=true from fx) Bool.false_ne_true
 | bl a=>
   cases ry
   cases x with
   |non=>cases rx;exact SeqAt.EqAt.bool_none a
   |bl b=>cases rx;exact SeqAt.EqAt.bool_bool a b
   |int b=>obtain⟨t,rfl⟩:=rx;exact SeqAt.EqAt.bool_int a b t
   |str b=>obtain⟨t,rfl⟩:=rx;exact SeqAt.EqAt.bool_str a b t
   |_=>exact absurd (show false=true from fx) Bool.false_ne_true
 | int a=>
   obtain⟨t',rfl⟩:=ry
   cases x with
   |non=>cases rx;exact SeqAt.EqAt.int_none a t'
   |bl b=>cases rx;exact SeqAt.EqAt.int_bool a t' b
   |int b=>obtain⟨t,rfl⟩:=rx;exact SeqAt.EqAt.int_int a t' b t
   |str b=>obtain⟨t,rfl⟩:=rx;exact SeqAt.EqAt.int_str a t' b t
   |_=>exact absurd (show false=true from fx) Bool.false_ne_true
 | str a=>
   obtain⟨t',rfl⟩:=ry
   cases x with
   |non=>cases rx;exact SeqAt.EqAt.str_none a t'
   |bl b=>cases rx;exact SeqAt.EqAt.str_bool a t' b
   |int b=>obtain⟨t,rfl⟩:=rx;exact SeqAt.EqAt.str_int a t' b t
   |str b=>obtain⟨t,rfl⟩:=rx;exact SeqAt.EqAt.str_str a t' b t
   |_=>exact absurd (show false=true from fx) Bool.false_ne_true
 |_=>exact absurd (show false=true from fy) Bool.false_ne_true
noncomputable def eqU (x:V) (u:Value):Bool:=match u with
 | .none=>eqV .non x
 | .bool b=>eqV (.bl b) x
 | .int i _=>eqV (.int i) x
 | .str z _=>eqV (.str z) x
 |_=>false
theorem V0h{x y:V}{u:Value}(r:RelV y u)(f:B2p y=true):eqU x u=eqV y x:=by
 cases y with
 |non=>cases r;rfl
 |bl b=>cases r;rfl
 |int i=>obtain⟨t,rfl⟩:=r;rfl
 |str z=>obtain⟨t,rfl⟩:=r;rfl
 |_=>exact absurd (show false=true from f) Bool.false_ne_true
theorem B4v{x:V}:∀{xs:List V} {us:List Value},Vals xs us ->xs.all B2p=true ->us.any (eqU x)=xs.any fun y=>eqV y x
 |_,_,.nil,_=>rfl
 | y::xs,u::us,.cons r t,f=>by
   rw[List.all_cons,Bool.and_eq_true] at f
   rw[List.any_cons,List.any_cons,V0h r f.1,B4v t f.2]
theorem A8g{A:Around}{s:Shared}{x:V}{v:Value}(rx:RelV x v)(fx:B2p x=true):∀{xs:List V} {us:List Value},Vals xs us ->xs.all B2p=true ->∀u∈us,SeqAt.EqAt A s u v (eqU x u)
 |_,_,.nil,_=>fun u hu=>by cases hu
 | y::xs,u::us,.cons r t,f=>fun u' hu=>by
   rw[List.all_cons,Bool.and_eq_true] at f
   rcases List.mem_cons.mp hu with rfl|hu
   . rw[V0h r f.1];exact Z4r r rx f.1 fx
   . exact A8g rx fx t f.2 u' hu
noncomputable def inV (x:V) (xs:List V):Bool:=xs.any fun y=>eqV y x
noncomputable def rIn (K:PySem.W.Frag) (neg:Bool):R2:=fun x y H Q=>∃p xs,y= .ref p/\(SqL K H p xs\/SqT K H p xs)/\B2p x=true/\xs.all B2p=true/\Q (.bl (if neg then !inV x xs else inV x xs)) H
theorem A4k:OpR X (compareOp .In) (rIn X.K false):=by
 intro pins s σ H x y v u Q I rx ry h
 obtain⟨p,xs,rfl,hq,fx,fs,q⟩:=h
 cases ry
 rcases hq with hq|hq
 . obtain⟨its,r,pl,hz⟩:=I.list hq
   refine SeqAt.in_listAt (eqU x) pl.isList (fun w hw=>A8g rx fx r fs w (by simpa using hw)) ⟨.bl _,H,I,rfl,?_⟩
   rw[show its.toArray.any (eqU x)=its.any (eqU x) by simp,B4v r fs]
   exact q
 . obtain⟨its,r,pl,hz⟩:=I.tuple hq
   refine SeqAt.in_tupleAt (eqU x) pl (fun w hw=>A8g rx fx r fs w (by simpa using hw)) ⟨.bl _,H,I,rfl,?_⟩
   rw[show its.toArray.any (eqU x)=its.any (eqU x) by simp,B4v r fs]
   exact q
theorem B4w:OpR X (compareOp .NotIn) (rIn X.K true):=by
 intro pins s σ H x y v u Q I rx ry h
 obtain⟨p,xs,rfl,hq,fx,fs,q⟩:=h
 cases ry
 rcases hq with hq|hq
 . obtain⟨its,r,pl,hz⟩:=I.list hq
   refine SeqAt.notIn_listAt (eqU x) pl.isList (fun w hw=>A8g rx fx r fs w (by simpa using hw)) ⟨.bl _,H,I,rfl,?_⟩
   rw[show its.toArray.any (eqU x)=its.any (eqU x) by simp,B4v r fs]
   exact q
 . obtain⟨its,r,pl,hz⟩:=I.tuple hq
   refine SeqAt.notIn_tupleAt (eqU x) pl (fun w hw=>A8g rx fx r fs w (by simpa using hw)) ⟨.bl _,H,I,rfl,?_⟩
   rw[show its.toArray.any (eqU x)=its.any (eqU x) by simp,B4v r fs]
   exact q
theorem D1r:A7y X (.builtin "len") (fun xs H Q=>∃p ys,xs=[.ref p]/\(SqL X.K H p ys\/SqT X.K H p ys)/\Q (.int ys.length) H):=by
 intro pins s σ H xs us Q I r h
 obtain⟨p,ys,rfl,hq,q⟩:=h
 obtain⟨u,rfl,rx⟩:=C1y r
 cases rx
 have hn:=C1v
 rcases hq with hq|hq
 . obtain⟨its,r',pl,hz⟩:=I.list hq
   have hlen:=r'.length
   exact Calls.call_len_list pl.isList (by simp only[List.size_toArray]<;>omega) ⟨.int ys.length,H,I.tok _,⟨s.toks+1,by rw[List.size_toArray,hlen]⟩,q⟩
 . obtain⟨its,r',pl,hz⟩:=I.tuple hq
   have hlen:=r'.length
   exact len_tuple pl (by simp only[List.size_toArray]<;>omega) ⟨.int ys.length,H,I.tok _,⟨s.toks+1,by rw[List.size_toArray,hlen]⟩,q⟩
theorem A0f:A7y X (.builtin "len") (fun xs H Q=>∃z,xs=[.str z]/\z.length<=sizeLine/\Q (.int z.length) H):=by
 intro pins s σ H xs us Q I r h
 obtain⟨z,rfl,hz,q⟩:=h
 obtain⟨u,rfl,t,rfl⟩:=C1y r
 have hn:=C1v
 exact len_str (by omega) ⟨.int z.length,H,I.tok _,⟨_,rfl⟩,q⟩
theorem B4y:A7y X (.type "list") (fun xs H Q=>∃p ys,xs=[.ref p]/\(SqL X.K H p ys\/SqT X.K H p ys)/\∀l,H l=none ->Q (.ref l) (upd H l (.lst ys))):=by
 intro pins s σ H xs us Q I r h
 obtain⟨p,ys,rfl,hq,q⟩:=h
 obtain⟨u,rfl,rx⟩:=C1y r
 cases rx
 have fin:∀(its:List Value),Vals ys its ->ys.length<=sizeLine ->∀(h':Heap) (c':Nat),(∀b o',s.heap.get? b=some o' ->h'.get? b=some o') ->
     h'.get? s.heap.objs.size=some {cls:= .type "list",dict:=none,data:= .seq its.toArray c',slots:= #[]} ->EP X pins σ Q (.ref s.heap.objs.size) {s with heap:=h'}:=fun its r' hz h' c' kp e=>
   ⟨.ref s.heap.objs.size,_,I.laid (t':=s.toks) kp (Nat.le_refl _) (show ObjOk X.prog X.w _ h' _ (.lst ys) from⟨hz,its,c',r',e⟩),rfl,q _ (I.hok.fresh (Nat.le_refl _))⟩
 rcases hq with hq|hq
 . obtain⟨its,r',pl,hz⟩:=I.list hq
   have hlen:=r'.length
   obtain⟨o,ho,hc,n,hd⟩:=pl.isList
   exact call_list_seq p (.inl rfl) ho hc hd (fun h' c' kp e=>fin its r' hz h' c' kp e) (by simp only[List.size_toArray]<;>omega)
 . obtain⟨its,r',pl,hz⟩:=I.tuple hq
   have hlen:=r'.length
   obtain⟨o,ho,hc,n,hd⟩:=pl
   exact call_list_seq p (.inr rfl) ho hc hd (fun h' c' kp e=>fin its r' hz h' c' kp e) (by simp only[List.size_toArray]<;>omega)
noncomputable def tyV (K:PySem.W.Frag) (T:String) (x:V) (H:Hp):Prop:=match x with
 | .str _=>T="str"
 | .int _=>T="int"
 | .ref p=>(T="list"/\∃xs,SqL K H p xs)\/(T="tuple"/\∃o,K.lookup p=some o/\o.cls= .type "tuple"/\o.dict=none)\/
     (T="dict"/\((∃kvs,H p=some (.dK kvs))\/∃kvs,H p=some (.dT kvs)))\/(T="set"/\∃S n,H p=some (.set S n))
 |_=>False
theorem U7t{pins:List (Addr×Obj)}{σ:St}{H:Hp}{s:Shared}{T:String}{x:V}{v:Value}(I:Inv X pins σ H s)(r:RelV x v)(ty:tyV X.K T x H):
   s.TypeIs v T/\∀a,v= .ref a ->∃ob,s.heap.get? a=some ob/\ob.dict=none:=by
 cases x with
 | str z=>
   obtain⟨t,rfl⟩:=r
   cases(show T="str" from ty)
   exact⟨typeIs_str s z t,fun _ e=>nomatch e⟩
 | int i=>
   obtain⟨t,rfl⟩:=r
   cases(show T="int" from ty)
   exact⟨typeIs_int s i t,fun _ e=>nomatch e⟩
 | ref p =>
   cases r
   rcases ty with⟨rfl,xs,hq⟩|⟨rfl,o,hk,hc,hd⟩|⟨rfl,hk⟩|⟨rfl,S,n,hk⟩
   . obtain⟨its,_,pl,_⟩:=I.list hq
     refine⟨pl.isList.typeIs,fun a e=>?_⟩
     cases e
     obtain⟨o,n,e,c,hd,_⟩:=pl
     exact⟨o,e,hd⟩
   . refine⟨⟨o,I.kIn p o hk,hc⟩,fun a e=>?_⟩
     cases e
     exact⟨o,I.kIn _ o hk,hd⟩
   . have z:∃o,s.heap.get? p=some o/\o.ExactDict:=by
       rcases hk with⟨kvs,hk⟩|⟨kvs,hk⟩
       . obtain⟨_,_,_,_,o,_,_,e,ex,_⟩:=I.hok p _ hk
         exact⟨o,e,ex⟩
       . obtain⟨_,_,_,_,o,_,_,e,ex,_⟩:=I.hok p _ hk
         exact⟨o,e,ex⟩
     obtain⟨o,e,ex⟩:=z
     refine⟨⟨o,e,ex.1⟩,fun a e2=>?_⟩
     cases e2
     exact⟨o,e,ex.2.1⟩
   . obtain⟨o,_,_,_,e,ex,_⟩:=I.hok p _ hk
     refine⟨⟨o,e,ex.1⟩,fun a e2=>?_⟩
     cases e2
     exact⟨o,e,ex.2.1⟩
 |_=>exact False.elim ty
noncomputable def tBM0 (K:PySem.W.Frag) (T:String) (r:V ->List V ->Hp ->VK ->Prop) (to:TE):TE:=fun σ H Q=>to σ H fun x H1=>tyV K T x H1/\r x [] H1 Q
noncomputable def tBM (K:PySem.W.Frag) (T:String) (r:V ->List V ->Hp ->VK ->Prop) (to:TE) (t:TA):TE:=fun σ H Q=>to σ H fun x H1=>tyV K T x H1/\t σ H1 fun xs H2=>r x xs H2 Q
variable{o e:Expr}{es:List Expr}{to:TE}{t:TA}{name:Str}{apos cpos:Pos}{T id:String}{r:V ->List V ->Hp ->VK ->Prop}
theorem Z2u(pa:PlainAttrs T)(slot:Slot T name id)(hty:typeOf (.builtin id)=pure (.type "method_descriptor"))(hm:MtR X id r)(ho:PE X o to)
   (hbase:attributeBase o name X.env (eval o X.env)=eval o X.env:=by rfl) (hline:(apos.endLine==cpos.line)=true:=by rfl):PE X (.Call (.Attribute o name apos) [] [] cpos) (tBM0 X.K T r to):=by
 intro pins s σ H Q I h
 refine wpAny_Call_method0_late hbase hline (thn (ho pins s σ H _ I h) fun v s1 hh_=>?_)
 obtain⟨x,H1,I1,r1,ty,q1⟩:=hh_
 obtain⟨h1,h2⟩:=U7t I1 r1 ty
 exact⟨T,id,pa,slot,hty,h1,h2,Calls.callWith_builtin rfl (PySem.evalArgs_none (hm pins s1 σ H1 x [] v [] Q I1 r1 .nil q1))⟩
theorem U9p(pa:PlainAttrs T)(slot:Slot T name id)(hty:typeOf (.builtin id)=pure (.type "method_descriptor"))(hm:MtR X id r)(ho:PE X o to)(ha:PA X (e::es) t)
   (hbase:attributeBase o name X.env (eval o X.env)=eval o X.env:=by rfl)
   (hfew:((backTo cpos (starEach (e::es) X.env)).all (fun x=> !x.1)&&(backToKw cpos (keywordEach [] X.env)).all (fun x=>x.1.isSome)
     &&decide ((e::es).length+([]:List Keyword).length+(if([]:List Keyword).isEmpty then 0 else 1)<30))=true:=by rfl)
   (hline:(apos.endLine==cpos.line)=true:=by rfl) (hs:starEach (e::es) X.env=(false,eval e X.env)::starEach es X.env:=by rfl) (hplain:(backTo cpos (starEach es X.env)).any (·.1)=false:=by rfl):
   PE X (.Call (.Attribute o name apos) (e::es) [] cpos) (tBM X.K T r to t):=by
 intro pins s σ H Q I h
 refine wpAny_Call_method_late hbase hfew hline rfl (thn (ho pins s σ H _ I h) fun v s1 hh_=>?_)
 obtain⟨x,H1,I1,r1,ty,q1⟩:=hh_
 obtain⟨h1,h2⟩:=U7t I1 r1 ty
 refine⟨T,id,pa,slot,hty,h1,h2,?_⟩
 have hA:=ha cpos pins s1 σ H1 _ I1 q1
 rw[hs] at hA ⊢
 refine Calls.callWith_builtin (by show(false||(backTo cpos (starEach es X.env)).any (·.1))=false;rw[hplain]<;>rfl) (Calls.evalArgs_plain ?_)
 exact thn hA fun us s2 ⟨vs,H2,I2,r2,q2⟩=>hm pins s2 σ H2 x vs v us Q I2 r1 r2 q2
end
noncomputable def MtM (X:Cx) (id:String) (r:V ->List V ->Hp ->VK ->Prop):Prop:=
 ∀ (pins:List (Addr×Obj)) (s:Shared) (σ:St) (H:Hp) (x:V) (xs:List V) (v:Value) (us:List Value) (Q:VK),Inv X pins σ H s ->RelV x v ->Vals xs us ->r x xs H Q ->
   wpAny (model X.prog X.w) X.A (call (.builtin id) (v::us)) (EP X pins σ Q) X.xe s
theorem Vals.one{x:V}{us:List Value}(h:Vals [x] us):∃u,us=[u]/\RelV x u:=by
 cases h with
 |cons r t=>cases t;exact⟨_,rfl,r⟩
theorem Vals.two{x y:V}{us:List Value}(h:Vals [x,y] us):∃u v,us=[u,v]/\RelV x u/\RelV y v:=by
 cases h with
 | cons r t=>
   cases t with
   |cons q z=>cases z;exact⟨_,_,rfl,r,q⟩
theorem Vals.rep{xs:List V}{us:List Value}(h:Vals xs us):∀k:Nat,Vals (List.replicate k xs).flatten (List.replicate k us).flatten
 |0=> .nil
 | k+1=>by
   rw[List.replicate_succ,List.replicate_succ,List.flatten_cons,List.flatten_cons]
   exact Vals.append h (Vals.rep h k)
theorem D0s(its:List Value):∀(k:Nat) (acc:List Value),
   List.foldl (fun x1 x2=>x1++x2) acc.toArray (List.replicate k its.toArray)=(acc++(List.replicate k its).flatten).toArray
 |0,acc=>by simp
 | k +1,acc=>by
   have e:acc.toArray++its.toArray=(acc++its).toArray:=by simp
   have e2:(acc++its)++(List.replicate k its).flatten=acc++(List.replicate (k+1) its).flatten:=by
     rw[List.replicate_succ,List.flatten_cons,List.append_assoc]
   rw[<-e2, <-D0s its k (acc++its), <-e,List.replicate_succ,List.foldl_cons]
section
variable{X:Cx}{pins:List (Addr×Obj)}{σ:St}{H:Hp}{s:Shared}{l b:Addr}{xs ys zs:List V}
theorem Inv.lset{its its':List Value}{n:Nat}{f:Array Value ->Array Value}{t':Nat}(I:Inv X pins σ H s)(hH:H l=some (.lst xs))
   (e:s.heap.get? l=some {cls:= .type "list",data:= .seq its.toArray n}) (hf:f its.toArray=its'.toArray) (hv:Vals ys its') (hz:ys.length<=sizeLine):
   Inv X pins σ (upd H l (.lst ys)) {s with heap:=s.heap.update l (Obj.mapSeq f),toks:=t'}:=by
 have q:=PySem.IsL.update e f
 rw[hf] at q
 refine I.write (x:=l) (e:=l) (by rw[hH];exact trivial) (.inl rfl) (fun b' u hb hu=>(Heap.get?_update_other s.heap (Obj.mapSeq f) (Ne.symm hb)).trans hu) ⟨_,q⟩ ?_
 exact⟨hz,its',_,hv,q⟩
theorem Inv.lnew{its:List Value}{t':Nat}(I:Inv X pins σ H s)(hv:Vals ys its)(hz:ys.length<=sizeLine):
   Inv X pins σ (upd H s.heap.objs.size (.lst ys)) {s with heap:=s.heap.push {cls:= .type "list",data:= .seq its.toArray},toks:=t'}:=
 I.laid (fun _ _ q=>Heap.get?_push_of_some _ q) (Nat.le_refl _) ⟨hz,its,0,hv,Heap.get?_push_size _ rfl⟩
theorem Inv.fresh(I:Inv X pins σ H s):H s.heap.objs.size=none:=I.hok.fresh (Nat.le_refl _)
theorem Inv.lstM(I:Inv X pins σ H s)(hH:H l=some (.lst xs)):xs.length<=sizeLine/\∃(its:List Value) (n:Nat),Vals xs its/\xs.length=its.length/\s.heap.get? l=some {cls:= .type "list",data:= .seq its.toArray n}:=by
 obtain⟨z,its,n,r,e⟩:=I.hok l _ hH
 exact⟨z,its,n,r,r.length,e⟩
theorem G2c{n:Nat}(h:n<=sizeLine):Builtin.List.listTooLong n=false:=by
 unfold Builtin.List.listTooLong
 exact decide_eq_false (by omega)
end
section
variable{X:Cx}
noncomputable def Y6p:V ->List V ->Hp ->VK ->Prop:=fun x vs H Q=>∃l xs y,x= .ref l/\vs=[y]/\H l=some (.lst xs)/\xs.length<sizeLine/\Q .non (upd H l (.lst (xs++ [y])))
theorem B1w:MtM X "list.append" Y6p:=by
 intro pins s σ H x vs v us Q I rx rv h
 obtain⟨l,xs,y,rfl,rfl,hH,hz,q⟩:=h
 cases rx
 obtain⟨u,rfl,ru⟩:=rv.one
 obtain⟨z,its,n,r,hl,e⟩:=I.lstM hH
 refine call_meets F.slot_list_append ⟨_,e,rfl⟩ F.entry_list_append (F.args_list_append_2 _ _) (PySem.list_append l its.toArray n u (by rw[List.size_toArray];omega)) ⟨e,?_⟩
 refine⟨.non,_,I.lset (its':=its++ [u]) hH e (by simp) (r.append (.cons ru .nil)) ?_,rfl,q⟩
 rw[List.length_append,List.length_singleton]
 omega
noncomputable def rCat:R2:=fun x y H Q=>∃l b xs zs,x= .ref l/\y= .ref b/\H l=some (.lst xs)/\H b=some (.lst zs)/\xs.length+zs.length<=sizeLine/\∀p,H p=none ->Q (.ref p) (upd H p (.lst (xs++zs)))
theorem A8q:OpR X (binaryOp .Add) rCat:=by
 intro pins s σ H x y v u Q I rx ry h
 obtain⟨l,b,xs,zs,rfl,rfl,hH,hB,hz,q⟩:=h
 cases rx
 cases ry
 obtain⟨z,its,n,r,hl,e⟩:=I.lstM hH
 obtain⟨z2,its2,n2,r2,hl2,e2⟩:=I.lstM hB
 refine PySem.P.add_list e e2 ?_ (by rw[List.size_toArray,List.size_toArray];omega)
 have ea:its.toArray++its2.toArray=(its++its2).toArray:=by simp
 rw[ea]
 exact⟨.ref _,_,I.lnew (t':=s.toks) (r.append r2) (by rw[List.length_append];omega),rfl,q _ I.fresh⟩
noncomputable def Y5k:R2:=fun x y H Q=>∃l k xs,x= .ref l/\y= .int k/\H l=some (.lst xs)/\ -(2^63)<=k/\k<2^63/\xs.length*k.toNat<=sizeLine/\
 ∀p,H p=none ->Q (.ref p) (upd H p (.lst (List.replicate k.toNat xs).flatten))
theorem J8m{α:Type}(xs:List α)(k:Nat):(List.replicate k xs).flatten.length=k*xs.length:=by
 induction k with
 |zero=>simp
 |succ k ih=>rw[List.replicate_succ,List.flatten_cons,List.length_append,ih,Nat.succ_mul,Nat.add_comm]
theorem A5m:OpR X (binaryOp .Mult) Y5k:=by
 intro pins s σ H x y v u Q I rx ry h
 obtain⟨l,k,xs,rfl,rfl,hH,h1,h2,hz,q⟩:=h
 cases rx
 obtain⟨t,rfl⟩:=ry
 obtain⟨z,its,n,r,hl,e⟩:=I.lstM hH
 have hlen:its.toArray.size*k.toNat<=sizeLine:=by rw[List.size_toArray, <-hl];exact hz
 have hcap:¬its.toArray.size*k.toNat>(2^63-1)/8:=by
   have:(sizeLine:Nat)<=(2^63-1)/8:=by decide
   omega
 have hfit:¬(!Builtin.List.listFitsIndex k)=true:=by
   rw[fitsIndex_both h1 h2]
   exact Bool.false_ne_true
 have hlong:¬Builtin.List.listTooLong (its.toArray.size*k.toNat)=true:=by
   rw[G2c hlen]
   exact Bool.false_ne_true
 have hnew:List.foldl (fun x1 x2=>x1++x2) #[] (List.replicate (if its.toArray.isEmpty=true then 0 else k.toNat) its.toArray)=(List.replicate k.toNat its).flatten.toArray:=by
   have f0:∀m:Nat,List.foldl (fun x1 x2=>x1++x2) #[] (List.replicate m its.toArray)=(List.replicate m its).flatten.toArray:=fun m=>by
     have:=D0s its m []
     rw[List.nil_append] at this
     exact this
   rw[f0]
   cases its with
   |nil=>simp
   |cons a r'=>rw[if_neg (by simp)]
 refine wpAny_binaryOp_repeat_ref (T:="list") (U:="int") (by decide) ⟨_,e,rfl⟩ (fun s'=>typeIs_int s' k t) noFill_list_mul F.fills_int_mul F.slot_int_rmul repeat_list F.slot_int_index.lookup
   (call_meets F.slot_int_rmul (typeIs_int s k t) F.entry_int_rmul (F.args_int_rmul_2 _ _) (int___rmul___int_list k t l its.toArray n)
     ⟨e,rfl,⟨_,e,rfl⟩,call_meets F.slot_list_mul ⟨_,e,rfl⟩ F.entry_list_mul (F.args_list_mul_2 _ _) (AutoListH.list___mul___list_int_3 l its.toArray n k t hfit hcap hlong) ⟨e,?_⟩⟩)
 rw[hnew]
 exact⟨.ref _,_,I.lnew (t':=s.toks) (r.rep k.toNat) (by rw[J8m,Nat.mul_comm];exact hz),rfl,q _ I.fresh⟩
end
section
variable{prog:Program}{w:World}{A:Around}{E:Value ->Shared ->Prop}{s:Shared}
end
section
variable{X:Cx}
end
end L2
namespace Att
open PySem PySem.W PySem.Calls PyProof.Rows
theorem C0x{P:Params}{h:Heap}:∀(ns:List Int) (vs:List Value),WellAll P h vs (ns.map WData.int) ->IntsAre vs ns:=by
 intro ns
 induction ns with
 | nil=>
   intro vs w
   rw[List.map_nil] at w
   cases w
   exact .nil
 | cons n ns ih=>
   intro vs w
   rw[List.map_cons] at w
   cases w with
   | cons a b=>
     cases a
     exact .cons _ _ (ih _ b)
theorem U1w{l:OpenLaw}{n:Nat}(hn:l.most=some n){P:Params}{h:Heap}{args:List WData}{vals:List Value}
   (hpre:l.row.toRowW.claim.pre args=true) (hwl:WellAll P h vals args):
   ∃a vs ns,vals=[Value.ref a]/\args=[WData.list (ns.map WData.int)]/\h.get? a=some {cls:= .type "list",data:= .seq vs.toArray}/\IntsAre vs ns/\ns.length<=n:=by
 have hsh:WShape.hasAll [] args [.list .int]=true:=(pre_splitW hpre).1
 have hc:l.pre.holds [] {args:=args}=true:=(pre_splitW hpre).2
 obtain⟨d,r,rfl,h1,h2⟩:=hasAllW_cons hsh
 obtain rfl:=hasAllW_nil h2
 obtain⟨xs,rfl,h3⟩:=hasW_list h1
 obtain⟨ns,rfl⟩:=items_int h3
 have hlen:ns.length<=n:=by
   unfold OpenLaw.pre at hc
   have h4:(WTm.not (.lt (.lit (.int (n:Int))) (.len (.arg 0)))).holds [] {args:=[.list (ns.map .int)]}=true:=by
     have h4:=(holds_andW hc).1
     rw[hn] at h4
     exact h4
   have h5:=condW_of h4 (w_not (w_lt w_lit (w_len_list (w_arg rfl))))
   rw[List.length_map] at h5
   refine Nat.le_of_not_lt fun q=>?_
   have q':(n:Int)<((ns.length:Nat):Int):=by omega
   first
     |(rw[decide_eq_true q'] at h5;exact absurd h5 (by decide))
     |(simp at h5;omega)
 cases hwl with
 | cons w1 w2=>
   cases w2
   cases w1 with
   |list ho hall=>exact⟨_,_,ns,rfl,rfl,ho,C0x ns _ hall,hlen⟩
theorem U1c(l:OpenLaw)(args:List WData):l.row.toRowW.claim.post args (.bool true) args=true:=
 postW_of (r:=l.row.toRowW) (X:=(true==true))
   (show WShape.has [] (.bool true) .bool=true by first|rfl|decide|simp[WShape.has,WShape.arms,WShape.armsAll])
   (show(WTm.eq .res (.lit (.bool true))).value [] {args:=args,res:=some (.bool true),after:=args}=some (.bool (true==true)) from w_eq_bool (w_res rfl) w_lit) rfl
theorem attach_call{l:OpenLaw}{n:Nat}{q:Program}{loose:List Str}{XP:(Str ->Option Value) ->Heap ->Prop}{YP:World ->Heap ->Prop}{d:DefRec}
   (hn:l.most=some n) (hdf:d.params.defaults=[])
   (call:∀(w:World) (s₀ s₁:Shared) (mg mb:Str ->Option Value) (fa:Addr) (o:Obj) (pm cd doc:Value) (a:Addr) (vs:List Value) (ns:List Int),
     Ground q loose [] XP w s₀ mg mb s₁.heap ->YP w s₁.heap ->
     s₁.heap.get? fa=some o ->o.data= .func (docDef d.name d.params d.body d.scope pm cd doc) ->s₁.heap.CodeRec cd d.name ->mg d.name=some (.ref fa) ->
     s₁.heap.get? a=some {cls:= .type "list",data:= .seq vs.toArray} ->IntsAre vs ns ->ns.length<=n ->s₁.gens= #[] ->
     codeAny (model l.prog w) callerA (.call (.ref fa) ⟨[.ref a],[]⟩) (fun r s'=>r= .ok (.ret (.bool true))/\OldK s₁.heap s'.heap/\s'.os=s₁.os/\AllBare s'.gens) s₁):
   WalkO q loose XP YP l.row.toRowW d [] (fun f vs=>PySem.call f vs):=by
 intro w s₀ s₁ mg mb G Y fa o pm cd doc dV kV ho hd hcd hD hmg hg args vals as hpre hlay hrd hwl hlo
 obtain rfl:dV= .none:=Dflts.none hD hdf
 obtain rfl:kV= .none:=Dflts.noKw hD
 obtain⟨a,vs,ns,rfl,rfl,hobj,hints,hlen⟩:=U1w hn hpre hwl
 refine enter_call (codeAny_mono (call w s₀ s₁ mg mb fa o pm cd doc a vs ns G Y ho (fd_plain hd) hcd hmg hobj hints hlen hg) fun r s' hq=>?_)
 obtain⟨rfl,h2,h3,h4⟩:=hq
 exact⟨.inl ⟨.bool true,.bool true,[],rfl,fun _=>rfl,.bool true,U1c l _,fun _=>⟨List.Pairwise.nil,fun _ hm=>(nomatch hm)⟩⟩,h2,h3,h4⟩
section
variable{prog:Program}{w:World}{A:Around}{E:Value ->Shared ->Prop}{s:Shared}{K:Frag}
end
end Att
namespace L2
open PySem PySem.Spec PyProof.Rows
theorem D0c:∀{vs:List Value} {ns:List Int},IntsAre vs ns ->Vals (ns.map V.int) vs
 |_,_,.nil=> .nil
 |_,_,.cons n t h=> .cons ⟨t,rfl⟩ (D0c h)
noncomputable def G6 (s:Stmt) (j:Nat):Stmt:=match s with
 | .ClassDef _ _ _ body _ _ _ _ _ _ _=>body.getD j (.Pass ⟨0,0,0,0⟩)
 |_=> .Pass ⟨0,0,0,0⟩
noncomputable def C8 (s:Stmt):Arguments:=match s with
 | .FunctionDef _ a _ _ _ _ _ _ _ _=>a
 |_=>{posonlyargs:=[],args:=[],vararg:=none,kwonlyargs:=[],kw_defaults:=[],kwarg:=none,defaults:=[]}
noncomputable def C6 (s:Stmt):List Stmt:=match s with
 | .FunctionDef _ _ b _ _ _ _ _ _ _=>b
 |_=>[]
noncomputable def A1 (s:Stmt):Scope:=match s with
 | .FunctionDef _ _ _ _ _ _ sc _ _ _=>sc
 |_=>{kind:= .function,names:=[],isGenerator:=false,isCoroutine:=false}
noncomputable abbrev CX0:CXT:=fun _ _ _ _ _ _=>False
noncomputable abbrev E0:XK:=fun _ _ _=>False
theorem V1c{X:Cx}:G7b CX0 X E0:=fun _ _ _ _ _ _ _ h=>h.elim
structure Fun(K:PySem.W.Frag)(x qual:Str)(st:Stmt)(f:Addr)(fd:FuncData):Prop where
 ex:∃(oc:Value) (od:Option Addr) (kV doc pm:Value) (an:Option Addr) (cdv ct:Value) (osl:Array (Option Value)),
   fd=PySem.W.fnOf x qual (C8 st) (C6 st) (A1 st) .none kV doc pm an cdv ct/\K.lookup f=some ⟨oc,od,.func fd,osl⟩/\PySem.W.codeIn K cdv qual=true
 kp:PySem.W.keepIn K (.ref f)=true
section
variable{P:Program}{w:World}{K:PySem.W.Frag}{mg:Str ->Option Value}{base:Heap}
theorem Fun.ok{x qual:Str}{st:Stmt}{f:Addr}{fd:FuncData}{N ps:List Str}{k:Nat}{sp:Sp}(F:Fun K x qual st f fd)(S:FnScope N ps (A1 st))(len:∀vs H Q E,sp vs H Q E ->vs.length=ps.length)
   (hbody:∀(cdv:Value) (A:Around) (outer:List Env) (s:Shared) (H:Hp) (vs:List V) (Q:VK) (E:XK),Room k (A.deeper (envOfC qual (A1 st) s.heap.objs.size f cdv)) ->sp vs H Q E ->
     ∃t,PSs (Z9 CX0 P w K mg base N qual (A1 st) f cdv A outer s H E).nox (C6 st) t/\t {nx:=fun _ H'=>Q .non H',rt:=Q} (A0w N vs) H):FnOk P w K mg base CX0 (k+1) f fd ps sp:=by
 obtain⟨oc,od,kV,doc,pm,an,cdv,ct,osl,rfl,lk,hcd⟩:=F.ex
 refine U6z lk hcd S len fun A outer s H vs Q E hr hsp=>?_
 obtain⟨t,h,q⟩:=hbody cdv A outer s H vs Q E hr hsp
 exact⟨t,h.nox,q⟩
theorem Fun.binds{x qual:Str}{st:Stmt}{f:Addr}{fd:FuncData}{ps:List Str}(F:Fun K x qual st f fd)
   (h:∀(kV doc pm:Value) (an:Option Addr) (cdv ct:Value) (us:List Value),us.length=ps.length ->bindArgs (PySem.W.fnOf x qual (C8 st) (C6 st) (A1 st) .none kV doc pm an cdv ct) ⟨us,[]⟩=pure (ps.zip us)):Binds K fd ps []:=by
 obtain⟨oc,od,kV,doc,pm,an,cdv,ct,osl,rfl,lk,hcd⟩:=F.ex
 exact .all (h kV doc pm an cdv ct)
theorem U4{x qual:Str}{st:Stmt}{f:Addr}{oc:Value}{od an:Option Addr}{osl:Array (Option Value)}{kV doc pm cdv ct:Value}(l:K.lookup f=some ⟨oc,od,.func (PySem.W.fnOf x qual (C8 st) (C6 st) (A1 st) .none kV doc pm an cdv ct),osl⟩)
   (c:PySem.W.codeIn K cdv qual=true) (k:PySem.W.keepIn K (.ref f)=true):Fun K x qual st f (PySem.W.fnOf x qual (C8 st) (C6 st) (A1 st) .none kV doc pm an cdv ct):=⟨⟨oc,od,kV,doc,pm,an,cdv,ct,osl,rfl,l,c⟩,k⟩
end
theorem Z1{n:Nat}(h:n<=1000):n<sizeLine:=Nat.lt_of_le_of_lt h (by decide)
section
variable{X:Cx}
theorem pv(i:Nat){x:Str}{pos:Pos}(hN:X.N[i]?=some x:=by rfl)(hv:Vis X.env.scope x:=by first|exact Or.inl rfl|exact Or.inr (Or.inl rfl)|exact Or.inr (Or.inr rfl))(hd:(x==("__debug__":Str))=false:=by decide)
   (hcd:(x==("__classdict__":Str))=false:=by decide):PE X (.Name x pos) (Z3w i):=G7s hN hv hd hcd
end
theorem U5{A B:Prop}(h:B):if false=true then A else B:=by
 rw[if_neg Bool.false_ne_true]
 exact h
theorem Z2{A B:Prop}(h:A):if true=true then A else B:=by
 rw[if_pos rfl]
 exact h
theorem J9j{c A B:Prop} [Decidable c] (hc:c) (h:B):if(!decide c)=true then A else B:=by
 rw[decide_eq_true hc]
 exact U5 h
noncomputable def Same (H H':Hp):Prop:=∀b o,H b=some o ->H' b=some o
theorem Same.refl(H:Hp):Same H H:=fun _ _ h=>h
theorem Same.trans{H H1 H2:Hp}(a:Same H H1)(b:Same H1 H2):Same H H2:=fun c o h=>b c o (a c o h)
theorem Same.free{H H':Hp}(e:Same H H'){l:Addr}(h:H' l=Option.none):H l=Option.none:=by
 cases q:H l with
 |none=>rfl
 | some o=>
   rw[e l o q] at h
   cases h
theorem Same.seq{K:PySem.W.Frag}{H H':Hp}{a:Addr}{xs:List V}(e:Same H H')(h:SqL K H a xs):SqL K H' a xs:=by
 rcases h with(h|⟨o,h⟩)|h
 . exact .inl (.inl (e _ _ h))
 . exact .inl (.inr ⟨o,e _ _ h⟩)
 . exact .inr h
end L2
set_option maxHeartbeats 4000000
namespace L2
open PySem PySem.Spec PyProof.Rows
noncomputable abbrev Z4 (C:Value) (t:Addr) (dd:Option Addr) (tb:Value):Obj:=
 {cls:=C,dict:=dd,data:= .fields #[.ref t,tb,.none,.none,.bool false,.none]}
structure Noted(fs:List Addr)(h h':Heap)(a:Addr)(C:Value)(t:Addr)(dd:Option Addr)(T:Addr)(fl:Value):Prop where
 keep:∀b o,b ∉ fs ->b≠a ->h.get? b=some o ->h'.get? b=some o
 slot:∀b o,b≠a ->h.get? b=some o ->∃sl,h'.get? b=some {o with slots:=sl}
 new:h.get? T=none
 ne:T≠a
 exc:h'.get? a=some (Z4 C t dd (.ref T))
 tbk:∃oT ts,h'.get? T=some oT/\oT.data= .fields ts/\ts[3]?=some fl
section
variable{M:Model}{A:Around}{E:Value ->Shared ->Prop}{s:Shared}{base:Heap}{env:Env}{outer:List Env}{L a t:Addr}{C:Value}{dd:Option Addr}{tb:Value}{Q:Unit ->Shared ->Prop}
theorem Y6a{oa:Obj}{vs:Array Value}{l:List Env}(hl:s.heap.FunFrames base l)(ha:s.heap.get? a=some oa)(hd:oa.data= .fields vs):a ∉ l.filterMap (·.frame):=by
 intro hm
 obtain⟨_,o,ho,hn⟩:=hl.mem hm
 rw[ha] at ho
 cases ho
 exact hn vs hd
theorem J8x{head:Value}{hn:Bool}(hfr:A.frames=some (env::outer))(hl:s.heap.FunFrames base (env::outer))(hf:env.frame=some L)
   (ha:s.heap.get? a=some (Z4 C t dd tb))
   (h:∀h' T,Noted ((env::outer).filterMap (·.frame)) s.heap h' a C t dd T (rawInt L) ->Q () {s with heap:=h'}):
   wpAny M A (do
     let x<-frameOf env
     let pl<-entryPlaceOf L hn
     let b<-EntryCells.newEntry head x .none (rawInt L) .none pl
     setField (.ref a) 1 b) Q E s:=by
 have na:=Y6a hl ha rfl
 refine wpAny_bind (wpAny_frameOf_fun hfr hl hf fun g hg=>?_)
 refine wpAny_bind (wpAny_entryPlaceOf fun pl hpl=>?_)
 unfold EntryCells.newEntry newFields
 refine wpAny_bind (wpAny_newObj_type ?_ (hpl.sizeOk5 _ _ _ _ _))
 have a1:g.get? a=some (Z4 C t dd tb):=(hg.2.1 a na).trans ha
 have a2:=fun(z:Obj)=>Heap.get?_push_of_some (h:=g) z a1
 have nT:g.objs.size≠a:=Nat.ne_of_gt (Heap.lt_size a1)
 refine wpAny_setField (a2 _) rfl (by show 1<6;decide) (h _ g.objs.size ?_)
 have up:∀(z:Obj) (f:Obj ->Obj) b o,b≠a ->g.get? b=some o ->((g.push z).update a f).get? b=some o:=by
   intro z f b o hb e
   rw[Heap.get?_update_other _ _ (Ne.symm hb)]
   exact Heap.get?_push_of_some _ e
 refine⟨fun b o hb hba e=>up _ _ b o hba ((hg.2.1 b hb).trans e),fun b o hba e=>?_,?_,nT,?_,?_⟩
 . obtain⟨sl,e1⟩:=hg.2.2 b o e
   exact⟨sl,up _ _ b _ hba e1⟩
 . refine Heap.get?_none_of_le ?_
   rw[hg.1]
   exact Nat.le_refl _
 . exact Heap.get?_update_self _ (a2 _) rfl
 . refine⟨_,_,(Heap.get?_update_other _ _ (Ne.symm nT)).trans (Heap.get?_push_size _ rfl),rfl,?_⟩
   first
     |(simp;done)
     |(rcases hpl with rfl|⟨_,_,_,_,_,_,_,rfl⟩<;>simp)
noncomputable def Z4k (h:Heap) (a:Addr) (tb:Value):Prop:=tb= .none\/∃T oT ts,tb= .ref T/\T≠a/\h.get? T=some oT/\oT.data= .fields ts/\ts[3]?=some .none
theorem Z2f(hfr:A.frames=some (env::outer))(hl:s.heap.FunFrames base (env::outer))(hf:env.frame=some L)
   (ha:s.heap.get? a=some (Z4 C t dd tb)) (ht:Z4k s.heap a tb)
   (h:∀h' T,(∀b o,b ∉ (env::outer).filterMap (·.frame) ->b≠a ->tb≠ .ref b ->s.heap.get? b=some o ->h'.get? b=some o) ->
     (∀b o,b≠a ->tb≠ .ref b ->s.heap.get? b=some o ->∃sl,h'.get? b=some {o with slots:=sl}) ->s.heap.get? T=none ->T≠a ->
     h'.get? a=some (Z4 C t dd (.ref T)) ->(∃oT ts,h'.get? T=some oT/\oT.data= .fields ts/\ts[3]?=some (rawInt L)) ->Q () {s with heap:=h'}):
   wpAny M A (noteFrame (.ref a) env) Q E s:=by
 unfold noteFrame
 simp only[hf]
 refine wpAny_bind (wpAny_field ha rfl (x:=tb) rfl ?_)
 rcases ht with rfl|⟨T,oT,ts,rfl,nT,hT,dT,h3⟩
 . rw[if_neg (by decide)]
   refine J8x hfr hl hf ha fun h' T N=>?_
   exact h h' T (fun b o hb hba _ e=>N.keep b o hb hba e) (fun b o hba _ e=>N.slot b o hba e) N.new N.ne N.exc N.tbk
 . rw[if_pos (show(Value.ref T !=Value.none)=true by simp)]
   refine wpAny_bind (wpAny_field hT dT h3 ?_)
   rw[if_neg (show¬((Value.none==rawInt L)=true) by simp[rawInt])]
   refine wpAny_bind (wpAny_setField hT dT (Array.getElem?_eq_some_iff.mp h3).1 ?_)
   have oth:∀(f:Obj ->Obj) b,b≠T ->(s.heap.update T f).get? b=s.heap.get? b:=fun f b hb=>Heap.get?_update_other _ _ (Ne.symm hb)
   have nrec:∀b o,s.heap.get? b=some o ->(∀vs,o.data≠ .fields vs) ->b≠T:=by
     intro b o e hn q
     rw[q,hT] at e
     cases e
     exact hn ts dT
   refine J8x (s:={s with heap:=_}) hfr (hl.of_keeps fun b o e hn=>⟨o,(oth _ b (nrec b o e hn)).trans e,rfl⟩) hf ((oth _ a (Ne.symm nT)).trans ha) fun h' T' N=>?_
   have neb:∀b,Value.ref T≠Value.ref b ->b≠T:=fun b q z=>q (by rw[z])
   refine h h' T' (fun b o hb hba hbT e=>N.keep b o hb hba ((oth _ b (neb b hbT)).trans e)) (fun b o hba hbT e=>N.slot b o hba ((oth _ b (neb b hbT)).trans e)) ?_ N.ne N.exc N.tbk
   have nw:=N.new
   by_cases q:T'=T
   . subst q
     have:=Heap.get?_update_self (Obj.mapFields (·.setIfInBounds 3 Value.none)) hT (Obj.isFreed_of_fields (Obj.data_mapFields dT _))
     rw[nw] at this
     cases this
   . rw[oth _ T' q] at nw
     exact nw
theorem Z3p{T:Addr}{oT:Obj}{ts:Array Value}{fl:Value}(ha:s.heap.get? a=some (Z4 C t dd (.ref T)))(nT:T≠a)(hT:s.heap.get? T=some oT)(dT:oT.data= .fields ts)(h3:ts[3]?=some fl)
   (h:∀h',(∀b o,b≠T ->s.heap.get? b=some o ->h'.get? b=some o) ->Z4k h' a (.ref T) ->Q () {s with heap:=h'}):wpAny M A (setFlight (.ref a) none) Q E s:=by
 have sz:3<ts.size:=(Array.getElem?_eq_some_iff.mp h3).1
 unfold setFlight
 refine wpAny_bind (wpAny_field ha rfl (x:= .ref T) rfl ?_)
 rw[if_pos (show(Value.ref T !=Value.none)=true by simp)]
 refine wpAny_setField hT dT sz (h _ (fun b o hb e=>(Heap.get?_update_other _ _ (Ne.symm hb)).trans e) ?_)
 have d2:=Obj.data_mapFields dT (·.setIfInBounds 3 ((none:Option Addr).elim Value.none fun f=>rawInt f))
 exact .inr ⟨T,_,_,rfl,nT,Heap.get?_update_self _ hT (Obj.isFreed_of_fields d2),d2,by simp[sz]⟩
end
section
variable{prog:Program}{w:World}{A:Around}{E:Value ->Shared ->Prop}{s:Shared}
end
theorem ObjOk.there{P:Program}{w:World}{H:Hp}{h:Heap}{a:Addr}{o:HO}(x:ObjOk P w H h a o):∃u,h.get? a=some u:=by
 cases o with
 |lst xs=>obtain⟨_,_,_,_,e⟩:=x;exact⟨_,e⟩
 |tup xs=>obtain⟨_,_,_,_,e,_⟩:=x;exact⟨_,e⟩
 |dK kvs=>obtain⟨_,_,_,_,o,_,_,e,_⟩:=x;exact⟨_,e⟩
 |dT kvs=>obtain⟨_,_,_,_,o,_,_,e,_⟩:=x;exact⟨_,e⟩
 |set S n=>obtain⟨o,_,_,_,e,_⟩:=x;exact⟨_,e⟩
 |ins C dx fs=>obtain⟨_,_,_,e,_⟩:=x;exact⟨_,e⟩
 |own y=>obtain⟨_,e⟩:=x;exact⟨_,e⟩
 |xd fs=>obtain⟨_,⟨_,_,_,e,_⟩,_⟩:=x;exact⟨_,e⟩
 |rng lo hi=>obtain⟨_,_,_,e⟩:=x;exact⟨_,e⟩
 |frz ob u=>obtain⟨e,_⟩:=x;exact⟨_,e⟩
 |tbl ps=>exact⟨_,show h.get? a=some _ from x⟩
 |met f y=>exact⟨_,show h.get? a=some _ from x⟩
 |ext φ=>obtain⟨_,e,_⟩:=x;exact e
theorem HOk.new{P:Program}{w:World}{H:Hp}{h:Heap}{a:Addr}(x:HOk P w H h)(e:h.get? a=none):H a=none:=by
 cases q:H a with
 |none=>rfl
 | some u=>
   obtain⟨o,z⟩:=(x a u q).there
   rw[e] at z
   cases z
structure Nw(X:Cx)(pins:List (Addr×Obj))(H:Hp)(b:Addr):Prop where
 un:H b=none
 loc:b≠X.env.locals
 fs:b ∉ X.fs
 old:X.s₀.heap.get? b=none
 cell:∀x c,X.env.cells.lookup x=some c ->c≠b
 pin:∀p∈X.pn++pins,p.1≠b
section
variable{X:Cx}{pins:List (Addr×Obj)}{σ:St}{H H':Hp}{s s':Shared}{a b t:Addr}{C:Value}{dd:Option Addr}
theorem Inv.fsFree(I:Inv X pins σ H s):∀b∈X.fs,H b=none:=fun b hb=>I.stkFree b (by
 rcases I.ok.stk with z|⟨z,zf⟩
 . rw[z];exact hb
 . rw[z]
   unfold frs
   rw[List.filterMap_cons,zf]
   exact List.mem_cons_of_mem _ hb)
theorem Inv.nw(I:Inv X pins σ H s)(hex:X.ex=[])(e:s.heap.get? b=none)(hu:H' b=none):Nw X pins H' b:=by
 refine⟨hu,?_,?_,?_,?_,?_⟩
 . rintro rfl
   obtain⟨m,⟨o,_,_,ho,_⟩,_⟩:=I.loc
   rw[e] at ho
   cases ho
 . intro hb
   obtain⟨_,o,ho,_⟩:=I.funs.mem hb
   rw[e] at ho
   cases ho
 . cases q:X.s₀.heap.get? b with
   |none=>rfl
   | some o=>
     obtain⟨o',z⟩:=I.base.there b o q (by rw[hex];simp)
     rw[e] at z
     cases z
 . rintro x c h rfl
   obtain⟨v,o,ho,_⟩:=I.cell x c h
   rw[e] at ho
   cases ho
 . rintro p hp rfl
   obtain⟨z,_⟩:=I.pin p hp
   rw[e] at z
   cases z
theorem Inv.stepN{h':Heap}{ch:List Addr}(I:Inv X pins σ H s)(hch:∀b∈ch,Nw X pins H b)
   (keep:∀b o,b≠X.env.locals ->b ∉ X.fs ->b ∉ ch ->s.heap.get? b=some o ->h'.get? b=some o)
   (slot:∀b o,b ∉ ch ->s.heap.get? b=some o ->∃sl,h'.get? b=some {o with slots:=sl}):Inv X pins σ H {s with heap:=h'}:=by
 have neL:∀b o,X.s₀.heap.get? b=some o ->b≠X.env.locals:=fun b o e=>Nat.ne_of_lt (Nat.lt_of_lt_of_le (Heap.lt_size e) I.ok.above)
 have neC:∀b o,X.s₀.heap.get? b=some o ->b ∉ ch:=fun b o e hb=>by
   have z:=(hch b hb).old
   rw[e] at z
   cases z
 have cellK:∀x c,X.env.cells.lookup x=some c ->∀v,s.heap.IsCell c v ->h'.IsCell c v:=fun x c e v ⟨o,ho,hd⟩=>by
   have nch:c ∉ ch:=fun z=>(hch c z).cell x c e rfl
   obtain⟨sl,q⟩:=slot c o nch ho
   exact⟨_,q,hd⟩
 refine⟨I.ok,I.os,I.bare,⟨fun b o e n hb hx=>?_,fun b o e n hb hx=>?_,I.base.free,fun b o e hx=>?_,I.base.tups,I.base.frzs,I.base.tbls⟩,?_,fun x c e=>?_,I.free,I.freeC,fun p hp=>?_,?_,I.len⟩
 . exact keep b o (neL b o e) hb (neC b o e) (I.base.keep b o e n hb hx)
 . obtain⟨sl,e1⟩:=I.base.slot b o e n hb hx
   obtain⟨sl',e2⟩:=slot b _ (neC b o e) e1
   exact⟨sl',e2⟩
 . obtain⟨o',e1⟩:=I.base.there b o e hx
   obtain⟨sl',e2⟩:=slot b _ (neC b o e) e1
   exact⟨_,e2⟩
 . obtain⟨m,hn,hl⟩:=I.loc
   refine⟨m,?_,fun i x v e1 e2 e3=>?_⟩
   . obtain⟨o,es,ep,ho,r⟩:=hn
     obtain⟨sl,q⟩:=slot _ o (fun z=>(hch _ z).loc rfl) ho
     exact⟨_,es,ep,q,r⟩
   . obtain⟨u,r,l⟩:=hl i x v e1 e2 e3
     refine⟨u,r,?_⟩
     rcases l with l|⟨k,c,e,z⟩
     . exact .inl l
     . exact .inr ⟨k,c,e,cellK x c e _ z⟩
 . obtain⟨v,z⟩:=I.cell x c e
   exact⟨v,cellK x c e v z⟩
 . obtain⟨e,n,ne,nf,d⟩:=I.pin p hp
   exact⟨keep p.1 p.2 ne nf (fun z=>(hch p.1 z).pin p hp rfl) e,n,ne,nf,d⟩
 . intro c o e
   have tr:∀b,H b≠none ->∀u,s.heap.get? b=some u ->h'.get? b=some u:=fun b hb u q=>
     keep b u (fun z=>hb (by rw[z];exact I.free)) (fun z=>hb (I.fsFree b z)) (fun z=>hb (hch b z).un) q
   refine(I.hok c o e).stay (fun b u hb q=>tr b ?_ u q) (fun _ q=>q) fun _ _ q=>q
   rcases hb with rfl|hb
   . rw[e];simp
   . rw[hb];simp
noncomputable def Flt (X:Cx) (pins:List (Addr×Obj)) (H:Hp) (s:Shared) (a:Addr) (C:Value) (t:Addr) (dd:Option Addr):Prop:=
 Nw X pins H a/\∃tb,s.heap.get? a=some (Z4 C t dd tb)/\Z4k s.heap a tb/\∀T,tb= .ref T ->Nw X pins H T
noncomputable def FltAt (X:Cx) (pins:List (Addr×Obj)) (H:Hp) (s:Shared) (a:Addr) (C:Value) (t:Addr) (dd:Option Addr) (fl:Value):Prop:=
 Nw X pins H a/\∃T oT ts,s.heap.get? a=some (Z4 C t dd (.ref T))/\T≠a/\Nw X pins H T/\s.heap.get? T=some oT/\oT.data= .fields ts/\ts[3]?=some fl
structure Body(X:Cx):Prop where
 ex:X.ex=[]
 st:X.stack=X.env::X.outer
 fr:X.env.frame=some X.env.locals
theorem FltAt.flt(F:FltAt X pins H s a C t dd .none):Flt X pins H s a C t dd:=by
 obtain⟨n,T,oT,ts,e,ne,nT,eT,dT,h3⟩:=F
 exact⟨n,_,e,.inr ⟨T,oT,ts,rfl,ne,eT,dT,h3⟩,fun T' z=>by cases z;exact nT⟩
noncomputable def G6w:Value ->List Addr
 | .ref z=>[z]
 |_=>[]
theorem G2y{M:Model}{E:Value ->Shared ->Prop}{Q:Unit ->Shared ->Prop}(B:Body X)(I:Inv X pins σ H s)(F:Flt X pins H s a C t dd)
   (k:∀s',Inv X pins σ H s' ->FltAt X pins H s' a C t dd (rawInt X.env.locals) ->Q () s'):wpAny M X.A (noteFrame (.ref a) X.env) Q E s:=by
 obtain⟨na,tb,e,ht,nT⟩:=F
 have hfr:=I.ok.frames
 rw[B.st] at hfr
 have hl:=I.stack
 rw[B.st] at hl
 refine Z2f hfr hl B.fr e ht fun h' T k1 k2 k3 k4 k5 k6=>?_
 have ch:∀b,b ∉ a::G6w tb ->b≠a/\tb≠ .ref b:=by
   intro b hb
   refine⟨fun z=>hb (by rw[z];exact List.mem_cons_self),fun z=>hb ?_⟩
   rw[z]
   exact List.mem_cons_of_mem _ (List.mem_singleton.mpr rfl)
 have I':Inv X pins σ H {s with heap:=h'}:=by
   refine I.stepN (ch:=a::G6w tb) (fun b hb=>?_) (fun b o h1 h2 h3 q=>k1 b o ?_ (ch b h3).1 (ch b h3).2 q) (fun b o h3 q=>k2 b o (ch b h3).1 (ch b h3).2 q)
   . rcases List.mem_cons.mp hb with rfl|hb
     . exact na
     . cases tb<;>simp[G6w] at hb
       subst hb
       exact nT _ rfl
   . intro z
     rw[List.filterMap_cons,B.fr] at z
     rcases List.mem_cons.mp z with z|z
     . exact h1 z
     . exact h2 z
 obtain⟨oT,ts,q1,q2,q3⟩:=k6
 exact k _ I' ⟨na,T,oT,ts,k5,k4,I.nw B.ex k3 (I.hok.new k3),q1,q2,q3⟩
theorem C3a{M:Model}{A:Around}{E:Value ->Shared ->Prop}{Q:Unit ->Shared ->Prop}{fl:Value}(I:Inv X pins σ H s)(F:FltAt X pins H s a C t dd fl)
   (k:∀s',Inv X pins σ H s' ->FltAt X pins H s' a C t dd .none ->Q () s'):wpAny M A (setFlight (.ref a) none) Q E s:=by
 obtain⟨na,T,oT,ts,e,ne,nT,eT,dT,h3⟩:=F
 refine Z3p e ne eT dT h3 fun h' k1 k2=>?_
 have I':Inv X pins σ H {s with heap:=h'}:=I.stepN (ch:=[T]) (fun b hb=>by
   have:b=T:=by simpa using hb
   subst this
   exact nT) (fun b o _ _ hb q=>k1 b o (fun z=>hb (by simp[z])) q) (fun b o hb q=>⟨_,k1 b o (fun z=>hb (by simp[z])) q⟩)
 rcases k2 with z|⟨T',oT',ts',z,_,q1,q2,q3⟩
 . cases z
 . cases z
   exact k _ I' ⟨na,T,oT',ts',k1 a _ (Ne.symm ne) e,ne,nT,q1,q2,q3⟩
theorem D0f{M:Model}{E:Value ->Shared ->Prop}{Q:Unit ->Shared ->Prop}(B:Body X)(I:Inv X pins σ H s)(F:Flt X pins H s a C t dd)
   (k:∀s',Inv X pins σ H s' ->FltAt X pins H s' a C t dd .none ->Q () s'):wpAny M X.A (leaving X.env (.ref a)) Q E s:=by
 unfold leaving
 exact wpAny_bind (G2y B I F fun s1 I1 F1=>C3a I1 F1 k)
end
noncomputable abbrev EK:=Value ->Option Addr ->St ->Hp ->Prop
noncomputable def G7 (X:Cx) (EH:EK):Prop:=∀(pins:List (Addr×Obj)) (σ:St) (H:Hp) (s:Shared) (a t:Addr) (C:Value) (dd:Option Addr),Inv X pins σ H s ->Flt X pins H s a C t dd ->EH C dd σ H ->X.xe (.ref a) s
noncomputable def CX1 (P:Program) (w:World):CXT:=fun outer H s E e s'=>∃(a t:Addr) (C:Value) (dd:Option Addr) (H':Hp),e= .ref a/\s'.os=s.os/\AllBare s'.gens/\Un (frs outer) [] H H' s.heap s'.heap/\HOk P w H' s'.heap/\E C dd H'/\
 (s.heap.get? a=none/\H' a=none)/\∃T oT ts,s'.heap.get? a=some (Z4 C t dd (.ref T))/\T≠a/\(s.heap.get? T=none/\H' T=none)/\s'.heap.get? T=some oT/\oT.data= .fields ts/\ts[3]?=some .none
theorem B2z{P:Program}{w:World}{K:PySem.W.Frag}{mg:Str ->Option Value}{base:Heap}{N:List Str}{qual:Str}{scope:Scope}{f:Addr}{cd:Value}{A:Around}{outer:List Env}{s:Shared}{H:Hp}{E:XK}:
   G7 (Z9 (CX1 P w) P w K mg base N qual scope f cd A outer s H E) (fun C dd _ H'=>E C dd H'):=by
 intro pins σ H' s' a t C dd I F h
 refine D0f (X:=Z9 (CX1 P w) P w K mg base N qual scope f cd A outer s H E) ⟨rfl,rfl,rfl⟩ I F fun s2 I2 F2=>?_
 obtain⟨na,T,oT,ts,e,ne,nT,eT,dT,h3⟩:=F2
 exact⟨a,t,C,dd,H',rfl,I2.os,I2.bare,I2.base,I2.hok,h,⟨na.old,na.un⟩,T,oT,ts,e,ne,⟨nT.old,nT.un⟩,eT,dT,h3⟩
section
variable{X:Cx}{k:Nat}{f C:Addr}{fd:FuncData}{ps:List Str}{sp:Sp}{dvs:List V}{ds:List Value}{EH:EK}{x m:Str}{p pos apos:Pos}{e o:Expr}{es:List Expr}{ta:TE}{t:TA}
theorem Y6d{pins:List (Addr×Obj)}{σ:St}{H:Hp}{s:Shared}{e:Value}{s':Shared}(hx:G7 X EH)(hex:X.ex=[])(I:Inv X pins σ H s)
   (h:CX1 X.prog X.w X.stack H s (fun C d H'=>EH C d σ H') e s'):X.xe e s':=by
 obtain⟨a,t,C,dd,H',rfl,os,bare,un,hok,hE,⟨a1,a2⟩,T,oT,ts,z,ne,⟨t1,t2⟩,eT,dT,h3⟩:=h
 have I':Inv X pins σ H' s':=I.call' (ch:=[]) os un hok bare (fun b q=>absurd q (by simp))
 exact hx pins σ H' s' a t C dd I' (FltAt.flt ⟨I.nw hex a1 a2,T,oT,ts,z,ne,I.nw hex t1 t2,eT,dT,h3⟩) hE
theorem C1e{pins:List (Addr×Obj)}{σ:St}{H:Hp}{s:Shared}{Q:VK}{us:List Value}{vs:List V}(F:FnOk X.prog X.w X.K X.mg X.base (CX1 X.prog X.w) k f fd ps sp)(hr:Room k X.A)(hb:Binds X.K fd ps ds)(hd:Vals dvs ds)
   (hx:G7 X EH) (hex:X.ex=[]) (I:Inv X pins σ H s) (r:Vals vs us) (h:sp (vs++dvs) H Q (fun C d H'=>EH C d σ H')):wpAny (model X.prog X.w) X.A (call (.ref f) us) (EP X pins σ Q) X.xe s:=by
 have r2:Vals (vs++dvs) (us++ds):=r.append hd
 have hl:(us++ds).length=ps.length:=by rw[<-r2.length];exact F.len _ _ _ _ h
 refine wpAny_call (codeAny_mono (F.run X.A X.stack s H ⟨us,[]⟩ (us++ds) (vs++dvs) Q _ hr I.env0 (hb s us I.kIn hl) r2 h) fun r s' hq=>?_)
 cases r with
 |error e=>exact Y6d hx hex I hq
 | ok fl=>
   cases fl with
   |ret u=>exact I.after hq
   |next=>exact False.elim hq
   |brk=>exact False.elim hq
   |cont=>exact False.elim hq
noncomputable def D2p (sp:Sp) (dvs:List V) (EH:EK) (t:TA):TE:=fun σ H Q=>t σ H fun vs H1=>sp (vs++dvs) H1 Q (fun C d H'=>EH C d σ H')
theorem U9x(F:FnOk X.prog X.w X.K X.mg X.base (CX1 X.prog X.w) k f fd ps sp)(hr:Room k X.A)(hg:Gl X x)(hm:X.mg x=some (.ref f))(hk:PySem.W.keepIn X.K (.ref f)=true)(hb:Binds X.K fd ps ds)(hd:Vals dvs ds)
   (hx:G7 X EH) (ha:PA X (e::es) t) (hex:X.ex=[]:=by rfl) (hdb:(x==("__debug__":Str))=false:=by decide) (he:starEach (e::es) X.env=(false,eval e X.env)::starEach es X.env:=by rfl)
   (hpl:(backTo pos (starEach es X.env)).any (·.1)=false:=by rfl):PE X (.Call (.Name x p) (e::es) [] pos) (D2p sp dvs EH t):=by
 intro pins s σ H Q I h
 refine wpAny_Call_Name_kw (A0h I hg hm ?_ hdb)
 refine PySem.W.callWith_K (h₀:=X.base) I.ok.mod.kin hk (thn (ha pos pins s σ H _ I h) fun us s1 ⟨vs,H1,I1,r,q⟩=>⟨I1.kIn,?_⟩) he hpl
 exact C1e F hr hb hd hx hex I1 r q
theorem U1a(F:FnOk X.prog X.w X.K X.mg X.base (CX1 X.prog X.w) k f fd ps sp)(hr:Room k X.A)(hg:Gl X x)(hm:X.mg x=some (.ref f))(hk:PySem.W.keepIn X.K (.ref f)=true)(hb:Binds X.K fd ps ds)(hd:Vals dvs ds)
   (hx:G7 X EH) (hex:X.ex=[]:=by rfl) (hdb:(x==("__debug__":Str))=false:=by decide):PE X (.Call (.Name x p) [] [] pos) (D2p sp dvs EH B6f):=by
 intro pins s σ H Q I h
 refine wpAny_Call_Name_kw (A0h I hg hm ?_ hdb)
 exact PySem.W.callWith_K0 I.kIn hk (C1e (us:=[]) F hr hb hd hx hex I .nil h)
end
section
variable{P:Program}{w:World}{K:PySem.W.Frag}{mg:Str ->Option Value}{base:Heap}
theorem Fun.okE{x qual:Str}{st:Stmt}{f:Addr}{fd:FuncData}{N ps:List Str}{k:Nat}{sp:Sp}(F:Fun K x qual st f fd)(S:FnScope N ps (A1 st))(len:∀vs H Q E,sp vs H Q E ->vs.length=ps.length)
   (hbody:∀(X:Cx) (cdv:Value) (A:Around) (outer:List Env) (s:Shared) (H:Hp) (vs:List V) (Q:VK) (E:XK),X=Z9 (CX1 P w) P w K mg base N qual (A1 st) f cdv A outer s H E ->Room k X.A ->G7 X (fun C dd _ H'=>E C dd H') ->sp vs H Q E ->
     ∃t,PSs (Z9 (CX1 P w) P w K mg base N qual (A1 st) f cdv A outer s H E) (C6 st) t/\t {nx:=fun _ H'=>Q .non H',rt:=Q} (A0w N vs) H):FnOk P w K mg base (CX1 P w) (k+1) f fd ps sp:=by
 obtain⟨oc,od,kV,doc,pm,an,cdv,ct,osl,rfl,lk,hc⟩:=F.ex
 exact U6z lk hc S len fun A outer s H vs Q E hr h=>hbody _ cdv A outer s H vs Q E rfl hr B2z h
theorem FnOk.up{k:Nat}{f:Addr}{fd:FuncData}{ps:List Str}{sp:Sp}(F:FnOk P w K mg base CX0 k f fd ps sp):FnOk P w K mg base (CX1 P w) k f fd ps sp:=by
 refine⟨F.len,fun A outer s H args us vs Q E hr e0 hb r h=>codeAny_mono (F.run A outer s H args us vs Q E hr e0 hb r h) fun r s' q=>?_⟩
 cases r with
 |error e=>exact False.elim q
 |ok fl=>cases fl<;>exact q
end
end L2
namespace L2
open PySem PySem.Spec PyProof.Rows PySem.W
theorem Y6f{K:Frag}{h:Heap}{C:Addr}{bmB:List Value}{newId:String}(X:K.In h)(q:excIn K C bmB newId=true):
   ∃ (bm:List Value) (N:Addr) (nm qn:Str) (bs:List Value) (hd:Bool) (sn:List Str) (sub:List Value) (ab:Bool) (col:Option Bool) (dd:Option Addr) (k0 k1 k2 k3 k5:Option Value) (mN:Str ->Option Value),
     h.get? C=some (excClassObj nm qn C N bs bm hd sn sub ab col dd k0 k1 k2 k3 k5 newId)/\h.Ns N mN/\mN "__init__"=none/\OwnTail h bmB bm:=by
 unfold excIn at q
 split at q
 . rename_i dd cd sl ho
   split at q
   . rename_i C' bm k0 k1 k2 k3 n k5 hm hs
     simp only[Bool.and_eq_true,beq_iff_eq,Bool.not_eq_true'] at q
     obtain⟨⟨⟨⟨⟨r1,r2⟩,r3⟩,r4⟩,r5⟩,r6⟩:=q
     subst r1 r2
     obtain⟨a1,a2,a3,a4,a5,a6,a7,a8,a9,a10,a11⟩:=cd
     dsimp only at hm r3 r5 r6
     subst hm r3
     have hsl:sl= #[k0,k1,k2,k3,some (.builtin n),k5]:=by
       obtain⟨l⟩:=sl
       simp only at hs
       rw[hs]
     subst hsl
     exact⟨bm,a4,a1,a5,a2,a6,a7,a8,a9,a10,dd,k0,k1,k2,k3,k5,_,X _ _ ho,.of_isNs (isNs_of_in X r5),nsMap_none_of_in X r5 r6,tail_of_in X r4⟩
   . cases q
 . cases q
section
variable{X:Cx}{x:Str}{p cpos pos:Pos}{e:Expr}{es:List Expr}{t:TA}{C:Addr}{bmB:List Value}{B newId initId:String}{EH:EK}
noncomputable def Z2q (C:Addr) (EH:EK) (t:TA):TS:=fun _ σ H=>t σ H fun vs H1=>vs.length<=sizeLine/\EH (.ref C) none σ H1
theorem A3b(hg:Gl X x)(hm:X.mg x=some (.ref C))(q:excIn X.K C bmB newId=true)(FB:ExcBaseFacts B newId initId bmB)(hh:X.A.handled=none)(hx:G7 X EH)(ha:PA X (e::es) t)(hex:X.ex=[]:=by rfl)
   (hdb:(x==("__debug__":Str))=false:=by decide) (he:starEach (e::es) X.env=(false,eval e X.env)::starEach es X.env:=by rfl) (hpl:(backTo cpos (starEach es X.env)).any (·.1)=false:=by rfl):
   PS X (.Raise (some (.Call (.Name x p) (e::es) [] cpos)) none pos) (Z2q C EH t):=by
 intro pins s σ H D I h
 obtain⟨bm,N,nm,qn,bs,hd,sn,sub,ab,col,dd,k0,k1,k2,k3,k5,mN,hC,hN,hni,T⟩:=Y6f I.ok.mod.kin q
 refine wpAny_Raise_call_subT (C:=C) (nm:=nm) (q:=qn) (N:=N) (bs:=bs) (bm:=bm) (hdct:=hd) (sn:=sn) (sub:=sub) (ab:=ab) (col:=col) (dd:=dd) (k0:=k0) (k1:=k1) (k2:=k2) (k3:=k3) (k5:=k5) FB (mN:=mN) (T.hasType FB.hasBase) hh
   (by rw[he];show(false||(backTo cpos (starEach es X.env)).any (·.1))=false;rw[hpl];rfl) hni (A0h I hg hm ⟨rfl,?_⟩ hdb)
 have ha':=ha cpos pins s σ H _ I h
 rw[he] at ha' ⊢
 refine Calls.evalArgs_plain (wpAny_mono ha' (fun us s2 ⟨vs,H1,I1,r,z,q⟩=>⟨rfl,by rw[<-r.length];exact z,I1.bk _ _ hC,hN.keeps I1.bk,T.keeps I1.bk,fun h' a m=>?_⟩) fun _ _ y=>y)
 have I2:Inv X pins σ H1 {s2 with heap:=h'}:=I1.kept (t':=s2.toks) m.keeps
 obtain⟨t',e1,tn,e2⟩:=m.there
 exact hx pins σ H1 _ a t' (.ref C) none I2 ⟨I1.nw hex m.new (I1.hok.new m.new),.none,e1,.inl rfl,fun T z=>nomatch z⟩ q
end
section
variable{X:Cx}{pins:List (Addr×Obj)}{σ:St}{H:Hp}{s:Shared}
theorem Inv.track{a:Addr}{o:Obj}(I:Inv X pins σ H s)(n:Nw X pins H a)(e:s.heap.get? a=some o):Inv X pins σ (upd H a (.frz o (.own a))) s:=by
 have ne:∀b u,H b=some u ->b≠a:=fun b u z q=>by rw[q,n.un] at z;cases z
 have up:∀b,b≠a ->upd H a (.frz o (.own a)) b=H b:=fun b hb=>D3 hb
 refine⟨I.ok,I.os,I.bare,⟨I.base.keep,I.base.slot,fun b u z m hx=>?_,I.base.there,fun b xs z=>?_,fun b u v z=>?_,fun b ps z=>?_⟩,I.loc,I.cell,?_,fun x c z=>?_,fun p hp=>?_,fun b u z=>?_,I.len⟩
 . rw[up b fun q=>by rw[q,n.old] at z;cases z]
   exact I.base.free b u z m hx
 . have:=I.base.tups b xs z
   rw[up b (ne b _ this)];exact this
 . have:=I.base.frzs b u v z
   rw[up b (ne b _ this)];exact this
 . obtain⟨more,this⟩:=I.base.tbls b ps z
   exact⟨more,by rw[up b (ne b _ this)];exact this⟩
 . rw[up _ (Ne.symm n.loc)];exact I.free
 . rw[up _ (n.cell x c z)];exact I.freeC x c z
 . obtain⟨q1,q2,q3⟩:=I.pin p hp
   exact⟨q1,by rw[up _ (n.pin p hp)];exact q2,q3⟩
 . by_cases hb:b=a
   . subst hb
     rw[A9] at z
     cases z
     exact⟨e,_,e⟩
   . rw[up b hb] at z
     exact(I.hok b u z).stay (fun _ _ _ q=>q) (fun c q=>by rw[up c (ne c _ q)];exact q) (fun c xs q=>by rw[up c (ne c _ q)];exact q)
theorem U1z{M:Model}{A:Around}{E:Value ->Shared ->Prop}{i:Nat}{x:Str}{v:V}{Q:Unit ->Shared ->Prop}(I:Inv X pins σ H s)(hN:X.N.Nodup)(hi:X.N[i]?=some x)(hk:X.env.scope.names.lookup x=some .local)(hv:σ[i]?=some (some v))
   (k:∀s',Inv X pins (σ.set i none) H s' ->Q () s'):wpAny M A (unbindName X.env x) Q E s:=by
 obtain⟨m,hn,hl⟩:=id I.loc
 have hcls:(X.env.scope.kind== .class||(X.env.scope.kind== .module&&X.env.locals !=X.env.globals))=false:=by rw[I.ok.kind];rfl
 obtain⟨u,_,lk⟩:=hl i x v hi hv (.inl hk)
 have hm:m x=some u:=by
   rcases lk with⟨_,z⟩|⟨z,_⟩
   . exact z
   . have z:X.env.scope.names.lookup x=some .cell\/X.env.scope.names.lookup x=some .free:=z
     rw[hk] at z
     rcases z with z|z<;>cases z
 refine wpAny_unbindName_local hk hn hm hcls fun h' w' hn' hs=>k _ ?_
 obtain⟨oL,_,_,hoL,_⟩:=id hn
 have nl:∀b o,X.s₀.heap.get? b=some o ->b≠X.env.locals:=fun b o e=>Nat.ne_of_lt (Nat.lt_of_lt_of_le (Heap.lt_size e) I.ok.above)
 refine⟨I.ok,I.os,I.bare,⟨fun b o e n hb hx=>?_,fun b o e n hb hx=>?_,I.base.free,fun b o e hx=>?_,I.base.tups,I.base.frzs,I.base.tbls⟩,⟨_,hn',fun j y v' e1 e2 e3=>?_⟩,fun y c e=>?_,I.free,I.freeC,fun p hp=>?_,fun b u z=>?_,by simpa using I.len⟩
 . exact(hs.2 b (nl b o e)).trans (I.base.keep b o e n hb hx)
 . obtain⟨sl,e1⟩:=I.base.slot b o e n hb hx
   exact⟨sl,(hs.2 b (nl b o e)).trans e1⟩
 . obtain⟨o',e1⟩:=I.base.there b o e hx
   exact⟨o',(hs.2 b (nl b o e)).trans e1⟩
 . by_cases hj:j=i
   . subst hj
     have hlen:j<σ.length:=(List.getElem?_eq_some_iff.mp hv).1
     rw[List.getElem?_set_self hlen] at e2
     cases e2
   . rw[List.getElem?_set_ne (Ne.symm hj)] at e2
     obtain⟨u',r',q⟩:=hl j y v' e1 e2 e3
     refine⟨u',r',?_⟩
     rcases q with⟨k1,e⟩|⟨k1,c,e,z⟩
     . have:y≠x:=fun e=>hj (C2q hN e1 (e▸hi))
       exact .inl ⟨k1,by simp[this,e]⟩
     . exact .inr ⟨k1,c,e,z.sameBut hs (I.cne y c e)⟩
 . obtain⟨w2,z⟩:=I.cell y c e
   exact⟨w2,z.sameBut hs (I.cne y c e)⟩
 . obtain⟨e,n,ne,nf,d⟩:=I.pin p hp
   exact⟨(hs.2 p.1 ne).trans e,n,ne,nf,d⟩
 . refine(I.hok b u z).stay (fun c w2 hc q=>(hs.2 c ?_).trans q) (fun _ q=>q) fun _ _ q=>q
   rintro rfl
   rcases hc with rfl|hc
   . rw[I.free] at z;cases z
   . rw[I.free] at hc;cases hc
end
noncomputable abbrev Cx.hold (X:Cx) (pins:List (Addr×Obj)) (E:Value ->Shared ->Prop):Cx:={X with pn:=X.pn++pins,xe:=E}
noncomputable abbrev Cx.hnd (X:Cx) (pins:List (Addr×Obj)) (a:Addr):Cx:={X with A:=X.A.mark (some (.ref a)),calm:=false,pn:=X.pn++pins,xe:=fun _ _=>False}
section
variable{X:Cx}{pins pins':List (Addr×Obj)}{σ:St}{H:Hp}{s:Shared}{a:Addr}{E:Value ->Shared ->Prop}
theorem Inv.hold(I:Inv X pins σ H s):Inv (X.hold pins E) [] σ H s:=
 ⟨⟨I.ok.mod,I.ok.kind,I.ok.glob,I.ok.blt,I.ok.above,I.ok.inj,I.ok.has,I.ok.cab,I.ok.hd,I.ok.frames,I.ok.stk,I.ok.exf,I.ok.bs,I.ok.bsz,I.ok.noex,I.ok.exfs,I.ok.funs,I.ok.frf⟩,
   I.os,I.bare,I.base,I.loc,I.cell,I.free,I.freeC,fun p hp=>I.pin p (by simpa using hp),I.hok,I.len⟩
theorem Inv.unhold(I:Inv (X.hold pins E) pins' σ H s):Inv X pins σ H s:=
 ⟨⟨I.ok.mod,I.ok.kind,I.ok.glob,I.ok.blt,I.ok.above,I.ok.inj,I.ok.has,I.ok.cab,I.ok.hd,I.ok.frames,I.ok.stk,I.ok.exf,I.ok.bs,I.ok.bsz,I.ok.noex,I.ok.exfs,I.ok.funs,I.ok.frf⟩,
   I.os,I.bare,I.base,I.loc,I.cell,I.free,I.freeC,fun p hp=>I.pin p (List.mem_append_left _ hp),I.hok,I.len⟩
theorem Inv.hnd(I:Inv X pins σ H s):Inv (X.hnd pins a) [] σ H s:=
 ⟨⟨I.ok.mod,I.ok.kind,I.ok.glob,I.ok.blt,I.ok.above,I.ok.inj,I.ok.has,I.ok.cab,(fun z=>nomatch z),I.ok.frames,I.ok.stk,I.ok.exf,I.ok.bs,I.ok.bsz,I.ok.noex,I.ok.exfs,I.ok.funs,I.ok.frf⟩,
   I.os,I.bare,I.base,I.loc,I.cell,I.free,I.freeC,fun p hp=>I.pin p (by simpa using hp),I.hok,I.len⟩
theorem Inv.unhnd(ok:X.Ok)(I:Inv (X.hnd pins a) pins' σ H s):Inv X pins σ H s:=
 ⟨ok,I.os,I.bare,I.base,I.loc,I.cell,I.free,I.freeC,fun p hp=>I.pin p (List.mem_append_left _ hp),I.hok,I.len⟩
theorem Nw.unhold{b:Addr}(n:Nw (X.hold pins E) pins' H b):Nw X pins H b:=⟨n.un,n.loc,n.fs,n.old,n.cell,fun p hp=>n.pin p (List.mem_append_left _ hp)⟩
theorem Flt.unhold{t:Addr}{C:Value}{dd:Option Addr}(F:Flt (X.hold pins E) pins' H s a C t dd):Flt X pins H s a C t dd:=by
 obtain⟨n,tb,e,ok,m⟩:=F
 exact⟨n.unhold,tb,e,ok,fun T z=>(m T z).unhold⟩
theorem SP.unhold{D:Ends}{f:Flow}{s':Shared}(h:SP (X.hold pins E) pins' D f s'):SP X pins D f s':=by
 cases f with
 |next=>obtain⟨σ',H',I,q⟩:=h;exact⟨σ',H',I.unhold,q⟩
 |brk=>obtain⟨σ',H',I,q⟩:=h;exact⟨σ',H',I.unhold,q⟩
 |cont=>obtain⟨σ',H',I,q⟩:=h;exact⟨σ',H',I.unhold,q⟩
 |ret u=>obtain⟨v,σ',H',I,r,q⟩:=h;exact⟨v,σ',H',I.unhold,r,q⟩
end
structure Clause(K:Frag)(R:Addr):Prop where
 ty:typeIn K (.ref R)=some (.type "type")
 cl:(clsIn K R).isSome=true
 ex:subIn K (.ref R) (.type "BaseException")=some true
theorem A5d{K:Frag}{M:Model}{h:Heap}{R:Addr}(X:K.In h)(c:(clsIn K R).isSome=true):Looks M h (isType (.ref R)) true:=by
 unfold clsIn at c
 split at c
 . rename_i ho
   intro A' Q' E' s' k q
   unfold isType loadHead
   exact wpAny_bind (wpAny_loadPart (k _ _ (X _ _ ho)) (wpAny_pure q))
 . cases c
theorem U1g{K:Frag}{M:Model}{A:Around}{E:Value ->Shared ->Prop}{s:Shared}{a R:Addr}{C:Value}{oa:Obj}{b:Bool}{Q:Bool ->Shared ->Prop}(X:K.In s.heap)(ha:s.heap.get? a=some oa)(hc:oa.cls=C)(c:Clause K R)
   (m:subIn K C (.ref R)=some b) (h:Q b s):wpAny M A (excMatches (.ref a) (.ref R)) Q E s:=by
 obtain⟨hp,g,d,tk,os⟩:=s
 have L1:Looks M hp (typeOf (.ref R)) (.type "type"):=looks_typeIn X c.ty
 have L2:Looks M hp (isSubtype (.ref R) (.type "BaseException")) true:=looks_subIn X c.ex
 have L3:Looks M hp (isSubtype C (.ref R)) b:=looks_subIn X m
 have L4:Looks M hp (typeOf (.ref a)) C:=hc▸(Looks.ld ha).andThen .now
 have L5:Looks M hp (isType (.ref R)) true:=A5d X c.cl
 unfold excMatches
 unfold isInstance
 refine wpAny_bind (wpAny_bind (L1.at ?_))
 rw[tc_notTuple]
 refine wpAny_pure ?_
 simp only[Bool.false_eq_true,if_false]
 refine wpAny_bind (wpAny_pure ?_)
 simp only[List.forIn_cons,List.forIn_nil]
 unfold isExcClass
 refine wpAny_bind (wpAny_bind (wpAny_bind (wpAny_bind (L5.at ?_))))
 simp only[if_true]
 refine L2.at ?_
 simp only[Bool.not_true,Bool.false_eq_true,if_false]
 refine wpAny_pure (wpAny_pure ?_)
 refine wpAny_bind (L4.at ?_)
 refine wpAny_bind (wpAny_bind (wpAny_bind (L3.at ?_)))
 cases b with
 |true=>simp only[if_true];exact wpAny_pure (wpAny_pure (wpAny_pure h))
 |false=>simp only[Bool.false_eq_true,if_false];exact wpAny_pure (wpAny_pure (wpAny_pure h))
noncomputable def tTry (K:Frag) (R:Addr) (i:Nat) (tb:EK ->TS) (ts:Addr ->TS):TS:=fun D σ H=>
 tb (fun C dd σ' H'=>subIn K C (.ref R)=some true/\∀(a t T:Addr),H' a=none ->
   ts a {nx:=fun σ2 H2=>D.nx (σ2.set i none) H2,rt:=D.rt,bk:=fun σ2 H2=>D.bk (σ2.set i none) H2,ct:=fun σ2 H2=>D.ct (σ2.set i none) H2}
     (σ'.set i (some (.ref a))) (upd H' a (.frz (Z4 C t dd (.ref T)) (.own a)))) D σ H
section
variable{X:Cx}{x n:Str}{np hpos pos:Pos}{R:Addr}{i:Nat}{body suite:List Stmt}{b₀:Stmt}{tb:EK ->TS}{ts:Addr ->TS}
theorem V0k(B:Body X)(hg:Gl X x)(hm:X.mg x=some (.ref R))(c:Clause X.K R)(hN:X.N.Nodup)(hi:X.N[i]?=some n)(hk:X.env.scope.names.lookup n=some .local)
   (hb:∀pins Ew EHb,G7 (X.hold pins Ew) EHb ->PSs (X.hold pins Ew) body (tb EHb)) (hs:∀pins a,PSs (X.hnd pins a) (b₀::suite) (ts a))
   (hdb:(x==("__debug__":Str))=false:=by decide) (hf:X.fn n=true\/X.env.scope.names.lookup n=some .local:=by first|exact .inl rfl|exact .inr rfl|assumption):
   PS X (.Try body [.ExceptHandler (some (.Name x np)) (some n) (b₀::suite) hpos] [] [] pos) (tTry X.K R i tb ts):=by
 intro pins s σ H D I h
 refine wpAny_Try_except ?_
 refine wpAny_mono (hb pins _ _ ?cat [] s σ H D I.hold h) (fun f s1 hf1=>?_) (fun e s1 he=>he)
 case cat=>
   intro pins' σ' H' s' a t C dd I' F' hE
   obtain⟨hsub,hE⟩:=hE
   show wpAny (model X.prog X.w) X.A (noteFrame (.ref a) X.env) _ X.xe s'
   have J:=I'.unhold
   have F:=F'.unhold
   refine G2y B J F fun s2 J2 F2=>C3a J2 F2 fun s3 J3 F3=>?_
   obtain⟨na,T,oT,ts',e3,ne3,nT3,eT3,dT3,h33⟩:=id F3
   refine wpAny_handleBy_cons (codeAny_handlers_test ?_) (by intro z;cases z)
   have K3:Inv (X.hnd pins a) [] σ' H' s3:=J3.hnd
   refine A0h K3 hg hm ?_ hdb
   refine U1g J3.kIn e3 rfl c hsub ?_
   show codeAny _ _ _ _ _
   refine codeAny_handlers_suite_as ?_
   refine C3a J3 F3 fun s4 J4 F4=>?_
   obtain⟨na4,T4,oT4,ts4,e4,_⟩:=id F4
   have J5:=J4.track na4 e4
   refine A8f (v:= .ref a) J5 hN hi (.inl hk) rfl (fun s5 J6=>?_) hf
   refine wpAny_mono (hs pins a [] s5 _ _ _ J6.hnd (hE a t T4 na4.un)) (fun f s6 hf6=>?_) (fun _ _ z=>z.elim)
   have fin:∀{σ6:St} {H6:Hp} {Q6:Unit ->Shared ->Prop},Inv (X.hnd pins a) [] σ6 H6 s6 ->(∀s7,Inv X pins (σ6.set i none) H6 s7 ->Q6 () s7) ->
       wpAny (model X.prog X.w) X.A (do bindName X.env n .none;unbindBehindTheSuite X.env n hpos) Q6 X.xe s6:=by
     intro σ6 H6 Q6 K6 k6
     have L6:=K6.unhnd J6.ok
     refine wpAny_bind (wpAny_bindName (A8f (v:= .non) L6 hN hi (.inl hk) rfl (fun s7 J7=>?_) hf))
     unfold unbindBehindTheSuite
     have hlen:i<σ6.length:=by rw[L6.len];exact(List.getElem?_eq_some_iff.mp hi).1
     refine wpAny_onRaise (U1z J7 hN hi hk (List.getElem?_set_self hlen) fun s8 J8=>k6 s8 ?_)
     rw[List.set_set] at J8
     exact J8
   cases f with
   |next=>obtain⟨σ6,H6,K6,q⟩:=hf6;exact fin K6 fun s7 J7=>⟨_,_,J7,q⟩
   |brk=>obtain⟨σ6,H6,K6,q⟩:=hf6;exact fin K6 fun s7 J7=>⟨_,_,J7,q⟩
   |cont=>obtain⟨σ6,H6,K6,q⟩:=hf6;exact fin K6 fun s7 J7=>⟨_,_,J7,q⟩
   |ret u=>obtain⟨v,σ6,H6,K6,r,q⟩:=hf6;exact fin K6 fun s7 J7=>⟨v,_,_,J7,r,q⟩
 . cases f with
   |next=>exact wpAny_execs_nil (SP.unhold hf1)
   |brk=>exact SP.unhold hf1
   |cont=>exact SP.unhold hf1
   |ret u=>exact SP.unhold hf1
end
structure ExcK(K:Frag)(C:Addr):Prop where
 ga:findIn K (.ref C) "__getattribute__"=some (some (.builtin "BaseException.__getattribute__"))
 gh:findIn K (.ref C) "__getattr__"=some none
 ca:findIn K (.ref C) "__class__"=some (some (.builtin "object.__class__"))
 sn:specialIn K (.builtin "object.__class__") "__get__"=some (some (.builtin "getset_descriptor.__get__"))
 tk:takesIn K (.builtin "object.__class__")=some true
 ob:mroIn K C (.type "object")=some true
 be:subIn K (.ref C) (.type "BaseException")=some true
 cl:(clsIn K C).isSome=true
theorem A8d{prog:Program}{w:World}{A:Around}{E:Value ->Shared ->Prop}{s:Shared}{K:Frag}{a C:Addr}{oa:Obj}{od:Option Obj}{Q:Option Value ->Shared ->Prop}(F:ExcK K C)(X:K.In s.heap)(I:PySem.W.InstAt s.heap a oa C od)
   (h:Q (some (.ref C)) {s with toks:=s.toks+1}):wpAny (model prog w) A (getAttr? (.ref a) "__class__") Q E s:=by
 obtain⟨hp,g,d,t,os⟩:=s
 have L0:=I.type (M:=model prog w)
 have L1:=looks_findIn (M:=model prog w) X F.ga
 have L2:=looks_findIn (M:=model prog w) X F.gh
 have L3:Looks (model prog w) hp (isInstance (.ref a) (.type "BaseException")) true:=L0.andThen (looks_subIn X F.be)
 have hf:findObj K C od "__class__"=some (.bind (.builtin "getset_descriptor.__get__") (.builtin "object.__class__")):=by
   obtain⟨cd,hc⟩:=Option.isSome_iff_exists.mp F.cl
   unfold findObj
   rw[hc,Option.bind_some,F.ca,Option.bind_some]
   simp[F.sn,F.tk]
 have L4:=looks_find (M:=model prog w) X I hf
 have hk:builtinKind "BaseException.__getattribute__"=some .slot:=by decide+kernel
 have hsplit:splitId "BaseException.__getattribute__"=some ("BaseException","__getattribute__"):=by decide+kernel
 have hargs:=PySem.F.args_bexc_ga (.ref a) (.str "__class__" t)
 have hb:=PySem.F.attr_ValueError.ga.bind (.ref a)
 unfold getAttr? getAttrBy? getAttrBy
 refine wpAny_bind (wpAny_mkText (wpAny_bind (wpAny_attempt (wpAny_holding (wpAny_bind (L0.at (wpAny_bind (L1.at ?_))))))))
 dsimp only
 rw[if_neg (show¬((onTheHeap (Value.ref C)&&Value.builtin "BaseException.__getattribute__"==Value.builtin "object.__getattribute__")=true) by
   rw[show(Value.builtin "BaseException.__getattribute__"==Value.builtin "object.__getattribute__")=false by decide+kernel,Bool.and_false];exact Bool.false_ne_true)]
 unfold getAttrByItsOwn
 refine wpAny_bind (m:=hookBefore (.ref C)) (L2.at ?_)
 refine wpAny_bind (wpAny_attempt (wpAny_holding ?_))
 unfold callGetattribute
 rw[if_neg (by decide)]
 unfold boundAndCalled
 rw[hb]
 refine wpAny_bind (wpAny_pure ?_)
 refine wpAny_call (codeAny_call_builtin PySem.F.attr_ValueError.ga.plain PySem.F.entry_bexc_ga ?_)
 have chk:∀{A':Around} {Q':Unit ->Shared ->Prop} {E':Value ->Shared ->Prop},Q' () ⟨hp,g,d,t+1,os⟩ ->wpAny (model prog w) A' (checkBuiltinCall "BaseException.__getattribute__" ⟨[.ref a,.str "__class__" t],[]⟩) Q' E' ⟨hp,g,d,t+1,os⟩:=by
   intro A' Q' E' hq
   simp only[checkBuiltinCall,hk,hsplit]
   refine wpAny_bind ?_
   refine L3.at ?_
   repeat (first|assumption|wp_step)
 refine chk ?_
 show wpAny _ _ (Builtin.«object.__getattribute__» ⟨[.ref a, .str "__class__" t], []⟩) _ _ _
 unfold Builtin.«object.__getattribute__»
 refine wpAny_bind (wpAny_pure ?_)
 refine wpAny_bind (wpAny_pure ?_)
 refine wpAny_bind (L0.at (wpAny_bind (L4.at ?_)))
 dsimp only
 show wpAny _ _ (holding [Value.builtin "object.__class__"] (call (.builtin "getset_descriptor.__get__") [.builtin "object.__class__",.ref a,.ref C])>>=ret) _ _ _
 refine wpAny_bind (wpAny_holding (wpAny_call (class_get (s:=⟨hp,g,d,t+1,os⟩) X I F.ob (wpAny_pure ?_))))
 exact handed_on rfl (wpAny_pure h)
noncomputable def A8j (X:Cx):Prop:=X.A.handled=none\/∃x o u vs,X.A.handled=some (.ref x)/\X.H₀ x=some (.frz o u)/\o.data= .fields vs/\vs[2]?=some .none
section
variable{X:Cx}{pins:List (Addr×Obj)}{σ:St}{H:Hp}{s:Shared}
end
section
variable{X:Cx}{tg:Expr}
end
theorem U6u{prog:Program}{w:World}{A:Around}{s:Shared}{elt target iter:Expr}{scope:Scope}{pos:Pos}{it acc:Value}{env:Env}{R:Result ->Shared ->Prop}(I:Nat ->Shared ->Prop)
   (turn :∀n s,I n s ->wpAny (model prog w) A (pyNext it) (fun r s₁=>match r with
     |none=>R (.ok .next) s₁
     |some v=>wpAny (model prog w) A (letOwnedTupleGo target it v) (fun _ s₀=>wpAny (model prog w) A (assign target env v) (fun _ s₂=>wpAny (model prog w) A (eval elt env) (fun x s₄=>
         wpAny (model prog w) A (call (.builtin "list.append") [acc,x]) (fun _ s₅=>∃m,m<n/\I m s₅) (notedBy (model prog w) A env fun e s'=>R (.error e) s') s₄) (notedBy (model prog w) A env fun e s'=>R (.error e) s') s₂)
         (notedBy (model prog w) A env fun e s'=>R (.error e) s') s₀) (notedBy (model prog w) A env fun e s'=>R (.error e) s') s₁) (notedBy (model prog w) A env fun e s'=>R (.error e) s') s)
   (n:Nat) (h:I n s):codeAny (model prog w) A (.compLoop (.ListComp elt [⟨target,iter,[],0⟩] scope pos) 0 it acc env) R s:=by
 refine codeAny_loop rfl I (fun n s hI=>?_) n h
 show wpAny _ A ((compTurn (.ListComp elt [⟨target,iter,[],0⟩] scope pos) 0 it acc env).onRaise (fun x=>do noteFrame x env;theTreesLotGoes x)) _ _ s
 refine wpAny_noted ?_;rw[compTurn_list1]
 refine wpAny_bind (wpAny_standAt (wpAny_bind (wpAny_mono (turn n s hI) (fun r s₁ h₁=>?_) fun _ _ z=>z)))
 cases r with
 |none=>exact wpAny_pure h₁
 | some v=>
   refine wpAny_bind (wpAny_mono h₁ (fun _ s₀ q₀=>?_) fun _ _ z=>z)
   refine wpAny_bind (wpAny_mono q₀ (fun _ s₂ q₂=>?_) fun _ _ z=>z)
   exact wpAny_bind (wpAny_bind (wpAny_mono q₂ (fun x s₄ q₄=>wpAny_bind (wpAny_mono q₄ (fun _ s₅ q₅=>wpAny_pure (wpAny_pure ⟨rfl,q₅⟩)) fun _ _ z=>z)) fun _ _ z=>z))
section
variable{X:Cx}
theorem Z1r{pins:List (Addr×Obj)}{σ:St}{H:Hp}{s:Shared}{C:Addr}{h':Heap}(I:Inv X pins σ H s)(f:B3j X pins H C)(sb:Heap.SameBut C s.heap h'):Inv X pins σ H {s with heap:=h'}:=
 I.turned (t':=s.toks) (fun b o hb e=>(sb.2 b hb).trans e) f.1 f.2.1 f.2.2.2.1 f.2.2.2.2.1 f.2.2.2.2.2
end
section
variable{X:Cx}{a b c:Expr}{ta tb tc:TE}{pos:Pos}
theorem U3:OpR X (binaryOp .Mult) (rI IntMulOk fun i j=> .int (i*j)):=opI fun _ _ _ _ _ _ _ hc q=>mul_int q hc
theorem J1:OpR X (binaryOp .FloorDiv) (rI (fun _ j=>0<j/\j.natAbs.log2<9000) fun i j=> .int (i/j)):=opI fun i j _ _ _ _ _ hc q=>by
 have h1:(0:Int)<j:=hc.1
 exact floordiv_int (by omega) (by rw[Int.fdiv_eq_ediv_of_nonneg i (by omega)];exact q) (.inl (PyProof.noPylong_of_log2 hc.2))
theorem A2z{i:Int}{k:Nat}(h:i.natAbs<2^k)(hk:0<k):i.natAbs.log2<k:=by
 by_cases z:i.natAbs=0
 . rw[z];simpa using hk
 . exact(Nat.log2_lt z).mpr h
inductive TyE(K:Frag)(H:Hp):V ->Value ->Prop where
 |of {x:V} {t:Value} (h:TyOf K H x t):TyE K H x t
 |exc {a C t:Addr} {T:Value} {u:HO} (e:H a=some (.frz (Z4 (.ref C) t none T) u)) (k:ExcK K C):TyE K H (.ref a) (.ref C)
 |excD {a C t:Addr} {T:Value} {d:Addr} {u:HO} {fs:List (Str×V)} (e:H a=some (.frz (Z4 (.ref C) t (some d) T) u)) (hd:H d=some (.xd fs)) (k:ExcK K C):TyE K H (.ref a) (.ref C)
 |tupK {a:Addr} {o:Obj} (l:K.lookup a=some o) (c:o.cls= .type "tuple"):TyE K H (.ref a) (.type "tuple")
theorem G6x{pins:List (Addr×Obj)}{σ:St}{H:Hp}{s:Shared}{A:Around}{E:Value ->Shared ->Prop}{Q:Value ->Shared ->Prop}{c:Value}{b:Bool}{x:V}{u t:Value}(I:Inv X pins σ H s)(rx:RelV x u)(ty:TyE X.K H x t)
   (e:kitOne X.K t c=some b) (h:∀tk,Q (.bool b) {s with toks:=tk}):wpAny (model X.prog X.w) A (call (.builtin "isinstance") [u,c]) Q E s:=by
 cases ty with
 |of h'=>exact U2n I rx h' e h
 | exc ea k=>
   cases rx
   rename_i a C t0 T u0
   have o1:s.heap.get? a=some (Z4 (.ref C) t0 none T):=(I.hok a _ ea).1
   refine kia_one (H:=fun h=>PySem.W.InstAt h a (Z4 (.ref C) t0 none T) C none) ?_ I.kIn ⟨o1,rfl,rfl,trivial⟩ e (fun z=>nomatch z) h
   refine⟨fun M h _ J=>J.type,fun M h K _=>A5d K k.cl,fun h tp dd its n sl K htp=>?_,fun K J q=>A8d k K J q⟩
   refine Bool.eq_false_iff.mpr fun q=>?_
   have e:C=tp:=Value.ref.inj (beq_iff_eq.mp q)
   subst e
   have z:=k.cl
   unfold clsIn at z
   split at z
   . rename_i ho
     have y:=(K _ _ ho).symm.trans htp
     cases y
   . cases z
 | tupK l c=>
   cases rx
   exact PySem.W.kia_one PySem.W.kitx_tuple I.kIn ⟨_,I.kIn _ _ l,c⟩ e (fun z=>nomatch z) h
 | excD ea hd k=>
   cases rx
   rename_i a C t0 T d u0 fs
   have o1:s.heap.get? a=some (Z4 (.ref C) t0 (some d) T):=(I.hok a _ ea).1
   obtain⟨mA,nA,_⟩:=(show∃mA,s.heap.Ns1 d mA/\∀f,RelO (fs.lookup f) (mA f) from I.hok d _ hd)
   obtain⟨od,o2,_⟩:=B6r nA
   refine kia_one (H:=fun h=>PySem.W.InstAt h a (Z4 (.ref C) t0 (some d) T) C (some od)) ?_ I.kIn ⟨o1,rfl,rfl,o2⟩ e (fun z=>nomatch z) h
   refine⟨fun M h _ J=>J.type,fun M h K _=>A5d K k.cl,fun h tp dd its n sl K htp=>?_,fun K J q=>A8d k K J q⟩
   refine Bool.eq_false_iff.mpr fun q=>?_
   have e:C=tp:=Value.ref.inj (beq_iff_eq.mp q)
   subst e
   have z:=k.cl
   unfold clsIn at z
   split at z
   . rename_i ho
     have y:=(K _ _ ho).symm.trans htp
     cases y
   . cases z
noncomputable def U8q:V ->Option Value
 | .ty n=>some (.type n)
 | .ref a=>some (.ref a)
 |_=>none
theorem G2d:A7y X (.builtin "isinstance") (fun xs H Q=>∃x c cv t b,xs=[x,c]/\U8q c=some cv/\TyE X.K H x t/\kitOne X.K t cv=some b/\Q (.bl b) H):=by
 intro pins s σ H xs us Q I r h
 obtain⟨x,c,cv,t,b,rfl,hc,ty,e,q⟩:=h
 obtain⟨u,v,rfl,ru,rv⟩:=Vals.two r
 have:v=cv:=by
   cases c<;>simp only[U8q] at hc<;>first|(cases hc;exact rv)|cases hc
 subst this
 exact G6x I ru ty e fun tk=>⟨.bl b,H,I.tok tk,rfl,q⟩
mutual
inductive RdD(K:Frag)(H:Hp):V ->PyData ->Prop where
 |non:RdD K H .non .none
 |bl (b:Bool):RdD K H (.bl b) (.bool b)
 |int (i:Int):RdD K H (.int i) (.int i)
 |str (x:Str):RdD K H (.str x) (.str x)
 |tup {a:Addr} {xs:List V} {ds:List PyData} (h:SqT K H a xs) (r:RdDs K H xs ds):RdD K H (.ref a) (.tuple ds)
 |lst {a:Addr} {xs:List V} {ds:List PyData} (h:SqL K H a xs) (r:RdDs K H xs ds):RdD K H (.ref a) (.list ds)
inductive RdDs(K:Frag)(H:Hp):List V ->List PyData ->Prop where
 |nil:RdDs K H [] []
 |cons {x:V} {xs:List V} {d:PyData} {ds:List PyData} (h:RdD K H x d) (r:RdDs K H xs ds):RdDs K H (x::xs) (d::ds)
end
mutual
theorem RdD.reads{pins:List (Addr×Obj)}{σ:St}{H:Hp}{s:Shared}(I:Inv X pins σ H s):∀{x:V} {d:PyData} {u:Value},RdD X.K H x d ->RelV x u ->∃as,Reads s.heap u d as
 |_,_,_,.non,r=>by cases r;exact⟨_,.none⟩
 |_,_,_,.bl b,r=>by cases r;exact⟨_,.bool b⟩
 |_,_,_,.int i,r=>by obtain⟨t,rfl⟩:=r;exact⟨_,.int i t⟩
 |_,_,_,.str x,r=>by obtain⟨t,rfl⟩:=r;exact⟨_,.str x t⟩
 | _,_,_,.tup h q,r=>by
   cases r
   obtain⟨its,rv,⟨o,e,c,n,d⟩,_⟩:=I.tuple h
   obtain⟨as,z⟩:=RdDs.reads I q rv
   exact⟨_,reads_tuple_at e c d (by simpa using z)⟩
 | _,_,_,.lst h q,r=>by
   cases r
   obtain⟨its,rv,p,_⟩:=I.list h
   obtain⟨o,e,c,n,d⟩:=p.isList
   obtain⟨as,z⟩:=RdDs.reads I q rv
   exact⟨_,reads_list_at e c d (by simpa using z)⟩
theorem RdDs.reads{pins:List (Addr×Obj)}{σ:St}{H:Hp}{s:Shared}(I:Inv X pins σ H s):∀{xs:List V} {ds:List PyData} {us:List Value},RdDs X.K H xs ds ->Vals xs us ->∃as,ReadsAll s.heap us ds as
 |_,_,_,.nil,r=>by cases r;exact⟨_,.nil⟩
 | _,_,_,.cons h q,r=>by
   cases r with
   | cons r1 r2=>
     obtain⟨as,z⟩:=RdD.reads I h r1
     obtain⟨bs,y⟩:=RdDs.reads I q r2
     exact⟨_,.cons z y⟩
end
noncomputable def rEqD (K:Frag) (n:Bool):R2:=fun x y H Q=>∃d e,RdD K H x d/\RdD K H y e/\SeqAt.shaped d=true/\SeqAt.shaped e=true/\Q (.bl (if n then !PyData.eqv d e else PyData.eqv d e)) H
theorem U8d(hu:X.A.units+64<cLine):OpR X (compareOp .Eq) (rEqD X.K false):=by
 intro pins s σ H x y v u Q I rx ry q
 obtain⟨d,e,hx,hy,sd,se,q⟩:=q
 obtain⟨as,z⟩:=hx.reads I rx
 obtain⟨bs,z'⟩:=hy.reads I ry
 exact eq_dataH z z' sd se hu ⟨.bl (PyData.eqv d e),H,I,rfl,q⟩
theorem B6c(hu:X.A.units+64<cLine):OpR X (compareOp .NotEq) (rEqD X.K true):=by
 intro pins s σ H x y v u Q I rx ry q
 obtain⟨d,e,hx,hy,sd,se,q⟩:=q
 obtain⟨as,z⟩:=hx.reads I rx
 obtain⟨bs,z'⟩:=hy.reads I ry
 exact ne_dataH z z' sd se hu ⟨.bl (!PyData.eqv d e),H,I,rfl,q⟩
inductive FPart(X:Cx):Expr ->TE ->Prop where
 |lit {x:Str} {j:Nat} {pos:Pos}:FPart X (.Constant (.str x) j pos) (tC (.str x))
 |int {v:Expr} {tv:TE} {pos:Pos} (h:PE X v tv):FPart X (.FormattedValue v (-1) none pos) (fun σ H Q=>tv σ H fun y H1=>∃i,y= .int i/\i.natAbs.log2<1920/\Q (.str (toString i)) H1)
theorem FPart.pe{e:Expr}{t:TE}(h:FPart X e t):PE X e t:=by
 cases h with
 |lit=>exact C9
 | int h=>
   intro pins s σ H Q I q
   refine FormattedValue_plain (thn (h pins s σ H _ I q) fun u s1 hh_=>?_)
   obtain⟨y,H1,I1,r,i,e,l,q⟩:=hh_
   subst e
   obtain⟨t,rfl⟩:=r
   exact formatField_int_small l ⟨.str (toString i),H1,I1.tok _,⟨_,rfl⟩,q⟩
inductive FParts(X:Cx):List Expr ->(Str ->TE) ->Prop where
 |nil:FParts X [] (fun out _ H Q=>out.length<=sizeLine/\Q (.str out) H)
 |cons {e:Expr} {es:List Expr} {t:TE} {r:Str ->TE} (h:FPart X e t) (hr:FParts X es r):FParts X (e::es) (fun out σ H Q=>t σ H fun x H1=>∃y,x= .str y/\(out++y).length<=sizeLine/\r (out++y) σ H1 Q)
theorem FParts.run{es:List Expr}{t:Str ->TE}(h:FParts X es t):∀(out:Str) (pins:List (Addr×Obj)) (s:Shared) (σ:St) (H:Hp) (Q:VK),Inv X pins σ H s ->t out σ H Q ->
   wpAny (model X.prog X.w) X.A (joinParts out (evalEach es X.env)) (EP X pins σ Q) X.xe s:=by
 induction h with
 | nil=>
   intro out pins s σ H Q I q
   exact joinParts_nil ⟨.str out,H,I.tok _,⟨_,rfl⟩,q.2⟩ q.1
 | @cons e es t r h hr ih=>
   intro out pins s σ H Q I q
   show wpAny _ _ (joinParts out (eval e X.env::evalEach es X.env)) _ _ _
   refine joinParts_cons (thn (h.pe pins s σ H _ I q) fun u s1 hh_=>?_)
   obtain⟨x,H1,I1,rx,y,ey,z,q⟩:=hh_
   subst ey
   obtain⟨t',rfl⟩:=rx
   exact⟨z,ih _ pins s1 σ H1 Q I1 q⟩
theorem J9q{e1 e2:Expr}{es:List Expr}{t:Str ->TE}{pos:Pos}(h:FParts X (e1::e2::es) t):PE X (.JoinedStr (e1::e2::es) pos) (t Str.empty):=by
 intro pins s σ H Q I q
 exact JoinedStr_many (h.run _ pins s σ H Q I q)
end
structure RoomH(k:Nat)(A:Around):Prop where
 dp:A.depth+3*k+5<recursionLimit
 un:A.units+16*k+200<cLine
theorem Room.hm{k:Nat}{A:Around}(r:Room k A)(h:Option Value):RoomH k (A.mark h):=⟨r.dp,r.un⟩
theorem RoomH.mono{j k:Nat}{A:Around}(r:RoomH k A)(h:j<=k):RoomH j A:=⟨by have:=r.dp;omega,by have:=r.un;omega⟩
theorem RoomH.deeper{k:Nat}{A:Around}(r:RoomH (k+1) A)(env:Env):RoomH k (A.deeper env):=
 ⟨by have:=r.dp;show A.depth+1+3*k+5<_;omega,by have:=r.un;show A.units+3+16*k+200<_;omega⟩
theorem RoomH.depth{k:Nat}{A:Around}(r:RoomH k A):A.depth<recursionLimit:=by have:=r.dp;omega
noncomputable def HdH (A:Around) (H:Hp):Prop:=A.handled=none\/∃x o u vs,A.handled=some (.ref x)/\H x=some (.frz o u)/\o.data= .fields vs/\vs[2]?=some .none
structure FnOkH(P:Program)(w:World)(K:Frag)(mg:Str ->Option Value)(base:Heap)(k:Nat)(f:Addr)(fd:FuncData)(ps:List Str)(sp:Sp):Prop where
 len:∀vs H Q E,sp vs H Q E ->vs.length=ps.length
 run:∀(A:Around) (outer:List Env) (s:Shared) (H:Hp) (args:Args) (us:List Value) (vs:List V) (Q:VK),RoomH k A ->Env0 P w K mg base A outer s H ->HdH A H ->BindsTo s fd args (ps.zip us) ->Vals vs us ->sp vs H Q E0 ->
   codeAny (model P w) A (.call (.ref f) args) (CR CX0 outer P w H s Q E0) s
noncomputable abbrev J8y (P:Program) (w:World) (K:Frag) (mg:Str ->Option Value) (base:Heap) (N:List Str) (qual:Str) (scope:Scope) (f:Addr) (cd:Value) (A:Around) (outer:List Env) (s:Shared) (H:Hp):Cx:=
 {Z9 CX0 P w K mg base N qual scope f cd A outer s H E0 with calm:=false,xe:=fun _ _=>False}
theorem Inv.loud{X:Cx}{pins:List (Addr×Obj)}{σ:St}{H:Hp}{s:Shared}{A:Around}{E:Value ->Shared ->Prop}(hA:A.frames=X.A.frames)(I:Inv X pins σ H s):Inv {X with A:=A,calm:=false,xe:=E} pins σ H s:=
 ⟨⟨I.ok.mod,I.ok.kind,I.ok.glob,I.ok.blt,I.ok.above,I.ok.inj,I.ok.has,I.ok.cab,(fun z=>nomatch z),hA.trans I.ok.frames,I.ok.stk,I.ok.exf,I.ok.bs,I.ok.bsz,I.ok.noex,I.ok.exfs,I.ok.funs,I.ok.frf⟩,
   I.os,I.bare,I.base,I.loc,I.cell,I.free,I.freeC,I.pin,I.hok,I.len⟩
noncomputable abbrev quiet (A:Around):Around:={A with handled:=none}
theorem Env0.quiet{P:Program}{w:World}{K:Frag}{mg:Str ->Option Value}{base:Heap}{A:Around}{outer:List Env}{s:Shared}{H:Hp}(e:Env0 P w K mg base A outer s H):Env0 P w K mg base (quiet A) outer s H:=
 ⟨e.frames,e.mod,e.bs,e.bsz,e.funs,e.frf,e.hok,e.bare⟩
section
variable{P:Program}{w:World}{K:Frag}{mg:Str ->Option Value}{base:Heap}
theorem Fun.okH{x qual:Str}{st:Stmt}{f:Addr}{fd:FuncData}{N ps:List Str}{k:Nat}{sp:Sp}(F:Fun K x qual st f fd)(S:FnScope N ps (A1 st))(len:∀vs H Q E,sp vs H Q E ->vs.length=ps.length)
   (hbody:∀(cdv:Value) (A:Around) (outer:List Env) (s:Shared) (H:Hp) (vs:List V) (Q:VK),RoomH k (A.deeper (envOfC qual (A1 st) s.heap.objs.size f cdv)) ->A8j (J8y P w K mg base N qual (A1 st) f cdv A outer s H) ->sp vs H Q E0 ->
     ∃t,PSs (J8y P w K mg base N qual (A1 st) f cdv A outer s H) (C6 st) t/\t {nx:=fun _ H'=>Q .non H',rt:=Q} (A0w N vs) H):FnOkH P w K mg base (k+1) f fd ps sp:=by
 obtain⟨oc,od,kV,doc,pm,an,cdv,ct,osl,rfl,lk,hcd⟩:=F.ex
 refine⟨len,fun A outer s H args us vs Q hr e0 hdh hb r hsp=>?_⟩
 have hl:=len _ _ _ _ hsp
 have KX:K.In s.heap:=e0.mod.kin.keeps fun b o e=>(e0.bs b o e).1
 have lim:s.heap.NoLimit:=e0.mod.nolimit.keeps fun b o e=>(e0.bs b o e).1
 have hkind:∀y∈ps.zip us,(A1 st).names.lookup y.1=some .local\/((A1 st).names.lookup y.1=some .cell/\((cellsFrom (s.heap.objs.size+1) (A1 st).names []).lookup y.1).isSome=true):=fun⟨n,v⟩ hy=>by
   rcases S.par n (List.of_mem_zip hy).1 with q|q
   . exact .inl q
   . exact .inr ⟨q,PySem.W.cellsFrom_some _ _ _ (.inl q)⟩
 refine codeAny_call_function hr.depth (KX _ _ lk) rfl S.co S.gen rfl (PySem.W.codeRec_of KX hcd) (hb _ _ _ _ ?_)
 refine wpAny_newFunctionEnv_cells S.kind hkind fun env he s1 x=>?_
 subst he
 refine⟨lim.keeps x.toInCall.keep,codeAny_func ?_⟩
 obtain⟨t,ht,hq⟩:=hbody cdv A outer s H vs Q (hr.deeper _) hdh hsp
 have I0:Inv (Z9 CX0 P w K mg base N qual (A1 st) f cdv (L2.quiet A) outer s H E0) [] (A0w N vs) H s1:=B6d S rfl e0.quiet hl r x
 have I:Inv (J8y P w K mg base N qual (A1 st) f cdv A outer s H) [] (A0w N vs) H s1:=
   Inv.loud (X:=Z9 CX0 P w K mg base N qual (A1 st) f cdv (L2.quiet A) outer s H E0) (A:=A.deeper (envOfC qual (A1 st) s.heap.objs.size f cdv)) (E:=fun _ _=>False) rfl I0
 refine wpAny_mono (ht [] s1 (A0w N vs) H _ I hq) (fun fl s' hs=>?_) fun e s' hs=>hs.elim
 have fin:∀{σ':St} {H':Hp} {v:V} {u:Value},Inv (J8y P w K mg base N qual (A1 st) f cdv A outer s H) [] σ' H' s' ->RelV v u ->Q v H' ->CE outer P w H s Q u s':=
   fun{σ' H' v u} J rv q=>⟨v,H',J.os,J.bare,J.base,J.hok,rv,q⟩
 cases fl with
 | ret u=>
   obtain⟨v,σ',H',J,rv,q⟩:=hs
   exact fin J rv q
 | next=>
   obtain⟨σ',H',J,q⟩:=hs
   exact fin (v:=V.non) (u:=Value.none) J rfl q
 | brk=>
   obtain⟨_,_,_,q⟩:=hs
   exact False.elim q
 | cont=>
   obtain⟨_,_,_,q⟩:=hs
   exact False.elim q
end
section
variable{X:Cx}{k:Nat}{f:Addr}{fd:FuncData}{ps:List Str}{sp:Sp}{x:Str}{p pos:Pos}{e:Expr}{es:List Expr}{t:TA}
noncomputable def D2w (A:Around) (sp:Sp) (t:TA):TE:=fun σ H Q=>t σ H fun vs H1=>HdH A H1/\sp vs H1 Q E0
theorem U8e(F:FnOkH X.prog X.w X.K X.mg X.base k f fd ps sp)(hr:RoomH k X.A)(hg:Gl X x)(hm:X.mg x=some (.ref f))(hk:PySem.W.keepIn X.K (.ref f)=true)(hb:Binds X.K fd ps [])
   (ha:PA X (e::es) t) (hdb:(x==("__debug__":Str))=false:=by decide) (he:starEach (e::es) X.env=(false,eval e X.env)::starEach es X.env:=by rfl)
   (hpl:(backTo pos (starEach es X.env)).any (·.1)=false:=by rfl):PE X (.Call (.Name x p) (e::es) [] pos) (D2w X.A sp t):=by
 intro pins s σ H Q I h
 refine wpAny_Call_Name_kw (A0h I hg hm ?_ hdb)
 refine PySem.W.callWith_K (h₀:=X.base) I.ok.mod.kin hk (thn (ha pos pins s σ H _ I h) fun us s1 ⟨vs,H1,I1,r,hd,q⟩=>⟨I1.kIn,?_⟩) he hpl
 have hl:(us++ []).length=ps.length:=by rw[List.append_nil, <-r.length];exact F.len _ _ _ _ q
 have hb':=hb s1 us I1.kIn hl
 rw[List.append_nil] at hb'
 refine wpAny_call (codeAny_mono (F.run X.A X.stack s1 H1 ⟨us,[]⟩ us vs Q hr I1.env0 hd hb' r q) fun r s' hq=>?_)
 cases r with
 |error e=>exact False.elim hq
 | ok fl=>
   cases fl with
   |ret u=>exact I1.after hq
   |next=>exact False.elim hq
   |brk=>exact False.elim hq
   |cont=>exact False.elim hq
end
theorem Inv.big{X:Cx}{pins:List (Addr×Obj)}{σ:St}{H:Hp}{s:Shared}(I:Inv X pins σ H s):sysModules<s.heap.objs.size:=by
 have h:mainGlobals<s.heap.objs.size:=(I.mod.glob.keeps I.bk).lt
 exact Nat.lt_trans (by decide) h
theorem U8m{P:Program}{w:World}{H:Hp}(h:Heap)(hb:sysModules<h.objs.size):ObjOk P w H (h.push {cls:= .type "dict",data:= .dict #[]}) h.objs.size (.dK []):=
 ⟨Nat.zero_le _,beq_eq_false_iff_ne.mpr (Ne.symm (Nat.ne_of_lt hb)),[],.nil,Heap.DictOf.new h⟩
noncomputable def Z4s:TE:=fun _ H Q=>∀p,H p=none ->Q (.ref p) (upd H p (.dK []))
theorem V0m{X:Cx}{pos:Pos}:PE X (.Dict [] [] pos) Z4s:=fun pins s σ H Q I h=>
 wpAny_Dict_empty ⟨.ref s.heap.objs.size,_,I.laid (a:=s.heap.objs.size) (o:= .dK []) (t':=s.toks) (fun _ _ q=>Heap.get?_push_of_some _ q) (Nat.le_refl _) (U8m s.heap I.big),rfl,h _ (I.hok.fresh (Nat.le_refl _))⟩
noncomputable abbrev EKF:EK:=fun _ _ _ _=>False
theorem Y8{X:Cx}:G7 X EKF:=fun _ _ _ _ _ _ _ _ _ _ h=>h.elim
structure Def(K:Frag)(mg:Str ->Option Value)(x:Str)(ps:List Str)(st:Stmt)(f:Addr)(fd:FuncData):Prop where
 F:Fun K x x st f fd
 g:mg x=some (.ref f)
 b:Binds K fd ps []
theorem G3{K:Frag}{h:Heap}{mg:Str ->Option Value}{x:Str}{ps:List Str}{st:Stmt}{f:Addr}{oc:Value}{od an:Option Addr}{osl:Array (Option Value)}{kV doc pm cdv ct:Value}(X:K.In h)(G:h.Ns mainGlobals mg)
   (a:nsIn K mainGlobals x=some (some (.ref f))) (l:K.lookup f=some ⟨oc,od,.func (fnOf x x (C8 st) (C6 st) (A1 st) .none kV doc pm an cdv ct),osl⟩) (c:codeIn K cdv x=true) (k:keepIn K (.ref f)=true)
   (hb:∀(kV doc pm:Value) (an:Option Addr) (cdv ct:Value) (us:List Value),us.length=ps.length ->bindArgs (fnOf x x (C8 st) (C6 st) (A1 st) .none kV doc pm an cdv ct) ⟨us,[]⟩=pure (ps.zip us)):
   Def K mg x ps st f (fnOf x x (C8 st) (C6 st) (A1 st) .none kV doc pm an cdv ct):=
 ⟨U4 (st:=st) l c k,mg_of X G a,(U4 (st:=st) l c k).binds hb⟩
theorem V8{c A B:Prop} [Decidable c] (h:¬c) (b:B):if decide c=true then A else B:=by rw[decide_eq_false h];exact U5 b
theorem A1p{c A B:Prop} [Decidable c] (h:c) (a:A):if decide c=true then A else B:=by rw[decide_eq_true h];exact Z2 a
theorem Y5{c A B:Prop} [Decidable c] (a:c ->A) (b:¬c ->B):if decide c=true then A else B:=by
 by_cases h:c
 . exact A1p h (a h)
 . exact V8 h (b h)
noncomputable def Z8r (t:TS):TS:=fun D σ H=>∃J:St ->Hp ->Prop,t {D with nx:=J} σ H/\∀σ' H',J σ' H' ->D.nx σ' H'
theorem D0{X:Cx}{st:Stmt}{t:TS}(h:PS X st t):PS X st (Z8r t):=by
 intro pins s σ H D I q
 obtain⟨J,q,k⟩:=q
 refine thn (h pins s σ H _ I q) fun f s' z=>?_
 cases f with
 |next=>obtain⟨σ',H',I',y⟩:=z;exact⟨σ',H',I',k _ _ y⟩
 |brk=>exact z
 |cont=>exact z
 |ret u=>exact z
theorem ixs{xs:List Int}{i:Int}(h0:0<=i)(h1:i<xs.length):∃v,v∈xs/\atI (xs.map V.int) i=some (.int v):=by
 obtain⟨j,rfl⟩:=Int.eq_ofNat_of_zero_le h0
 have hj:j<xs.length:=by omega
 exact⟨xs[j],List.getElem_mem hj,D9 (by simp[hj])⟩
theorem ixv{xs:List V}{i:Int}(h0:0<=i)(h1:i<xs.length):∃v,v∈xs/\atI xs i=some v:=by
 obtain⟨j,rfl⟩:=Int.eq_ofNat_of_zero_le h0
 have hj:j<xs.length:=by omega
 exact⟨xs[j],List.getElem_mem hj,D9 (by simp[hj])⟩
theorem Same.upd{H:Hp}{p:Addr}{o:HO}(h:H p=none):Same H (L2.upd H p o):=fun b u e=>by rw[D3 (G2 e h)];exact e
theorem D6{n:Nat}(h:n<=1000):n<=sizeLine:=Nat.le_of_lt (Z1 h)
section
variable{X:Cx}{k j:Nat}{f:Addr}{fd:FuncData}{ps:List Str}{sp:Sp}{EH:EK}{x:Str}{st:Stmt}{p pos:Pos}{e:Expr}{es:List Expr}{t:TA}
theorem D8(D:Def X.K X.mg x ps st f fd)(F:FnOk X.prog X.w X.K X.mg X.base (CX1 X.prog X.w) j f fd ps sp)(hr:Room k X.A)(hx:G7 X EH)(ha:PA X (e::es) t)(hj:j<=k:=by decide)(hg:Gl X x:=by rfl)(hex:X.ex=[]:=by rfl)(hdb:(x==("__debug__":Str))=false:=by decide)
   (he:starEach (e::es) X.env=(false,eval e X.env)::starEach es X.env:=by rfl) (hpl:(backTo pos (starEach es X.env)).any (·.1)=false:=by rfl):PE X (.Call (.Name x p) (e::es) [] pos) (D2p sp [] EH t):=
 U9x (F.mono hj) hr hg D.g D.F.kp D.b .nil hx ha hex hdb he hpl
theorem C3d(D:Def X.K X.mg x ps st f fd)(F:FnOk X.prog X.w X.K X.mg X.base (CX1 X.prog X.w) j f fd ps sp)(hr:Room k X.A)(hx:G7 X EH)(hj:j<=k:=by decide)(hg:Gl X x:=by rfl)(hex:X.ex=[]:=by rfl)(hdb:(x==("__debug__":Str))=false:=by decide):
   PE X (.Call (.Name x p) [] [] pos) (D2p sp [] EH B6f):=
 U1a (F.mono hj) hr hg D.g D.F.kp D.b .nil hx hex hdb
theorem pty{n:Str}{T:String}(hm:X.mg n=none)(hv:bootBuiltins n=some (.type T))(hg:Gl X n:=by rfl)(hn:n≠"__name__":=by decide)(hdb:(n==("__debug__":Str))=false:=by decide):PE X (.Name n pos) (tC (.ty T)):=Y5x hg hm hv rfl hn hdb
theorem D2k{n:Str}{C:Addr}(hm:X.mg n=some (.ref C))(hg:Gl X n:=by rfl)(hdb:(n==("__debug__":Str))=false:=by decide):PE X (.Name n pos) (tC (.ref C)):=Y7f hg hm rfl hdb
theorem B3b{a b:Expr}{ta tb:TE}(hm:X.mg "isinstance"=none)(ha:PE X a ta)(hb:PE X b tb)(hg:Gl X "isinstance":=by rfl)
   (h1:starEach [a,b] X.env=(false,eval a X.env)::starEach [b] X.env:=by rfl) (h2:starEach [b] X.env=(false,eval b X.env)::starEach [] X.env:=by rfl) (h3:(backTo pos (starEach [b] X.env)).any (·.1)=false:=by rfl):
   PE X (.Call (.Name "isinstance" p) [a,b] [] pos) (tCB (fun xs H Q=>∃x c cv t b,xs=[x,c]/\U8q c=some cv/\TyE X.K H x t/\kitOne X.K t cv=some b/\Q (.bl b) H) (A4p ta (A4p tb B6f))):=
 V3 G2d hg hm boot_isinstance (A0 ha (A0 hb A7 h2) h1) (he:=h1) (hpl:=h3)
theorem J9m{K:Frag}{a b:Expr}{ta tb:TE}(hK:X.K=K)(hm:X.mg "isinstance"=none)(ha:PE X a ta)(hb:PE X b tb)(hg:Gl X "isinstance":=by rfl)
   (h1:starEach [a,b] X.env=(false,eval a X.env)::starEach [b] X.env:=by rfl) (h2:starEach [b] X.env=(false,eval b X.env)::starEach [] X.env:=by rfl) (h3:(backTo pos (starEach [b] X.env)).any (·.1)=false:=by rfl):
   PE X (.Call (.Name "isinstance" p) [a,b] [] pos) (tCB (fun xs H Q=>∃x c cv t b,xs=[x,c]/\U8q c=some cv/\TyE K H x t/\kitOne K t cv=some b/\Q (.bl b) H) (A4p ta (A4p tb B6f))):=by
 subst hK
 exact B3b hm ha hb hg h1 h2 h3
theorem Z3g(D:Def X.K X.mg x ps st f fd)(F:FnOkH X.prog X.w X.K X.mg X.base j f fd ps sp)(hr:RoomH k X.A)(ha:PA X (e::es) t)(hj:j<=k:=by decide)(hg:Gl X x:=by rfl)(hdb:(x==("__debug__":Str))=false:=by decide)
   (he:starEach (e::es) X.env=(false,eval e X.env)::starEach es X.env:=by rfl) (hpl:(backTo pos (starEach es X.env)).any (·.1)=false:=by rfl):PE X (.Call (.Name x p) (e::es) [] pos) (D2w X.A sp t):=
 U8e ⟨F.len,fun A outer s H args us vs Q hr=>F.run A outer s H args us vs Q (hr.mono hj)⟩ hr hg D.g D.F.kp D.b ha hdb he hpl
end
section
variable{X:Cx}{k j:Nat}{f:Addr}{fd:FuncData}{ps:List Str}{sp:Sp}{x:Str}{st:Stmt}{p pos:Pos}{e:Expr}{es:List Expr}{t:TA}
noncomputable def D2c (a:Addr) (sp:Sp) (t:TA):TE:=fun σ H Q=>t σ H fun vs H1=>(∃o u fs,H1 a=some (.frz o u)/\o.data= .fields fs/\fs[2]?=some .none)/\sp vs H1 Q E0
theorem Y5q{a:Addr}(hA:X.A.handled=some (.ref a))(D:Def X.K X.mg x ps st f fd)(F:FnOkH X.prog X.w X.K X.mg X.base j f fd ps sp)(hr:RoomH k X.A)(ha:PA X (e::es) t)(hj:j<=k:=by decide)(hg:Gl X x:=by rfl)(hdb:(x==("__debug__":Str))=false:=by decide)
   (he:starEach (e::es) X.env=(false,eval e X.env)::starEach es X.env:=by rfl) (hpl:(backTo pos (starEach es X.env)).any (·.1)=false:=by rfl):PE X (.Call (.Name x p) (e::es) [] pos) (D2c a sp t):=by
 have z:D2c a sp t=D2w X.A sp t:=by
   funext σ H Q
   unfold D2c D2w
   congr 1
   funext vs H1
   refine propext ⟨fun⟨⟨o,u,fs,h1,h2,h3⟩,q⟩=>⟨.inr ⟨a,o,u,fs,hA,h1,h2,h3⟩,q⟩,fun⟨h,q⟩=>⟨?_,q⟩⟩
   rcases h with h|⟨x,o,u,fs,h0,h1,h2,h3⟩
   . rw[hA] at h;cases h
   . rw[hA] at h0;cases h0;exact⟨o,u,fs,h1,h2,h3⟩
 rw[z]
 exact Z3g D F hr ha hj hg hdb he hpl
end
structure Mk0(K:Frag)(C:Addr):Prop where
 makes:makesIn K C=true
 init:findIn K (.ref C) "__init__"=some (some (.builtin "object.__init__"))
 kp:keepIn K (.ref C)=true
section
variable{X:Cx}{k j:Nat}{f C:Addr}{fd:FuncData}{ps:List Str}{sp:Sp}{dvs:List V}{ds:List Value}{EH:EK}{x m:Str}{p pos apos:Pos}{e o:Expr}{es:List Expr}{ta:TE}{t:TA}
noncomputable def Z4g (C:Addr):TE:=fun _ H Q=>∀x dx,H x=none ->H dx=none ->dx≠x ->Q (.ref x) (upd (upd H dx (.own x)) x (.ins C dx []))
theorem Y7g{pins:List (Addr×Obj)}{σ:St}{H:Hp}{s:Shared}{Q:VK}(M:Mk0 X.K C)(I:Inv X pins σ H s)(h:Z4g C σ H Q):wpAny (model X.prog X.w) X.A (call (.ref C) []) (EP X pins σ Q) X.xe s:=by
 have hq:=h (s.heap.objs.size+1) s.heap.objs.size (I.hok.fresh (Nat.le_succ _)) (I.hok.fresh (Nat.le_refl _)) (Nat.ne_of_lt (Nat.lt_succ_self _))
 have I2:=Inv.made (C:=C) I
 have Y:=makes_of (M:=model X.prog X.w) I.kIn M.makes
 refine wpAny_call (U1k I.kIn M.makes M.init (fun self=>Looks.of_pure (oi_bind self)) ?_)
 have e2:((s.heap.push emptyDict).push (instObj C s.heap.objs.size)).get? (s.heap.objs.size+1)=some (instObj C s.heap.objs.size):=by
   have:=Heap.get?_push_size (s.heap.push emptyDict) (o:=instObj C s.heap.objs.size) rfl
   rwa[Heap.size_push] at this
 have t1:Looks (model X.prog X.w) ((s.heap.push emptyDict).push (instObj C s.heap.objs.size)) (typeOf (.ref (s.heap.objs.size+1))) (.ref C):=(Looks.ld e2).andThen .now
 have t2:Looks (model X.prog X.w) ((s.heap.push emptyDict).push (instObj C s.heap.objs.size)) (isInstance (.ref (s.heap.objs.size+1)) (.type "object")) true:=t1.andThen (Y.top.keeps fun b o e=>Heap.get?_push_of_some _ (Heap.get?_push_of_some _ e))
 refine codeAny_call_builtin oi_plain entry_oi (@check_slot (model X.prog X.w) _ _ _ "object.__init__" "object" "__init__" (.ref (s.heap.objs.size+1)) [] [] _ oi_kind oi_split t2 (oi_args (.ref (s.heap.objs.size+1))) ?_)
 rw[oi_run]
 exact wpAny_pure (And.intro rfl ⟨V.ref (s.heap.objs.size+1),_,I2,rfl,hq⟩)
theorem A8h(M:Mk0 X.K C)(hg:Gl X x)(hm:X.mg x=some (.ref C))(hdb:(x==("__debug__":Str))=false:=by decide):PE X (.Call (.Name x p) [] [] pos) (Z4g C):=by
 intro pins s σ H Q I h
 refine wpAny_Call_Name_kw (A0h I hg hm ?_ hdb)
 exact callWith_K0 I.kIn M.kp (Y7g M I h)
noncomputable def U7c (C:Addr) (m:Str) (sp:Sp) (dvs:List V) (EH:EK) (ta:TE) (t:TA):TE:=fun σ H Q=>ta σ H fun x H1=>∃a dx fs,x= .ref a/\H1 a=some (.ins C dx fs)/\fs.lookup m=none/\
 t σ H1 fun vs H2=>sp (x::(vs++dvs)) H2 Q (fun C d H'=>EH C d σ H')
theorem C0q{pl:Sem Bool}(he:PE X o ta)(c:Cls X.K C)(hm:Meth X.K C m f)(F:FnOk X.prog X.w X.K X.mg X.base (CX1 X.prog X.w) j f fd ps sp)(hr:Room k X.A)(hb:Binds X.K fd ps ds)(hd:Vals dvs ds)(hx:G7 X EH)(ha:PA X (e::es) t)
   (hj:j<=k:=by decide) (hex:X.ex=[]:=by rfl)
   (hst:starEach (e::es) X.env=(false,eval e X.env)::starEach es X.env:=by rfl) (hpl:(backTo pos (starEach es X.env)).any (·.1)=false:=by rfl)
   (ht:eval (.Call (.Attribute o m apos) (e::es) [] pos) X.env=(do
     let ov<-eval o X.env
     standAt apos.atName
     let(f,first)<-holding [ov] (getMethod ov m pl)
     callWith pos f first (backTo pos (starEach (e::es) X.env)) (backToKw pos (keywordEach [] X.env))):=by rfl):
   PE X (.Call (.Attribute o m apos) (e::es) [] pos) (U7c C m sp dvs EH ta t):=by
 intro pins s σ H Q I h
 refine methodCall_KW (pl:=pl) (thn (he pins s σ H _ I h) fun u s1 hh_=>?_) ht
 obtain⟨x,H1,I1,rx,a,dx,fs,ex,ea,l,q⟩:=hh_
 subst ex
 obtain rfl:u=Value.ref a:=rx
 refine C2c I1 ea c hm l ?_
 refine callWith_K (first:=[.ref a]) (h₀:=X.base) I.ok.mod.kin hm.kp (thn (ha pos pins s1 σ H1 _ I1 q) fun us s2 ⟨vs,H2,I2,r,q2⟩=>⟨I2.kIn,?_⟩) hst hpl
 exact C1e (us:= .ref a::us) (vs:= .ref a::vs) (F.mono hj) hr hb hd hx hex I2 (.cons rfl r) q2
theorem A3e{pl:Sem Bool}(he:PE X o ta)(c:Cls X.K C)(hm:Meth X.K C m f)(F:FnOk X.prog X.w X.K X.mg X.base (CX1 X.prog X.w) j f fd ps sp)(hr:Room k X.A)(hb:Binds X.K fd ps ds)(hd:Vals dvs ds)(hx:G7 X EH)
   (hj:j<=k:=by decide) (hex:X.ex=[]:=by rfl)
   (ht:eval (.Call (.Attribute o m apos) [] [] pos) X.env=(do
     let ov<-eval o X.env
     standAt apos.atName
     let(f,first)<-holding [ov] (getMethod ov m pl)
     callWith pos f first (backTo pos (starEach [] X.env)) (backToKw pos (keywordEach [] X.env))):=by rfl):
   PE X (.Call (.Attribute o m apos) [] [] pos) (U7c C m sp dvs EH ta B6f):=by
 intro pins s σ H Q I h
 refine methodCall_KW (pl:=pl) (thn (he pins s σ H _ I h) fun u s1 hh_=>?_) ht
 obtain⟨x,H1,I1,rx,a,dx,fs,ex,ea,l,q⟩:=hh_
 subst ex
 obtain rfl:u=Value.ref a:=rx
 refine C2c I1 ea c hm l ?_
 exact callWith_K0 (first:=[.ref a]) I1.kIn hm.kp (C1e (us:=[.ref a]) (vs:=[.ref a]) (F.mono hj) hr hb hd hx hex I1 (.cons rfl .nil) q)
noncomputable def Z2e (C:Addr) (sp:Sp) (dvs:List V) (EH:EK) (t:TA):TE:=fun σ H Q=>t σ H fun vs H1=>∀x dx,H1 x=none ->H1 dx=none ->dx≠x ->
 sp (.ref x::(vs++dvs)) (upd (upd H1 dx (.own x)) x (.ins C dx [])) (fun v H2=>v= .non/\Q (.ref x) H2) (fun C d H'=>EH C d σ H')
theorem U2j{pins:List (Addr×Obj)}{σ:St}{H:Hp}{s:Shared}{Q:VK}{us:List Value}{vs:List V}(M:Mk X.K C f)(F:FnOk X.prog X.w X.K X.mg X.base (CX1 X.prog X.w) k f fd ps sp)(hr:Room (k+1) X.A)(hb:Binds X.K fd ps ds)(hd:Vals dvs ds)
   (hx:G7 X EH) (hex:X.ex=[]) (I:Inv X pins σ H s) (r:Vals vs us)
   (h:∀x dx,H x=none ->H dx=none ->dx≠x ->sp (.ref x::(vs++dvs)) (upd (upd H dx (.own x)) x (.ins C dx [])) (fun v H2=>v= .non/\Q (.ref x) H2) (fun C d H'=>EH C d σ H')):
   wpAny (model X.prog X.w) X.A (call (.ref C) us) (EP X pins σ Q) X.xe s:=by
 have hq:=h (s.heap.objs.size+1) s.heap.objs.size (I.hok.fresh (Nat.le_succ _)) (I.hok.fresh (Nat.le_refl _)) (Nat.ne_of_lt (Nat.lt_succ_self _))
 have I2:=Inv.made (C:=C) I
 have r2:Vals (V.ref (s.heap.objs.size+1)::(vs++dvs)) (Value.ref (s.heap.objs.size+1)::(us++ds)):= .cons rfl (r.append hd)
 have hl:(Value.ref (s.heap.objs.size+1)::us++ds).length=ps.length:=by
   have e:=r2.length
   rw[F.len _ _ _ _ hq] at e
   exact e.symm
 refine wpAny_call (G2r (f:=f) I.kIn M.makes M.init (beq_iff_eq.mp M.fn) (codeAny_mono (F.run _ X.stack _ _ ⟨Value.ref (s.heap.objs.size+1)::us,[]⟩ (Value.ref (s.heap.objs.size+1)::(us++ds)) _ _ _ (hr.make C us [])
   (I2.env0.make C us []) (hb _ (Value.ref (s.heap.objs.size+1)::us) I2.kIn hl) r2 hq) fun r s' hq'=>?_))
 cases r with
 |error e=>exact Y6d hx hex I2 hq'
 | ok fl=>
   cases fl with
   | ret u=>
     obtain⟨v,H',I3,rv,ev,q3⟩:=I2.after hq'
     subst ev
     exact⟨rv,⟨V.ref (s.heap.objs.size+1),H',I3,rfl,q3⟩⟩
   |next=>exact False.elim hq'
   |brk=>exact False.elim hq'
   |cont=>exact False.elim hq'
theorem C0k(M:Mk X.K C f)(F:FnOk X.prog X.w X.K X.mg X.base (CX1 X.prog X.w) j f fd ps sp)(hr:Room k X.A)(hm:X.mg x=some (.ref C))(hb:Binds X.K fd ps ds)(hd:Vals dvs ds)(hx:G7 X EH)
   (ha:PA X (e::es) t) (hj:j+1<=k:=by decide) (hg:Gl X x:=by rfl) (hex:X.ex=[]:=by rfl) (hdb:(x==("__debug__":Str))=false:=by decide) (he:starEach (e::es) X.env=(false,eval e X.env)::starEach es X.env:=by rfl) (hpl:(backTo pos (starEach es X.env)).any (·.1)=false:=by rfl):
   PE X (.Call (.Name x p) (e::es) [] pos) (Z2e C sp dvs EH t):=by
 intro pins s σ H Q I h
 refine wpAny_Call_Name_kw (A0h I hg hm ?_ hdb)
 refine callWith_K (h₀:=X.base) I.ok.mod.kin M.kp (thn (ha pos pins s σ H _ I h) fun us s1 ⟨vs,H1,I1,r,q⟩=>⟨I1.kIn,?_⟩) he hpl
 exact U2j M F (hr.mono hj) hb hd hx hex I1 r q
end
theorem Y6x{n:Nat}(h:n<=sizeLine):Builtin.Str.tooLong n=false:=by
 unfold Builtin.Str.tooLong
 exact decide_eq_false (by omega)
section
variable{X:Cx}
theorem J9b:∀{zs:List Str} {us:List Value},Vals (zs.map V.str) us ->∃l:List (Str×Tok),us=strValues l/\l.map (·.1)=zs
 | [],_,r=>by cases r;exact⟨[],rfl,rfl⟩
 | z ::zs,_,r=>by
   cases r with
   | cons h t=>
     obtain⟨l,rfl,e⟩:=J9b t
     obtain⟨k,rfl⟩:=(show∃k,_=Value.str z k from h)
     exact⟨(z,k)::l,rfl,by rw[List.map_cons,e]⟩
noncomputable def A0az (K:Frag):V ->List V ->Hp ->VK ->Prop:=fun x vs H Q=>∃z l zs,x= .str z/\vs=[.ref l]/\SqL K H l (zs.map V.str)/\JoinOk z zs=true/\Q (.str (Txt.join z zs)) H
theorem Y5m:MtR X "str.join" (A0az X.K):=by
 intro pins s σ H x vs v us Q I rx rv h
 obtain⟨z,l,zs,rfl,rfl,hl,ok,q⟩:=h
 obtain⟨t,rfl⟩:=(show∃t,v=Value.str z t from rx)
 obtain⟨u,rfl,ru⟩:=rv.one
 cases ru
 obtain⟨its,r,ht,hz⟩:=I.list hl
 obtain⟨ls,rfl,e⟩:=J9b r
 exact SC.join ht.isList e ok fun t' k=>⟨.str _,H,I.tok _,⟨_,rfl⟩,q⟩
noncomputable def Z9a:TIp:=fun x y H Q=>∃l b xs zs,x= .ref l/\y= .ref b/\H l=some (.lst xs)/\H b=some (.lst zs)/\xs.length+zs.length<=sizeLine/\Q (.ref l) (upd H l (.lst (xs++zs)))
theorem D3g{M:Model}{A:Around}{E:Value ->Shared ->Prop}{s:Shared}{a b:Value}{Q:Value ->Shared ->Prop}(ha:s.TypeIs a "list")(hb:s.TypeIs b "list")
   (hc:wpAny M A (call (.builtin "list.__iadd__") [a,b]) Q E s):wpAny M A (inplaceOp .Add a b) Q E s:=by
 unfold inplaceOp
 refine wpAny_holding ?_
 have hfi:fillsInplaceSlot (.type "list") "add" (Operator.Add== .Add)=pure false:=by
   unfold fillsInplaceSlot
   show(typeLookup (.type "list") (dunderI "add")>>=fun fi=>pure (fi.isSome&& !isSeqSlot fi))=pure false
   rw[F.slot_list_iadd.lookup];rfl
 have hsi:seqSlot? (.type "list") (dunderI "add")=pure (some (.builtin "list.__iadd__")):=by
   unfold seqSlot?
   rw[F.slot_list_iadd.lookup];rfl
 refine wpAny_bind (wpAny_typeOf ha (wpAny_bind (wpAny_of_eq hfi ?_)))
 show wpAny M A (if false=true then _ else _) Q E s
 rw[if_neg Bool.false_ne_true]
 refine wpAny_bind (wpAny_binaryOp1_none (nm:="add") ha hb noFill_list_add ?_)
 refine wpAny_bind (wpAny_of_eq hsi ?_)
 exact wpAny_bind (wpAny_rule hc)
theorem U9u:PIp X .Add Z9a:=by
 intro pins s σ H x y v u Q I rx ry h
 obtain⟨l,b,xs,zs,rfl,rfl,hH,hB,hz,q⟩:=h
 cases rx
 cases ry
 obtain⟨z,its,n,r,hl,e⟩:=I.lstM hH
 obtain⟨z2,its2,n2,r2,hl2,e2⟩:=I.lstM hB
 have hsz:its.toArray.size+its2.toArray.size<=sizeLine:=by rw[List.size_toArray,List.size_toArray];omega
 have hlong:¬(!its.toArray.isEmpty&&Builtin.List.listTooLong (its.toArray.size+its2.toArray.size))=true:=by
   rw[G2c hsz,Bool.and_false]
   exact Bool.false_ne_true
 refine D3g ⟨_,e,rfl⟩ ⟨_,e2,rfl⟩ ?_
 refine call_meets F.slot_list_iadd ⟨_,e,rfl⟩ F.entry_list_iadd (F.args_list_iadd_2 _ _)
   (AutoSeq1.list___iadd___list_list_0 l its.toArray n b its2.toArray n2 hlong (by rw[List.size_toArray];omega) (by omega)) ⟨e,e2,?_⟩
 refine⟨.ref l,_,I.lset (its':=its++its2) hH e (by simp) (r.append r2) ?_,rfl,q⟩
 rw[List.length_append]
 omega
end
structure FunD(K:Frag)(x qual:Str)(st:Stmt)(dV:Value)(f:Addr)(fd:FuncData):Prop where
 ex:∃(oc:Value) (od:Option Addr) (kV doc pm:Value) (an:Option Addr) (cdv ct:Value) (osl:Array (Option Value)),
   fd=fnOf x qual (C8 st) (C6 st) (A1 st) dV kV doc pm an cdv ct/\K.lookup f=some ⟨oc,od,.func fd,osl⟩/\codeIn K cdv qual=true
 kp:keepIn K (.ref f)=true
section
variable{P:Program}{w:World}{K:Frag}{mg:Str ->Option Value}{base:Heap}
theorem FunD.okE{x qual:Str}{st:Stmt}{dV:Value}{f:Addr}{fd:FuncData}{N ps:List Str}{k:Nat}{sp:Sp}(F:FunD K x qual st dV f fd)(S:FnScope N ps (A1 st))(len:∀vs H Q E,sp vs H Q E ->vs.length=ps.length)
   (hbody:∀(X:Cx) (cdv:Value) (A:Around) (outer:List Env) (s:Shared) (H:Hp) (vs:List V) (Q:VK) (E:XK),X=Z9 (CX1 P w) P w K mg base N qual (A1 st) f cdv A outer s H E ->Room k X.A ->G7 X (fun C dd _ H'=>E C dd H') ->sp vs H Q E ->
     ∃t,PSs (Z9 (CX1 P w) P w K mg base N qual (A1 st) f cdv A outer s H E) (C6 st) t/\t {nx:=fun _ H'=>Q .non H',rt:=Q} (A0w N vs) H):FnOk P w K mg base (CX1 P w) (k+1) f fd ps sp:=by
 obtain⟨oc,od,kV,doc,pm,an,cdv,ct,osl,rfl,lk,hc⟩:=F.ex
 exact U6z lk hc S len fun A outer s H vs Q E hr h=>hbody _ cdv A outer s H vs Q E rfl hr B2z h
theorem J8k{x qual:Str}{st:Stmt}{dV:Value}{f:Addr}{oc:Value}{od an:Option Addr}{osl:Array (Option Value)}{kV doc pm cdv ct:Value}(l:K.lookup f=some ⟨oc,od,.func (fnOf x qual (C8 st) (C6 st) (A1 st) dV kV doc pm an cdv ct),osl⟩)
   (c:codeIn K cdv qual=true) (k:keepIn K (.ref f)=true):FunD K x qual st dV f (fnOf x qual (C8 st) (C6 st) (A1 st) dV kV doc pm an cdv ct):=⟨⟨oc,od,kV,doc,pm,an,cdv,ct,osl,rfl,l,c⟩,k⟩
theorem G6n{fd:FuncData}{ps:List Str}{ds:List Value}{T:Addr}{o:Obj}{items:Array Value}{n:Nat}(hd:fd.defaults= .ref T)(ho:K.lookup T=some o)(hs:o.data= .seq items n)
   (h:∀us:List Value,(us++ds).length=ps.length ->∃k,bindArgs fd ⟨us,[]⟩=seqItems? fd.defaults>>=k/\k (some items)=pure (ps.zip (us++ds))):Binds K fd ps ds:=fun s us X hl=>by
 obtain⟨k,h1,h2⟩:=h us hl
 exact binds_K X hd ho hs h1 h2
end
section
variable{X:Cx}{k j:Nat}{f C:Addr}{fd:FuncData}{ps ks:List Str}{sp:Sp}{EH:EK}{x m:Str}{p pos apos:Pos}{e o:Expr}{es:List Expr}{kws:List Keyword}{ta:TE}{t tk:TA}{g:List Value ->List Value ->List Value}{gV:List V ->List V ->List V}
end
section
variable{X:Cx}{K:Frag}{e:Expr}{f:Str}{pos:Pos}{ta:TE}
theorem B3d(h:X.K=K):OpR X (compareOp .In) (rIn K false):=by subst h;exact A4k
end
end L2
namespace TR
open PySem L2 PySem.W PyProof.Rows
structure Own(mg:Str ->Option Value):Prop where
 isi:mg "isinstance"=none
 int_:mg "int"=none
 bool_:mg "bool"=none
 str_:mg "str"=none
 list_:mg "list"=none
 tuple_:mg "tuple"=none
 dict_:mg "dict"=none
 len_:mg "len"=none
 range_:mg "range"=none
 min_:mg "min"=none
 max_:mg "max"=none
 abs_:mg "abs"=none
 any_:mg "any"=none
 all_:mg "all"=none
 sum_:mg "sum"=none
 repr_:mg "repr"=none
 enumerate_:mg "enumerate"=none
 reversed_:mg "reversed"=none
 zip_:mg "zip"=none
 sorted_:mg "sorted"=none
 divmod_:mg "divmod"=none
 set_:mg "set"=none
 ValueError_:mg "ValueError"=none
structure Kit(K:Frag):Prop where
 int_int:kitOne K (.type "int") (.type "int")=some true
 int_bool:kitOne K (.type "int") (.type "bool")=some false
 int_str:kitOne K (.type "int") (.type "str")=some false
 int_list:kitOne K (.type "int") (.type "list")=some false
 int_tuple:kitOne K (.type "int") (.type "tuple")=some false
 int_dict:kitOne K (.type "int") (.type "dict")=some false
 bool_int:kitOne K (.type "bool") (.type "int")=some true
 bool_bool:kitOne K (.type "bool") (.type "bool")=some true
 bool_str:kitOne K (.type "bool") (.type "str")=some false
 bool_list:kitOne K (.type "bool") (.type "list")=some false
 bool_tuple:kitOne K (.type "bool") (.type "tuple")=some false
 bool_dict:kitOne K (.type "bool") (.type "dict")=some false
 str_int:kitOne K (.type "str") (.type "int")=some false
 str_bool:kitOne K (.type "str") (.type "bool")=some false
 str_str:kitOne K (.type "str") (.type "str")=some true
 str_list:kitOne K (.type "str") (.type "list")=some false
 str_tuple:kitOne K (.type "str") (.type "tuple")=some false
 str_dict:kitOne K (.type "str") (.type "dict")=some false
 list_int:kitOne K (.type "list") (.type "int")=some false
 list_bool:kitOne K (.type "list") (.type "bool")=some false
 list_str:kitOne K (.type "list") (.type "str")=some false
 list_list:kitOne K (.type "list") (.type "list")=some true
 list_tuple:kitOne K (.type "list") (.type "tuple")=some false
 list_dict:kitOne K (.type "list") (.type "dict")=some false
 tuple_int:kitOne K (.type "tuple") (.type "int")=some false
 tuple_bool:kitOne K (.type "tuple") (.type "bool")=some false
 tuple_str:kitOne K (.type "tuple") (.type "str")=some false
 tuple_list:kitOne K (.type "tuple") (.type "list")=some false
 tuple_tuple:kitOne K (.type "tuple") (.type "tuple")=some true
 tuple_dict:kitOne K (.type "tuple") (.type "dict")=some false
 dict_int:kitOne K (.type "dict") (.type "int")=some false
 dict_bool:kitOne K (.type "dict") (.type "bool")=some false
 dict_str:kitOne K (.type "dict") (.type "str")=some false
 dict_list:kitOne K (.type "dict") (.type "list")=some false
 dict_tuple:kitOne K (.type "dict") (.type "tuple")=some false
 dict_dict:kitOne K (.type "dict") (.type "dict")=some true
 NoneType_int:kitOne K (.type "NoneType") (.type "int")=some false
 NoneType_bool:kitOne K (.type "NoneType") (.type "bool")=some false
 NoneType_str:kitOne K (.type "NoneType") (.type "str")=some false
 NoneType_list:kitOne K (.type "NoneType") (.type "list")=some false
 NoneType_tuple:kitOne K (.type "NoneType") (.type "tuple")=some false
 NoneType_dict:kitOne K (.type "NoneType") (.type "dict")=some false
theorem scK{N P:List Str}{sc:Scope}(a:sc.kind= .function:=by rfl)(b:sc.isCoroutine=false:=by rfl)(c:sc.isGenerator=false:=by rfl)(d:N.Nodup:=by decide+kernel)(e:N.take P.length=P:=by rfl)(f:∀x∈P,sc.names.lookup x=some .local\/sc.names.lookup x=some .cell:=by decide+kernel)(g:∀y∈sc.names,y.2≠ .free:=by decide+kernel):FnScope N P sc:=⟨a,b,c,d,e,f,g⟩
theorem G3e{K:Frag}{H:Hp}(i:Int):TyE K H (.int i) (.type "int"):= .of (.int i)
theorem tyBl{K:Frag}{H:Hp}(b:Bool):TyE K H (.bl b) (.type "bool"):= .of (.bl b)
theorem C9t{K:Frag}{H:Hp}(z:Str):TyE K H (.str z) (.type "str"):= .of (.str z)
theorem Z9s{K:Frag}{H:Hp}:TyE K H .non (.type "NoneType"):= .of .non
theorem U8k{K:Frag}{H:Hp}{a:Addr}{xs:List V}(h:H a=some (.lst xs)):TyE K H (.ref a) (.type "list"):= .of (.lst h)
theorem V1a{K:Frag}{H:Hp}{a:Addr}{xs:List V}(h:H a=some (.tup xs)):TyE K H (.ref a) (.type "tuple"):= .of (.tup h)
theorem A0aq{K:Frag}{H:Hp}{a:Addr}{xs:List (Key×V)}(h:H a=some (.dK xs)):TyE K H (.ref a) (.type "dict"):= .of (.dK h)
noncomputable def A4q (lo hi:Int) (v:V):Prop:=∃i,v= .int i/\lo<=i/\i<=hi
noncomputable def C6n (K:Frag) (H:Hp) (lo hi:Int) (v:V):Prop:=∃t b1 b2,TyE K H v t/\kitOne K t (.type "int")=some b1/\kitOne K t (.type "bool")=some b2/\((b1&& !b2)=false\/∃i,v= .int i/\(i<lo\/hi<i))
section
variable{K:Frag}{H:Hp}{lo hi:Int}
end
noncomputable def Exc (p:Addr) (H H':Hp):Prop:=∀b o,H b=some o ->b≠p ->H' b=some o
theorem Exc.refl(p:Addr)(H:Hp):Exc p H H:=fun _ _ h _=>h
theorem Exc.trans{p:Addr}{H H1 H2:Hp}(a:Exc p H H1)(b:Exc p H1 H2):Exc p H H2:=fun c o h n=>b c o (a c o h n) n
theorem Exc.upd{p:Addr}{H:Hp}{o:HO}:Exc p H (L2.upd H p o):=fun b u e n=>by rw[D3 n];exact e
theorem Exc.of{p:Addr}{H H':Hp}(s:Same H H'):Exc p H H':=fun b o h _=>s b o h
noncomputable def Has (P:Program) (w:World) (K:Frag) (mg:Str ->Option Value) (base:Heap) (C:Addr) (m:Str) (k:Nat) (ps:List Str) (sp:Sp):Prop:=∃f fd,Meth K C m f/\FnOk P w K mg base (CX1 P w) k f fd ps sp/\Binds K fd ps []
noncomputable def A2f (z:Str) (b:Bool):List Str:=if b then [z] else []
theorem U7e(z:Str)(b:Bool):(List.replicate (if b then(1:Int) else 0).toNat [V.str z]).flatten=(A2f z b).map V.str:=by cases b<;>rfl
noncomputable def U7a:List V ->Hp ->VK ->Prop:=fun xs H Q=>(∃i,xs=[.int i]/\Q (.int i) H)\/∃k,xs=[.bl k]/\Q (.int (if k then 1 else 0)) H
theorem J9u(b:Bool): -(2^63)<=(if b then(1:Int) else 0)/\(if b then(1:Int) else 0)<2^63:=by cases b<;>exact⟨by decide,by decide⟩
theorem Y4q(z:V)(b:Bool): [z].length*(if b then(1:Int) else 0).toNat<=sizeLine:=by cases b<;>exact D6 (by simp)
theorem G2s(z:Str)(b:Bool):((A2f z b).map V.str).length<=1:=by cases b<;>simp[A2f]
theorem J9d{σ:L2.St}{H:Hp}{Q:VK}{x:Str}{b:Bool}{ti:TE}(hi:∀H' (Q':VK),Same H H' ->Q' (.bl b) H' ->ti σ H' Q')
   (k:∀p H',Same H H' ->H p=none ->H' p=some (.lst ((A2f x b).map V.str)) ->Q (.ref p) H'):tOp Y5k (Y6h (A4p (tC (.str x)) B6f)) (tCB U7a (A4p ti B6f)) σ H Q:=by
 refine⟨D6 (by show 1<=1000;decide),fun l nl=>?_⟩
 refine hi _ _ (Same.upd nl) ?_
 refine .inr ⟨b,rfl,?_⟩
 refine⟨l,_,_,rfl,rfl,A9,(J9u b).1,(J9u b).2,Y4q _ b,fun p np=>?_⟩
 rw[U7e]
 exact k p _ ((Same.upd nl).trans (Same.upd np)) ((Same.upd nl).free np) A9
theorem D2y{σ:L2.St}{H:Hp}{Q:VK}{x y:Str}{b c:Bool}{ti tj:TE}(hi:∀H' (Q':VK),Same H H' ->Q' (.bl b) H' ->ti σ H' Q')(hj:∀H' (Q':VK),Same H H' ->Q' (.bl c) H' ->tj σ H' Q')
   (k:∀p H',Same H H' ->H p=none ->H' p=some (.lst ((A2f x b++A2f y c).map V.str)) ->Q (.ref p) H'):
   tOp rCat (tOp Y5k (Y6h (A4p (tC (.str x)) B6f)) (tCB U7a (A4p ti B6f))) (tOp Y5k (Y6h (A4p (tC (.str y)) B6f)) (tCB U7a (A4p tj B6f))) σ H Q:=by
 refine J9d hi fun p1 H1 s1 n1 e1=>?_
 refine J9d (fun H' Q' s q=>hj H' Q' (s1.trans s) q) fun p2 H2 s2 n2 e2=>?_
 refine⟨p1,p2,_,_,rfl,rfl,s2 _ _ e1,e2,?_,fun p np=>?_⟩
 . have a:=G2s x b
   have c:=G2s y c
   exact D6 (by omega)
 . rw[<-List.map_append]
   exact k p _ ((s1.trans s2).trans (Same.upd np)) ((s1.trans s2).free np) A9
structure Fits(K:Frag)(C C1 C2 C3 C4 C5:Addr)(b1 b2 b3 b4 b5:Bool):Prop where
 k:ExcK K C
 h1:kitOne K (.ref C) (.ref C1)=some b1
 h2:kitOne K (.ref C) (.ref C2)=some b2
 h3:kitOne K (.ref C) (.ref C3)=some b3
 h4:kitOne K (.ref C) (.ref C4)=some b4
 h5:kitOne K (.ref C) (.ref C5)=some b5
 hv:kitOne K (.ref C) (.type "ValueError")=some true
structure Errs(mg:Str ->Option Value)(C1 C2 C3 C4 C5:Addr):Prop where
 g1:mg "BadContext"=some (.ref C1)
 g2:mg "BadNumber"=some (.ref C2)
 g3:mg "NoText"=some (.ref C3)
 g4:mg "BadCount"=some (.ref C4)
 g5:mg "Trapped"=some (.ref C5)
noncomputable def D2h (b1 b2 b3 b4 b5:Bool):List Str:=((A2f "context" b1++A2f "number" b2)++(A2f "text" b3++A2f "count" b4))++(A2f "trapped" b5++A2f "bare" false)
noncomputable def Z9v (b1 b2 b3 b4 b5:Bool):Str:=Txt.join "/" (D2h b1 b2 b3 b4 b5)
theorem Y6k(b1 b2 b3 b4 b5:Bool):JoinOk ("/":Str) (D2h b1 b2 b3 b4 b5)=true:=by cases b1<;>cases b2<;>cases b3<;>cases b4<;>cases b5<;>decide+kernel
noncomputable def ExcAt (H:Hp) (a C:Addr) (d:Option Addr):Prop:=∃t T u,H a=some (.frz (Z4 (.ref C) t d T) u)/\∀x,d=some x ->∃fs,H x=some (.xd fs)
theorem ExcAt.same{H H':Hp}{a C:Addr}{d:Option Addr}(h:ExcAt H a C d)(s:Same H H'):ExcAt H' a C d:=by
 obtain⟨t,T,u,e,k⟩:=h
 exact⟨t,T,u,s _ _ e,fun x z=>let⟨fs,q⟩:=k x z;⟨fs,s _ _ q⟩⟩
theorem ExcAt.ty{K:Frag}{H:Hp}{a C:Addr}{d:Option Addr}(h:ExcAt H a C d)(k:ExcK K C):TyE K H (.ref a) (.ref C):=by
 obtain⟨t,T,u,e,q⟩:=h
 cases d with
 |none=>exact .exc e k
 | some x=>
   obtain⟨fs,z⟩:=q x rfl
   exact .excD e z k
theorem B5f{K:Frag}{σ:L2.St}{H0 H':Hp}{Q':VK}{a C R:Addr}{d:Option Addr}{b:Bool}(hσ:σ[0]?=some (some (.ref a)))(ha:ExcAt H0 a C d)(k:ExcK K C)(h:kitOne K (.ref C) (.ref R)=some b)(s:Same H0 H')(q:Q' (.bl b) H'):
   tCB (fun xs H Q=>∃x c cv t b,xs=[x,c]/\U8q c=some cv/\TyE K H x t/\kitOne K t cv=some b/\Q (.bl b) H) (A4p (Z3w 0) (A4p (tC (.ref R)) B6f)) σ H' Q':=
 ⟨_,hσ,_,_,_,_,b,rfl,rfl,(ha.same s).ty k,h,q⟩
theorem len2{us:List Value}(h:us.length=2):∃a b,us=[a,b]:=by
 obtain⟨a,t,rfl⟩:=List.exists_cons_of_length_eq_add_one h
 obtain⟨b,t,rfl⟩:=List.exists_cons_of_length_eq_add_one (Nat.succ.inj h)
 exact⟨a,b,by rw[List.eq_nil_of_length_eq_zero (Nat.succ.inj (Nat.succ.inj h))]⟩
theorem Z3c{us:List Value}(h:us.length=3):∃a b c,us=[a,b,c]:=by
 obtain⟨a,t,rfl⟩:=List.exists_cons_of_length_eq_add_one h
 obtain⟨b,c,e⟩:=len2 (Nat.succ.inj h)
 exact⟨a,b,c,by rw[e]⟩
theorem len4{us:List Value}(h:us.length=4):∃a b c d,us=[a,b,c,d]:=by
 obtain⟨a,t,rfl⟩:=List.exists_cons_of_length_eq_add_one h
 obtain⟨b,c,d,e⟩:=Z3c (Nat.succ.inj h)
 exact⟨a,b,c,d,by rw[e]⟩
theorem len5{us:List Value}(h:us.length=5):∃a b c d e,us=[a,b,c,d,e]:=by
 obtain⟨a,t,rfl⟩:=List.exists_cons_of_length_eq_add_one h
 obtain⟨b,c,d,e,z⟩:=len4 (Nat.succ.inj h)
 exact⟨a,b,c,d,e,by rw[z]⟩
theorem Y4n{us ds:List Value}{n:Nat}(h:(us++ds).length=n):us.length=n-ds.length:=by rw[List.length_append] at h;omega
end TR
namespace L2
open PySem PySem.Spec PyProof.Rows
section
variable{κ:Type} [DecidableEq κ]
end
section
variable{P:Program}{w:World}{H:Hp}{h:Heap}{a:Addr}
end
section
variable{X:Cx}{pins:List (Addr×Obj)}{σ:St}{H:Hp}{s:Shared}{a:Addr}{y v:V}{u r:Value}{o:Option V}{A:Around}{E:Value ->Shared ->Prop}
end
section
variable{X:Cx}{pins:List (Addr×Obj)}{σ:St}{H:Hp}{s:Shared}{a:Addr}{kvs:List (Key×V)}{k:Key}{u:Value}{A:Around}{E:Value ->Shared ->Prop}
end
section
variable{X:Cx}{o i e value:Expr}{pos pos' tpos:Pos}{td ty tv:TE}
end
section
variable{X:Cx}{pos:Pos}
end
end L2
namespace L2
open PySem PySem.Spec PyProof.Rows PySem.W
noncomputable def A4m (F:List Str) (env:Env):List (Str×Addr):=F.map fun x=>(x,(env.cells.lookup x).getD 0)
noncomputable def B3a (js:List Nat) (σ:St):St:=js.map fun j=>(σ[j]?).getD none
noncomputable abbrev Cx.compF (X:Cx) (scope:Scope) (N F:List Str) (C:Addr) (s₀:Shared) (H₀:Hp) (ex:List Addr) (pins:List (Addr×Obj)):Cx:=
 {X with N:=N++F,s₀:=s₀,H₀:=H₀,env:=compEnvC scope (A4m F X.env) C X.env,outer:=X.stack,ex:=ex,fn:=fun _=>false,pn:=pins,xe:=fun _ _=>False}
structure CompScopeF(N F:List Str)(js:List Nat)(sc:Scope)(XN:List Str)(env:Env):Prop where
 kind:sc.kind= .function
 cell:∀y∈sc.names,y.2≠ .cell
 loc:∀y∈sc.names,y.2= .local ->sc.names.lookup y.1=some .local
 nd:(N++F).Nodup
 clos:closureFor sc env=pure (A4m F env)
 fr:∀y∈(relabel sc env).names,y.2= .cell\/y.2= .free ->y.1∈F
 at_:∀(k:Nat) (x:Str),F[k]?=some x ->(∃j:Nat,js[k]?=some j/\XN[j]?=some x)/\(∃c,env.cells.lookup x=some c)/\env.kindOf x=some .cell/\(relabel sc env).names.lookup x=some .cell
 jl:js.length=F.length
noncomputable def G8h (n:Nat) (js:List Nat) (wi:TI) (g:TG) (tc:TT) (te:TE):TE:=fun σ H Q=>wi σ H fun J H1=>∀D,H1 D=none ->
 ∃ (m:Nat) (W:Nat ->List V ->Hp ->Prop),W 0 [] (upd H1 D (.lst []))/\∀i ys H2,W i ys H2 ->i<=m/\H2 D=some (.lst ys)/\((J.stop i H2/\Q (.ref D) H2)\/(i<m/\J.go i H2/\∀x H3,J.yld i H2 x H3 ->
   g x (List.replicate n none++B3a js σ) H3 fun σ4 H4=>tc σ4 H4 fun b H5=>if b=true then te σ4 H5 fun y H6=>H6 D=some (.lst ys)/\ys.length<sizeLine/\W (i+1) (ys++ [y]) (upd H6 D (.lst (ys++ [y]))) else W (i+1) ys H5))
noncomputable def J8z (n:Nat) (js:List Nat) (wi:TI) (g:TG) (te:TE):TE:=fun σ H Q=>wi σ H fun J H1=>∀D,H1 D=none ->
 ∃ (m:Nat) (W:Nat ->List V ->Hp ->Prop),W 0 [] (upd H1 D (.lst []))/\∀i ys H2,W i ys H2 ->i<=m/\H2 D=some (.lst ys)/\((J.stop i H2/\Q (.ref D) H2)\/(i<m/\J.go i H2/\∀x H3,J.yld i H2 x H3 ->
   g x (List.replicate n none++B3a js σ) H3 fun σ4 H4=>te σ4 H4 fun y H6=>H6 D=some (.lst ys)/\ys.length<sizeLine/\W (i+1) (ys++ [y]) (upd H6 D (.lst (ys++ [y])))))
theorem Z3n{F:List Str}{env:Env}{x:Str}{c:Addr}(h:(A4m F env).lookup x=some c):x∈F/\c=(env.cells.lookup x).getD 0:=by
 have:=PySem.mem_of_lookup h
 obtain⟨y,hy,e⟩:=List.mem_map.mp this
 cases e
 exact⟨hy,rfl⟩
theorem V0x{env:Env}{x:Str}:∀{F:List Str},x∈F ->(A4m F env).lookup x=some ((env.cells.lookup x).getD 0)
 | y ::F,h=>by
   show List.lookup x ((y,(env.cells.lookup y).getD 0)::A4m F env)=_
   by_cases e:x=y
   . subst e;simp[List.lookup]
   . have hb:(x==y)=false:=beq_eq_false_iff_ne.mpr e
     rw[List.lookup_cons,hb]
     exact V0x (by rcases List.mem_cons.mp h with z|z;exact absurd z e;exact z)
section
variable{X:Cx}{N F:List Str}{js:List Nat}{scope:Scope}
theorem CompScopeF.sub(S:CompScopeF N F js scope X.N X.env):∀x c,(A4m F X.env).lookup x=some c ->X.env.cells.lookup x=some c:=fun x c z=>by
 obtain⟨hx,rfl⟩:=Z3n z
 obtain⟨k,hk⟩:=List.mem_iff_getElem?.mp hx
 obtain⟨_,⟨c,hc⟩,_⟩:=S.at_ k x hk
 rw[hc];rfl
theorem CompScopeF.has(S:CompScopeF N F js scope X.N X.env){x:Str}(hx:x∈F):∃c,(A4m F X.env).lookup x=some c/\X.env.cells.lookup x=some c:=
 ⟨_,V0x hx,S.sub _ _ (V0x hx)⟩
theorem C9y{pins:List (Addr×Obj)}{σ:St}{H:Hp}{s:Shared}(S:CompScopeF N F js scope X.N X.env)(I:Inv X pins σ H s){h':Heap}{m:Str ->Option Value}{C:Addr}(hc:∀x c v,X.env.cells.lookup x=some c ->s.heap.IsCell c v ->h'.IsCell c v):
   ∀(i:Nat) (x:Str) (v:V),(N++F)[i]?=some x ->(List.replicate N.length none++B3a js σ)[i]?=some (some v) ->∃u,RelV v u/\Look (compEnvC scope (A4m F X.env) C X.env) h' m x u:=by
 intro i x v e1 e2
 by_cases hi:i<N.length
 . rw[List.getElem?_append_left (by simpa using hi),List.getElem?_replicate] at e2
   split at e2<;>cases e2
 . rw[List.getElem?_append_right (by omega)] at e1
   rw[List.getElem?_append_right (by simp;omega)] at e2
   rw[List.length_replicate] at e2
   obtain⟨⟨j,hj,hx⟩,⟨c,hcc⟩,kx,kr⟩:=S.at_ _ x e1
   unfold B3a at e2
   rw[List.getElem?_map,hj] at e2
   have e2:(σ[j]?).getD none=some v:=Option.some.inj e2
   have e3:σ[j]?=some (some v):=by
     cases q:σ[j]? with
     |none=>rw[q] at e2;cases e2
     |some o=>rw[q] at e2;exact congrArg some e2
   obtain⟨m0,_,hl⟩:=I.loc
   obtain⟨u,r,l⟩:=hl j x v hx e3 (.inr (.inl kx))
   refine⟨u,r,.inr ⟨.inl kr,c,?_,?_⟩⟩
   . obtain⟨c',h1,h2⟩:=S.has (List.mem_of_getElem? e1)
     rw[hcc] at h2
     cases h2
     exact h1
   . rcases l with⟨k,_⟩|⟨_,c',h1,h2⟩
     . rw[kx] at k;cases k
     . rw[hcc] at h1
       cases h1
       exact hc x c _ hcc h2
theorem U8p(S:CompScopeF N F js scope X.N X.env)(σ:St):(List.replicate N.length none++B3a js σ:St).length=(N++F).length:=by
 unfold B3a
 rw[List.length_append,List.length_replicate,List.length_map,S.jl,List.length_append]
end
structure CompS(N F:List Str)(sc:Scope):Prop where
 kind:sc.kind= .function
 cell:∀y∈sc.names,y.2≠ .cell
 loc:∀y∈sc.names,y.2= .local ->sc.names.lookup y.1=some .local
 fr:∀y∈sc.names,y.2= .free ->y.1∈F
 nd:(N++F).Nodup
theorem C2j{sc:Scope}{env:Env}{F:List Str}(cell:∀y∈sc.names,y.2≠ .cell)(fr:∀y∈sc.names,y.2= .free ->y.1∈F):∀y∈(relabel sc env).names,y.2= .cell\/y.2= .free ->y.1∈F:=by
 intro y hy h
 obtain⟨⟨n,k⟩,hm,e⟩:=List.mem_map.mp hy
 dsimp only at e
 split at e
 . rename_i hc
   subst e
   simp only[Bool.and_eq_true] at hc
   exact fr (n,k) hm (by simpa using hc.1.1)
 . subst e
   rcases h with h|h
   . exact absurd h (cell (n,k) hm)
   . exact fr (n,k) hm h
theorem CompScopeF.of1{N:List Str}{x:Str}{j:Nat}{sc:Scope}{XN:List Str}{env:Env}(S:CompS N [x] sc)(clos:closureFor sc env=pure (A4m [x] env))(hj:XN[j]?=some x)(hc:∃c,env.cells.lookup x=some c)(hk:env.kindOf x=some .cell)
   (hr:(relabel sc env).names.lookup x=some .cell):CompScopeF N [x] [j] sc XN env:=
 ⟨S.kind,S.cell,S.loc,S.nd,clos,C2j S.cell S.fr,fun k y h=>match k,h with
   |0,h=>by cases h;exact⟨⟨j,rfl,hj⟩,hc,hk,hr⟩
   |k+1,h=>by simp at h,rfl⟩
theorem A2n(z:Str):∀zs:List Str,inV (.str z) (zs.map V.str)=zs.contains z
 | []=>rfl
 | y::zs=>by
   show(eqV (.str y) (.str z)||inV (.str z) (zs.map V.str))=_
   rw[A2n z zs,List.contains_cons]
   show((y==z)||_)=_
   rw[BEq.comm]
theorem flat_strs:∀zs:List Str,(zs.map V.str).all B2p=true
 | []=>rfl
 |_::zs=>flat_strs zs
theorem U8s{K:Frag}{H:Hp}{σ σf:L2.St}{a:Addr}{zs:List Str}{f:Str ->Bool}{tc:TT}{te:TE}{Q:VK}(hl:∀H,SqT K H a (zs.map V.str))(hz:zs.length<=100)
   (ht:∀(z:Str) (H':Hp) (Qb:Bool ->Hp ->Prop),Same H H' ->Qb (f z) H' ->tc (some (.str z)::σf) H' Qb) (he:∀(z:Str) (H':Hp) (Qv:VK),Qv (.str z) H' ->te (some (.str z)::σf) H' Qv)
   (k:∀D H',Same H H' ->H D=none ->H' D=some (.lst ((zs.filter f).map V.str)) ->Q (.ref D) H') {js:List Nat} (hj:B3a js σ=σf):G8h 1 js (iTup K (tC (.ref a))) (U6x 0) tc te σ H Q:=by
 refine⟨a,rfl,⟨_,hl H⟩,fun D hD=>⟨zs.length,fun i ys H2=>i<=zs.length/\ys=((zs.take i).filter f).map V.str/\H2=upd H D (.lst ys),⟨Nat.zero_le _,rfl,rfl⟩,?_⟩⟩
 rintro i ys H2 ⟨hi,rfl,rfl⟩
 refine⟨hi,A9,?_⟩
 have sm:Same H (upd H D (.lst (((zs.take i).filter f).map V.str))):=Same.upd hD
 have lz:(((zs.take i).filter f).map V.str).length<=100:=by
   rw[List.length_map]
   exact Nat.le_trans (List.length_filter_le _ _) (by rw[List.length_take];omega)
 by_cases hlt:i<zs.length
 . refine .inr ⟨hlt,⟨_,V.str zs[i],hl _,by simp[hlt]⟩,fun x H3 y=>?_⟩
   obtain⟨rfl,y⟩:=y
   have ex:x=V.str zs[i]:=by
     have:=y _ (hl _)
     simp[hlt] at this
     exact this.symm
   subst ex
   rw[hj]
   show tc (some (.str zs[i])::σf) _ _
   refine ht _ _ _ sm ?_
   have et:(zs.take (i+1)).filter f=(zs.take i).filter f++(if f zs[i] then [zs[i]] else []):=by
     rw[List.take_succ_eq_append_getElem hlt,List.filter_append]
     congr 1
     cases hb:f zs[i]<;>simp[hb]
   cases hb:f zs[i] with
   | false=>
     refine U5 ⟨hlt,?_,rfl⟩
     rw[et,hb];simp
   | true=>
     refine Z2 (he _ _ _ ⟨A9,Nat.lt_of_le_of_lt lz (Z1 (by decide)),hlt,?_,?_⟩)
     . rw[et,hb];simp
     . rw[Y6n]
 . have e:i=zs.length:=by omega
   subst e
   refine .inl ⟨⟨_,hl _,by simp⟩,k D _ sm hD ?_⟩
   rw[List.take_length]
   exact A9
end L2
namespace L2
open PySem
section
variable{prog:Program}{w:World}{A:Around}{E:Value ->Shared ->Prop}{h:Heap}{g:Array GenState}{d:Drawn}{t:Nat}{os:OsState}
variable{nm q:Str}{C N:Addr}{bs bm bmB:List Value}{hdct:Bool}{sn:List Str}{sub:List Value}{ab:Bool}{col:Option Bool}{dd:Option Addr}{k0 k1 k2 k3 k5:Option Value}{B newId initId:String}
theorem B2n(F:ExcBaseFacts B newId initId bmB)(T:OwnTail h bmB bm){mN:Str ->Option Value}{rest:List Value}{fI:Addr}{oI:Obj}{Q:Fin ->Shared ->Prop}
   (hC:h.get? C=some (excClassObj nm q C N bs bm hdct sn sub ab col dd k0 k1 k2 k3 k5 newId)) (hn:h.Ns N mN) (hi:mN "__init__"=some (.ref fI))
   (hfI:h.get? fI=some oI) (hfc:oI.cls= .type "function")
   (hq:∀h' e,Heap.MadeExcOf h h' e (.ref C) rest ->
     wpAny (model prog w) A (call (.ref fI) (.ref e::rest)) (fun r s'=>r= .none/\Q (.done (.ret (.ref e))) s') E ⟨h',g,d,t,os⟩) (hrest:rest.length<=sizeLine):
   wpAny (model prog w) A (Builtin.«type.__call__» ⟨.ref C :: rest, []⟩) Q E ⟨h, g, d, t, os⟩ := by
 repeat (first|with_reducible refine wpAny_loadPart_at hC ?_|with_reducible refine wpAny_madeBy_exc hC ?_|wp_step)
 refine codeAny_call_builtin_code (Code.quiet_builtin _ F.quiet) (wpAny_check_new_subT F T hC ?_)
 refine codeAny_exc_new_subT F T hC ?_ hrest
 show wpAny _ _ _ _ _ _
 have hC₁:=Heap.get?_push_of_some {cls:= .ref C,data:= .fields #[.ref h.objs.size,.none,.none,.none,.bool false,.none]}
   (Heap.get?_push_of_some {cls:= .type "tuple",data:= .seq rest.toArray} hC)
 have hfI₁:=Heap.get?_push_of_some {cls:= .ref C,data:= .fields #[.ref h.objs.size,.none,.none,.none,.bool false,.none]}
   (Heap.get?_push_of_some {cls:= .type "tuple",data:= .seq rest.toArray} hfI)
 have hn₁:((h.push {cls:= .type "tuple",data:= .seq rest.toArray}).push {cls:= .ref C,data:= .fields #[.ref h.objs.size,.none,.none,.none,.bool false,.none]}).Ns N mN:=
   let⟨o,es,ep,e,r⟩:=hn;⟨o,es,ep,Heap.get?_push_of_some _ (Heap.get?_push_of_some _ e),r⟩
 have hget:((h.push {cls:= .type "tuple",data:= .seq rest.toArray}).push
     {cls:= .ref C,data:= .fields #[.ref h.objs.size,.none,.none,.none,.bool false,.none]}).get? (h.objs.size+1)=some
     {cls:= .ref C,data:= .fields #[.ref h.objs.size,.none,.none,.none,.bool false,.none]}:=by heap_get
 have hcC:(Value.ref C::bm).contains (.ref C)=true:=by simp
 have T₁:=T.keeps (h':=(h.push {cls:= .type "tuple",data:= .seq rest.toArray}).push {cls:= .ref C,data:= .fields #[.ref h.objs.size,.none,.none,.none,.bool false,.none]})
   fun b o e=>Heap.get?_push_of_some _ (Heap.get?_push_of_some _ e)
 unfold isInstance
 repeat (first|with_reducible refine wpAny_loadPart_at hget ?_|(with_reducible refine wpAny_isSubtype_exc hC₁ ?_;rw[hcC])|wp_step)
 show wpAny _ _ (typeLookup (.ref C) _) _ _ _
 refine wpAny_typeLookup_tail hC₁ hn₁ T₁ F.mroIs F.init.lookup ?_
 rw[hi]
 refine wpAny_holding (wpAny_bind ?_)
 unfold bindSpecial
 refine wpAny_bind (wpAny_typeOf (T:="function") ⟨_,hfI₁,hfc⟩ ?_)
 rw[if_pos (by decide)]
 refine wpAny_pure (wpAny_bind (wpAny_mono (hq _ (h.objs.size+1) ⟨fun b o hb=>Heap.get?_push_of_some _ (Heap.get?_push_of_some _ hb),Heap.get?_none_of_le (Nat.le_succ _),h.objs.size,hget,Heap.get?_none_of_le (Nat.le_refl _),?_⟩) (fun r s' hr=>?_) fun _ _ x=>x))
 . exact Heap.get?_push_of_some _ (Heap.get?_push_at rfl rfl)
 . obtain⟨rfl,hQ⟩:=hr
   wp_walk
   exact hQ
theorem C1x(F:ExcBaseFacts B newId initId bmB)(T:OwnTail h bmB bm){mN:Str ->Option Value}{rest:List Value}{fI:Addr}{oI:Obj}{Q:Value ->Shared ->Prop}
   (hC:h.get? C=some (excClassObj nm q C N bs bm hdct sn sub ab col dd k0 k1 k2 k3 k5 newId)) (hn:h.Ns N mN) (hi:mN "__init__"=some (.ref fI))
   (hfI:h.get? fI=some oI) (hfc:oI.cls= .type "function")
   (hq:∀h' e,Heap.MadeExcOf h h' e (.ref C) rest ->
     wpAny (model prog w) (A.under (.builtin "type.__call__" ⟨.ref C::rest,[]⟩)) (call (.ref fI) (.ref e::rest)) (fun r s'=>r= .none/\Q (.ref e) s') E ⟨h',g,d,t,os⟩) (hrest:rest.length<=sizeLine):
   wpAny (model prog w) A (call (.ref C) rest) Q E ⟨h,g,d,t,os⟩:=by
 have f1:=tc_lookup
 have f2:=tc_bind (.ref C)
 have hT:(⟨h,g,d,t,os⟩:Shared).TypeIs (.ref C) "type":=⟨_,hC,rfl⟩
 refine wpAny_call (codeAny_of_tree ?_)
 show wpAny _ _ (callAny (.ref C) _) _ _ _
 repeat (any_goals (first|assumption|with_reducible refine wpAny_loadPart_at hC ?_|wp_step))
 refine⟨rfl,?_⟩
 refine codeAny_call_builtin_at (Code.quiet_builtin _ (by decide+kernel)) entry_typeCall (wpAny_check_type_call_sub hC (B2n (hrest:=hrest) F T hC hn hi hfI hfc fun h' e hm=>?_))
 exact hq h' e hm
end
section
variable{M:Model}{prog:Program}{w:World}{A:Around}{E:Value ->Shared ->Prop}{s:Shared}{env:Env}
variable{nm q:Str}{C N:Addr}{bs bm bmB:List Value}{hdct:Bool}{sn:List Str}{sub:List Value}{ab:Bool}{col:Option Bool}{dd:Option Addr}{k0 k1 k2 k3 k5:Option Value}{B newId initId:String}
theorem A8p{x:Sem Value}{Q:Flow ->Shared ->Prop}(hbase:bm.contains (.type "BaseException")=true)(hh:A.handled=none)
   (h:wpAny M A x (fun v s₁=>∃e t de,v= .ref e/\s₁.heap.get? C=some (excClassObj nm q C N bs bm hdct sn sub ab col dd k0 k1 k2 k3 k5 newId)/\
     s₁.heap.get? e=some {cls:= .ref C,dict:=de,data:= .fields #[.ref t,.none,.none,.none,.bool false,.none]}/\E (.ref e) s₁) E s):
   wpAny M A (raiseStmt env (some x) none) Q E s:=by
 have hcB:(Value.ref C::bm).contains (.type "BaseException")=true:=by rw[List.contains_cons,hbase,Bool.or_true]
 unfold raiseStmt
 refine wpAny_bind (wpAny_mono h (fun v s₁ h₁=>?_) fun _ _ x=>x)
 obtain⟨e,t,de,rfl,hC,he,hE⟩:=h₁
 obtain⟨hp,g,d,tk,os⟩:=s₁
 repeat (first|with_reducible refine wpAny_loadPart_at he ?_|with_reducible refine wpAny_loadPart_at hC ?_|(with_reducible refine wpAny_isSubtype_exc hC ?_;rw[hcB])|wp_step)
 exact wpAny_raiseNew_none hh hE
theorem B6b(F:ExcBaseFacts B newId initId bmB){mN:Str ->Option Value}{x:Str}{np cpos pos:Pos}{args:List Expr}{Q:Flow ->Shared ->Prop}{fI:Addr}{oI:Obj}
   (hbase:bm.contains (.type "BaseException")=true) (hh:A.handled=none) (hplain:(backTo cpos (starEach args env)).any (·.1)=false) (hi:mN "__init__"=some (.ref fI)) (hfc:oI.cls= .type "function")
   (h:wpAny (model prog w) A (eval (.Name x np) env) (fun f s₁=>f= .ref C/\wpAny (model prog w) A (evalArgs (.ref C) true (backTo cpos (starEach args env)) [])
     (fun a s₂=>a.kw=[]/\a.pos.length<=sizeLine/\s₂.heap.get? C=some (excClassObj nm q C N bs bm hdct sn sub ab col dd k0 k1 k2 k3 k5 newId)/\s₂.heap.Ns N mN/\OwnTail s₂.heap bmB bm/\s₂.heap.get? fI=some oI/\
       ∀ h' e,Heap.MadeExcOf s₂.heap h' e (.ref C) a.pos ->wpAny (model prog w) (A.under (.builtin "type.__call__" ⟨.ref C::a.pos,[]⟩)) (call (.ref fI) (.ref e::a.pos))
         (fun r s₃=>r= .none/\s₃.heap.get? C=some (excClassObj nm q C N bs bm hdct sn sub ab col dd k0 k1 k2 k3 k5 newId)/\(∃t de,s₃.heap.get? e=some {cls:= .ref C,dict:=de,data:= .fields #[.ref t,.none,.none,.none,.bool false,.none]})/\E (.ref e) s₃) E {s₂ with heap:=h'}) E s₁) E s):
   wpAny (model prog w) A (exec (.Raise (some (.Call (.Name x np) args [] cpos)) none pos) env) Q E s:=by
 rw[arm_exec_Raise]
 first
   |refine wpAny_bind (wpAny_standAt (A8p (C:=C) (nm:=nm) (q:=q) (N:=N) (bs:=bs) (bm:=bm) (hdct:=hdct) (sn:=sn) (sub:=sub) (ab:=ab) (col:=col) (dd:=dd) (k0:=k0) (k1:=k1) (k2:=k2) (k3:=k3) (k5:=k5) (newId:=newId) hbase hh (wpAny_bind (wpAny_mono (wpAny_Call_ofName (wpAny_mono h (fun f s₁ h₁=>?_) fun _ _ x=>x)) (fun v s₃ h₃=>wpAny_bind (wpAny_standAt (wpAny_pure h₃))) fun _ _ x=>x))))
   |(simp only[evalOpt,Option.map];refine wpAny_bind (wpAny_standAt (A8p (C:=C) (nm:=nm) (q:=q) (N:=N) (bs:=bs) (bm:=bm) (hdct:=hdct) (sn:=sn) (sub:=sub) (ab:=ab) (col:=col) (dd:=dd) (k0:=k0) (k1:=k1) (k2:=k2) (k3:=k3) (k5:=k5) (newId:=newId) hbase hh (wpAny_bind (wpAny_mono (wpAny_Call_ofName (wpAny_mono h (fun f s₁ h₁=>?_) fun _ _ x=>x)) (fun v s₃ h₃=>wpAny_bind (wpAny_standAt (wpAny_pure h₃))) fun _ _ x=>x)))))
 obtain⟨rfl,h₁⟩:=h₁
 unfold callWith
 refine wpAny_bind (wpAny_holding (wpAny_mono h₁ (fun a s₂ h₂=>wpAny_bind (wpAny_standAt ?_)) fun _ _ x=>x))
 obtain⟨apos,akw⟩:=a
 obtain⟨hkw,hlen,hC,hn,T,hf,h₂⟩:=h₂
 obtain rfl:akw=[]:=hkw
 obtain⟨hp,g,d,tk,os⟩:=s₂
 simp only[hplain]
 refine wpAny_bind (wpAny_keeperOf_exc hC ?_)
 refine wpAny_bind (C1x F T hC hn hi hf hfc (fun h' e hm=>wpAny_mono (h₂ h' e hm) (fun r s₃ z=>⟨z.1,wpAny_bind (wpAny_holding (wpAny_point (wpAny_pure ?_)))⟩) fun _ _ x=>x) hlen)
 obtain⟨_,hC3,⟨t,de,he⟩,hE⟩:=z
 exact⟨e,t,de,rfl,hC3,he,hE⟩
end
end L2
namespace L2
open PySem PySem.Spec PyProof.Rows PySem.W
noncomputable abbrev J8w:List Value:=[.type "ValueError",.type "Exception",.type "BaseException",.type "object"]
structure ExcI(K:Frag)(C fI:Addr):Prop where
 cls:∃nm q N bs bm sn sub ab col dd k0 k1 k2 k3 k5,K.lookup C=some (excClassObj nm q C N bs bm true sn sub ab col dd k0 k1 k2 k3 k5 "ValueError.__new__")/\nsOkIn K N=true/\nsIn K N "__init__"=some (some (.ref fI))/\tailIn K J8w bm=true
 fn:∃o,K.lookup fI=some o/\o.cls= .type "function"
 sa:findIn K (.ref C) "__setattr__"=some (some (.builtin "object.__setattr__"))
 ob:mroIn K C (.type "object")=some true
theorem G7y{K:Frag}{h:Heap}{N:Addr}{mg:Str ->Option Value}{n:Str}{v:Value}(X:K.In h)(G:h.Ns N mg)(e:nsIn K N n=some (some v)):mg n=some v:=by
 obtain⟨o,es,ep,ho,hd,_,hf⟩:=G
 unfold nsIn at e
 split at e
 . rename_i c d es' n' sl q
   have:=X _ _ q
   rw[ho] at this
   cases this
   cases hd
   split at e
   . rename_i en he
     cases e
     rw[<-hf]
     unfold nsFind findBy
     rw[<-Array.find?_toList,he]
     rfl
   . split at e<;>cases e
 . cases e
theorem C0r{h:Heap}(self:Value):∀{l:List Value},OwnTail h J8w l ->refuseLoop self "__setattr__" l=pure ()
 |_,.base=>PySem.F.store_ValueError.passes self
 |_,.own _ _ _ t=>by rw[refuseLoop_ref];exact C0r self t
section
variable{prog:Program}{w:World}{A:Around}{s:Shared}{K:Frag}{C e fI:Addr}{t:Addr}{R:Result ->Shared ->Prop}{name:Str}{tk:Tok}{v:Value}
theorem Y4h(X:K.In s.heap)(F:ExcI K C fI)(he:s.heap.get? e=some (Z4 (.ref C) t none .none))(ht:findIn K (.ref C) name=some none)
   (h:∀h' tk' d,(∀b ob,b≠e ->s.heap.get? b=some ob ->h'.get? b=some ob) ->h'.get? e=some (Z4 (.ref C) t (some d) .none) ->h'.Ns1 d (fun y=>if y=name then some v else none) ->s.heap.get? d=none ->d≠e ->
     R (.ok (.ret .none)) {s with heap:=h',toks:=tk'}):
   codeAny (model prog w) A (.call (.builtin "object.__setattr__") ⟨[.ref e,.str name tk,v],[]⟩) R s:=by
 have SF:=PySem.F.store_object
 obtain⟨nm,q,N,bs,bm,sn,sub,ab,col,dd,k0,k1,k2,k3,k5,lC,nO,nI,tl⟩:=F.cls
 have hC:=X _ _ lC
 have I:PySem.W.InstAt s.heap e (Z4 (.ref C) t none .none) C none:=⟨he,rfl,rfl,trivial⟩
 have hc:clsIn K C=some {name:=nm,bases:=bs,mro:= .ref C::bm,ns:=N,qualname:=q,hasDict:=true,slotNames:=sn,subclasses:=sub,abstract:=ab,collection:=col,hasDel:=false}:=by
   unfold clsIn
   rw[lC]
 have sub':Looks (model prog w) s.heap (isInstance (.ref e) (.type "object")) true:=I.type.andThen (looks_mroIn X F.ob)
 refine codeAny_call_builtin SF.slot.plain SF.entry (@check_slot (model prog w) _ _ s "object.__setattr__" "object" "__setattr__" (.ref e) [.str name tk,v] [] _ SF.kind SF.split sub' (SF.args (.ref e) (.str name tk) v) ?_)
 have hm:Looks (model prog w) s.heap (mroOf (.ref C)) (.ref C::bm):=(looks_clsIn X hc).andThen .now
 have L3:Looks (model prog w) s.heap (Builtin.ObjectAttr.storeTaker? none) none:= .now
 rw[osa_eq,refuse_eq]
 refine wpAny_bind (wpAny_bind (I.type.here (wpAny_bind (hm.here ?_))))
 rw[refuseLoop_ref,C0r _ (tail_of_in X tl)]
 refine wpAny_pure (wpAny_bind (I.type.here (wpAny_bind ((looks_findIn X ht).here (wpAny_bind (L3.here ?_))))))
 dsimp only
 refine wpAny_bind (wpAny_pure (wpAny_bind (wpAny_bind (wpAny_loadPart he (wpAny_bind (PySem.W.Looks.here (PySem.W.looks_clsIn X hc) ?_))))))
 have hx₁:(s.heap.push {cls:= .type "dict",data:= .dict #[]}).get? e=some (Z4 (.ref C) t none .none):=Heap.get?_push_of_some _ he
 have hxs:e≠s.heap.objs.size:=Nat.ne_of_lt (Heap.lt_size he)
 show wpAny (model prog w) A.in1 (do
     let d<-alloc {cls:=Value.type "dict",data:=Data.dict #[]}
     update e fun o=>{cls:=o.cls,dict:=some d,data:=o.data,slots:=o.slots}
     pure (some d)) _ _ _
 refine wpAny_bind (wpAny_alloc' ?_)
 refine wpAny_bind (wpAny_update' hx₁ ?_)
 refine wpAny_pure ?_
 have hgd:((s.heap.push {cls:= .type "dict",data:= .dict #[]}).update e fun o=>{cls:=o.cls,dict:=some s.heap.objs.size,data:=o.data,slots:=o.slots}).get? s.heap.objs.size
     =some {cls:= .type "dict",data:= .dict #[]}:=
   (Heap.get?_update_ne _ _ _ _ hxs.symm).trans (Heap.get?_push_at rfl rfl)
 have hnd:((s.heap.push {cls:= .type "dict",data:= .dict #[]}).update e fun o=>{cls:=o.cls,dict:=some s.heap.objs.size,data:=o.data,slots:=o.slots}).Ns s.heap.objs.size (fun _=>none):=
   ⟨_, #[],_,hgd,rfl,fun e he=>absurd he (by simp),fun _=>rfl⟩
 show wpAny _ _ (Builtin.ObjectAttr.storeInDict s.heap.objs.size (.str name tk) name v) _ _ _
 unfold Builtin.ObjectAttr.storeInDict Builtin.ObjectAttr.newKeyGuard
 refine wpAny_bind (wpAny_pure (wpAny_bind (wpAny_nsSet1 (Heap.Ns1.of_empty hnd) fun h' hn' hs=>?_)))
 obtain⟨oD,esD,epD,hoD,hdD,hcD⟩:=hn'.count (Within.cons name v Within.nil)
 refine wpAny_bind (wpAny_lookBehind hoD (by rw[hdD];exact pastItsLine_dict (Nat.le_trans hcD (by rw[List.length_cons,List.length_nil,sizeLine_eq];omega))) ?_)
 have hx':h'.get? e=some (Z4 (.ref C) t (some s.heap.objs.size) .none):=(hs.2 e hxs).trans (Heap.get?_update_self _ hx₁ rfl)
 refine wpAny_pure (h h' _ s.heap.objs.size (fun b ob hbx hb=>?_) hx' hn' (Heap.get?_none_of_le (Nat.le_refl _)) hxs.symm)
 exact(hs.2 b (Nat.ne_of_lt (Heap.lt_size hb))).trans ((Heap.get?_update_ne _ _ _ _ hbx).trans (Heap.get?_push_of_some _ hb))
end
noncomputable def A3q (e C t:Addr) (d:Option Addr):Heap ->Prop:=fun h=>h.get? e=some (Z4 (.ref C) t d .none)
theorem U7y{P:Program}{w:World}{H:Hp}{h:Heap}{e C t:Addr}{d:Option Addr}(q:h.get? e=some (Z4 (.ref C) t d .none)):ObjOk P w H h e (.ext (A3q e C t d)):=
 ⟨q,⟨_,q⟩,fun _ _ z k=>k _ z⟩
section
variable{X:Cx}{pins:List (Addr×Obj)}{σ:St}{H:Hp}{s:Shared}
theorem Inv.trackO{a:Addr}{ho:HO}(I:Inv X pins σ H s)(n:Nw X pins H a)(ok:ObjOk X.prog X.w (upd H a ho) s.heap a ho):Inv X pins σ (upd H a ho) s:=by
 have ne:∀b u,H b=some u ->b≠a:=fun b u z q=>by rw[q,n.un] at z;cases z
 have up:∀b,b≠a ->upd H a ho b=H b:=fun b hb=>D3 hb
 refine⟨I.ok,I.os,I.bare,⟨I.base.keep,I.base.slot,fun b u z m hx=>?_,I.base.there,fun b xs z=>?_,fun b u v z=>?_,fun b ps z=>?_⟩,I.loc,I.cell,?_,fun x c z=>?_,fun p hp=>?_,fun b u z=>?_,I.len⟩
 . rw[up b fun q=>by rw[q,n.old] at z;cases z]
   exact I.base.free b u z m hx
 . have:=I.base.tups b xs z
   rw[up b (ne b _ this)];exact this
 . have:=I.base.frzs b u v z
   rw[up b (ne b _ this)];exact this
 . obtain⟨more,this⟩:=I.base.tbls b ps z
   exact⟨more,by rw[up b (ne b _ this)];exact this⟩
 . rw[up _ (Ne.symm n.loc)];exact I.free
 . rw[up _ (n.cell x c z)];exact I.freeC x c z
 . obtain⟨q1,q2,q3⟩:=I.pin p hp
   exact⟨q1,by rw[up _ (n.pin p hp)];exact q2,q3⟩
 . by_cases hb:b=a
   . subst hb
     rw[A9] at z
     cases z
     exact ok
   . rw[up b hb] at z
     exact(I.hok b u z).stay (fun _ _ _ q=>q) (fun c q=>by rw[up c (ne c _ q)];exact q) (fun c xs q=>by rw[up c (ne c _ q)];exact q)
noncomputable def rem (H:Hp) (a:Addr):Hp:=fun b=>if b=a then none else H b
theorem C2h{a:Addr}:rem H a a=none:=by unfold rem;rw[if_pos rfl]
theorem A5c{a b:Addr}(h:b≠a):rem H a b=H b:=by unfold rem;rw[if_neg h]
theorem Inv.forget{a:Addr}{φ:Heap ->Prop}(I:Inv X pins σ H s)(e:H a=some (.ext φ)):Inv X pins σ (rem H a) s:=by
 have ne:∀b u,H b=some u ->(∀φ,u≠ .ext φ) ->b≠a:=fun b u z q w=>by rw[w,e] at z;cases z;exact q _ rfl
 have non:∀b,H b=none ->rem H a b=none:=fun b z=>by
   by_cases q:b=a
   . rw[q];exact C2h
   . rw[A5c q];exact z
 refine⟨I.ok,I.os,I.bare,⟨I.base.keep,I.base.slot,fun b u z m hx=>non b (I.base.free b u z m hx),I.base.there,fun b xs z=>?_,fun b u v z=>?_,fun b ps z=>?_⟩,I.loc,I.cell,non _ I.free,fun x c z=>non _ (I.freeC x c z),fun p hp=>?_,fun b u z=>?_,I.len⟩
 . have:=I.base.tups b xs z
   rw[A5c (ne b _ this (fun _ q=>nomatch q))];exact this
 . have:=I.base.frzs b u v z
   rw[A5c (ne b _ this (fun _ q=>nomatch q))];exact this
 . obtain⟨more,this⟩:=I.base.tbls b ps z
   exact⟨more,by rw[A5c (ne b _ this (fun _ q=>nomatch q))];exact this⟩
 . obtain⟨q1,q2,q3⟩:=I.pin p hp
   exact⟨q1,non _ q2,q3⟩
 . have hb:b≠a:=fun q=>by rw[q,C2h] at z;cases z
   rw[A5c hb] at z
   exact(I.hok b u z).stay (fun _ _ _ q=>q) (fun c q=>by rw[A5c (ne c _ q (fun _ w=>nomatch w))];exact q) (fun c xs q=>by rw[A5c (ne c _ q (fun _ w=>nomatch w))];exact q)
end
noncomputable def Z8p (C:Addr) (ta tv:TE) (f:Str):TS:=fun D σ H=>tv σ H fun y H1=>ta σ H1 fun x H2=>∃e t,x= .ref e/\H2 e=some (.ext (A3q e C t none))/\
 ∀d,H2 d=none ->d≠e ->D.nx σ (upd (upd H2 e (.ext (A3q e C t (some d)))) d (.xd [(f,y)]))
section
variable{X:Cx}{o value:Expr}{f:Str}{pos pos':Pos}{ta tv:TE}{C fI:Addr}
theorem Y4y(F:ExcI X.K C fI)(hf:findIn X.K (.ref C) f=some none)(ha:PE X o ta)(hv:PE X value tv)(hs:swapsWith value (some (.Attribute o f pos')) pos.line X.env=pure false)(hex:X.ex=[]:=by rfl):
   PS X (.Assign [.Attribute o f pos'] value pos) (Z8p C ta tv f):=by
 intro pins s σ H D I h
 refine plainObj_wpAny_Assign_Attribute (thn (hv pins s σ H _ I h) fun u s1 ⟨y,H1,I1,ry,q⟩=>thn (ha pins s1 σ H1 _ I1 q) fun ov s2 hh_=>?_) hs
 obtain⟨x,H2,I2,rx,e,t,ex,ea,q2⟩:=hh_
 subst ex
 obtain rfl:ov=Value.ref e:=rx
 have he:s2.heap.get? e=some (Z4 (.ref C) t none .none):=(I2.hok e _ ea).1
 refine set_plain I2.kIn (⟨he,rfl,rfl,trivial⟩:PySem.W.InstAt s2.heap e (Z4 (.ref C) t none .none) C none) F.sa (Y4h (s:={s2 with toks:=s2.toks+1}) I2.kIn F he hf fun h' tk' d k1 k2 k3 k4 k5=>?_)
 have nd:H2 d=none:=I2.hok.new k4
 have I3:Inv X pins σ (upd H2 e (.ext (A3q e C t (some d)))) {s2 with heap:=h',toks:=tk'}:=
   I2.write (x:=e) (e:=e) (by rw[ea];exact trivial) (.inl rfl) (fun b u hb z=>k1 b u hb z) ⟨_,k2⟩ (U7y k2)
 have nw:Nw X pins (upd H2 e (.ext (A3q e C t (some d)))) d:=I2.nw hex k4 (by rw[D3 k5];exact nd)
 refine⟨σ,_,I3.trackO (ho:= .xd [(f,y)]) nw ⟨_,k3,fun g=>?_⟩,q2 d nd k5⟩
 show RelO (List.lookup g [(f,y)]) (if g=f then some u else none)
 by_cases z:g=f
 . rw[if_pos z,z]
   have:List.lookup f [(f,y)]=some y:=by simp[List.lookup]
   rw[this];exact ry
 . rw[if_neg z]
   have:List.lookup g [(f,y)]=none:=by
     have hb:(g==f)=false:=beq_eq_false_iff_ne.mpr z
     simp[List.lookup,hb]
   rw[this];exact trivial
end
noncomputable def D3f (C:Addr) (f:Str):Sp:=fun vs H Q _=>∃e t v,vs=[.ref e,v]/\H e=some (.ext (A3q e C t none))/\∀d,H d=none ->d≠e ->Q .non (upd (upd H e (.ext (A3q e C t (some d)))) d (.xd [(f,v)]))
noncomputable def Y5h (C:Addr) (f:Str) (EH:EK) (t:TA):TS:=fun _ σ H=>t σ H fun vs H1=>∃v,vs=[v]/\∀d H2,Same H1 H2 ->H1 d=none ->H2 d=some (.xd [(f,v)]) ->EH (.ref C) (some d) σ H2
section
variable{X:Cx}{x f:Str}{p cpos pos:Pos}{e:Expr}{t:TA}{C fI:Addr}{fdI:FuncData}{ps:List Str}{EH:EK}{j k:Nat}
theorem U0v(hm:X.mg x=some (.ref C))(F:ExcI X.K C fI)(G:FnOk X.prog X.w X.K X.mg X.base CX0 j fI fdI ps (D3f C f))(bI:Binds X.K fdI ps [])(hr:Room k X.A)(hx:G7 X EH)(ha:PA X [e] t)(hj:j+1<=k:=by decide)(hg:Gl X x:=by rfl)(hex:X.ex=[]:=by rfl)
   (hdb:(x==("__debug__":Str))=false:=by decide) (he:starEach [e] X.env=(false,eval e X.env)::starEach [] X.env:=by rfl) (hpl:(backTo cpos (starEach [] X.env)).any (·.1)=false:=by rfl):
   PS X (.Raise (some (.Call (.Name x p) [e] [] cpos)) none pos) (Y5h C f EH t):=by
 intro pins s σ H D I h
 obtain⟨nm,q,N,bs,bm,sn,sub,ab,col,dd,k0,k1,k2,k3,k5,lC,nO,nI,tl⟩:=F.cls
 obtain⟨oI,lI,cI⟩:=F.fn
 have T0:OwnTail X.base J8w bm:=tail_of_in I.ok.mod.kin tl
 have hN0:X.base.Ns N (X.base.nsMap N):= .of_isNs (isNs_of_in I.ok.mod.kin nO)
 have hi0:X.base.nsMap N "__init__"=some (.ref fI):=G7y I.ok.mod.kin hN0 nI
 refine B6b (C:=C) (nm:=nm) (q:=q) (N:=N) (bs:=bs) (bm:=bm) (hdct:=true) (sn:=sn) (sub:=sub) (ab:=ab) (col:=col) (dd:=dd) (k0:=k0) (k1:=k1) (k2:=k2) (k3:=k3) (k5:=k5) (oI:=oI) PySem.F.excBase_ValueError (mN:=X.base.nsMap N) (T0.hasType PySem.F.excBase_ValueError.hasBase) hr.hd
   (by rw[he];show(false||(backTo cpos (starEach [] X.env)).any (·.1))=false;rw[hpl];rfl) hi0 cI (A0h I hg hm ⟨rfl,?_⟩ hdb)
 have ha':=ha cpos pins s σ H _ I h
 rw[he] at ha' ⊢
 refine Calls.evalArgs_plain (wpAny_mono ha' (fun us s2 hh_=>?_) fun _ _ y=>y)
 obtain⟨vs,H1,I1,r,v,ev,z⟩:=hh_
 subst ev
 obtain⟨u,rfl,ru⟩:=r.one
 refine⟨rfl,D6 (by show 1<=1000;decide),I1.kIn _ _ lC,hN0.keeps I1.bk,T0.keeps I1.bk,I1.kIn _ _ lI,fun h' a m=>?_⟩
 obtain⟨t',e1,tn,e2⟩:=m.there
 have I2:Inv X pins σ H1 {s2 with heap:=h'}:=I1.kept (t':=s2.toks) m.keeps
 have na:H1 a=none:=I1.hok.new m.new
 have I3:=I2.trackO (ho:= .ext (A3q a C t' none)) (I1.nw hex m.new na) (U7y e1)
 have sp0:D3f C f [.ref a,v] (upd H1 a (.ext (A3q a C t' none))) (fun v0 H'=>v0= .non/\∃d,H1 d=none/\d≠a/\H'=upd (upd (upd H1 a (.ext (A3q a C t' none))) a (.ext (A3q a C t' (some d)))) d (.xd [(f,v)])) E0:=
   ⟨a,t',v,rfl,A9,fun d nd nda=>⟨rfl,d,by rw[D3 nda] at nd;exact nd,nda,rfl⟩⟩
 have rr:Vals [.ref a,v] [.ref a,u]:= .cons rfl (.cons ru .nil)
 have hl:([Value.ref a,u]++ []).length=ps.length:=by
   have:=G.len _ _ _ _ sp0
   rw[<-this];rfl
 refine wpAny_call (codeAny_mono (G.run _ X.stack _ _ ⟨[.ref a,u],[]⟩ ([.ref a,u]++ []) [.ref a,v] _ E0 ((hr.mono hj).make C [u] []) (I3.env0.make C [u] []) (bI _ [.ref a,u] I3.kIn hl) rr sp0) fun r s' hq=>?_)
 cases r with
 |error e=>exact hq.elim
 | ok fl=>
   cases fl with
   | ret u0=>
     obtain⟨v0,H',I4,rv,ev,d,nd,nda,eH⟩:=I3.after hq
     subst ev eH
     have ea:(upd (upd (upd H1 a (.ext (A3q a C t' none))) a (.ext (A3q a C t' (some d)))) d (.xd [(f,v)])) a=some (.ext (A3q a C t' (some d))):=by
       rw[D3 (Ne.symm nda),A9]
     have g1:s'.heap.get? a=some (Z4 (.ref C) t' (some d) .none):=(I4.hok a _ ea).1
     refine⟨rv,I4.kIn _ _ lC,⟨t',some d,g1⟩,?_⟩
     refine hx pins σ _ s' a t' (.ref C) (some d) (I4.forget ea) ⟨I1.nw hex m.new C2h,.none,g1,.inl rfl,fun T z=>nomatch z⟩ (z d _ (fun b ob q=>?_) nd ?_)
     . have nb:b≠a:=G2 q na
       have nbd:b≠d:=G2 q nd
       rw[A5c nb,D3 nbd,D3 nb,D3 nb]
       exact q
     . rw[A5c nda,A9]
   |next=>exact hq.elim
   |brk=>exact hq.elim
   |cont=>exact hq.elim
end
theorem V0n{prog:Program}{w:World}{A:Around}{E:Value ->Shared ->Prop}{s:Shared}{K:Frag}{a C:Addr}{oa:Obj}{od:Option Obj}{name:Str}{v:Value}{b:Bool}{Q:Value ->Shared ->Prop}(F:ExcK K C)(X:K.In s.heap)(I:PySem.W.InstAt s.heap a oa C od)
   (hf:findObj K C od name=some (.value v)) (hh:handedIn v=true) (h:Q v {s with toks:=s.toks+1}):wpAny (model prog w) A (getAttr (.ref a) name b) Q E s:=by
 obtain⟨hp,g,d,t,os⟩:=s
 have L0:=I.type (M:=model prog w)
 have L1:=looks_findIn (M:=model prog w) X F.ga
 have L2:=looks_findIn (M:=model prog w) X F.gh
 have L3:Looks (model prog w) hp (isInstance (.ref a) (.type "BaseException")) true:=L0.andThen (looks_subIn X F.be)
 have L4:=looks_find (M:=model prog w) X I hf
 have hk:builtinKind "BaseException.__getattribute__"=some .slot:=by decide+kernel
 have hsplit:splitId "BaseException.__getattribute__"=some ("BaseException","__getattribute__"):=by decide+kernel
 have hargs:=PySem.F.args_bexc_ga (.ref a) (.str name t)
 have hb:=PySem.F.attr_ValueError.ga.bind (.ref a)
 unfold getAttr getAttrBy
 refine wpAny_bind (wpAny_mkText (wpAny_holding (wpAny_bind (L0.at (wpAny_bind (L1.at ?_))))))
 dsimp only
 rw[if_neg (show¬((onTheHeap (Value.ref C)&&Value.builtin "BaseException.__getattribute__"==Value.builtin "object.__getattribute__")=true) by
   rw[show(Value.builtin "BaseException.__getattribute__"==Value.builtin "object.__getattribute__")=false by decide+kernel,Bool.and_false];exact Bool.false_ne_true)]
 unfold getAttrByItsOwn
 refine wpAny_bind (m:=hookBefore (.ref C)) (L2.at ?_)
 refine wpAny_bind (wpAny_attempt (wpAny_holding ?_))
 unfold callGetattribute
 rw[if_neg (show¬((b&&onTheHeap (Value.builtin "BaseException.__getattribute__"))=true) by
   rw[show onTheHeap (Value.builtin "BaseException.__getattribute__")=false from rfl,Bool.and_false];exact Bool.false_ne_true)]
 unfold boundAndCalled
 rw[hb]
 refine wpAny_bind (wpAny_pure ?_)
 refine wpAny_call (codeAny_call_builtin PySem.F.attr_ValueError.ga.plain PySem.F.entry_bexc_ga ?_)
 have chk:∀{A':Around} {Q':Unit ->Shared ->Prop} {E':Value ->Shared ->Prop},Q' () ⟨hp,g,d,t+1,os⟩ ->wpAny (model prog w) A' (checkBuiltinCall "BaseException.__getattribute__" ⟨[.ref a,.str name t],[]⟩) Q' E' ⟨hp,g,d,t+1,os⟩:=by
   intro A' Q' E' hq
   simp only[checkBuiltinCall,hk,hsplit]
   refine wpAny_bind ?_
   refine L3.at ?_
   repeat (first|assumption|wp_step)
 refine chk ?_
 show wpAny _ _ (Builtin.«object.__getattribute__» ⟨[.ref a, .str name t], []⟩) _ _ _
 unfold Builtin.«object.__getattribute__»
 refine wpAny_bind (wpAny_pure ?_)
 refine wpAny_bind (wpAny_pure ?_)
 refine wpAny_bind (L0.at (wpAny_bind (L4.at ?_)))
 dsimp only
 refine wpAny_pure ?_
 exact handed_on hh h
noncomputable def Z1t (K:Frag) (ta:TE) (f:Str):TE:=fun σ H Q=>ta σ H fun x H1=>∃a C t T d u fs v,x= .ref a/\H1 a=some (.frz (Z4 (.ref C) t (some d) T) u)/\H1 d=some (.xd fs)/\ExcK K C/\(∃cd,clsIn K C=some cd/\cd.hasDict=true)/\findIn K (.ref C) f=some none/\fs.lookup f=some v/\Q v H1
section
variable{X:Cx}{e:Expr}{f:Str}{pos:Pos}{ta:TE}
theorem Y4u(he:PE X e ta)(hb:attributeBase e f X.env (eval e X.env)=eval e X.env):PE X (.Attribute e f pos) (Z1t X.K ta f):=by
 intro pins s σ H Q I h
 refine J8a hb (thn (he pins s σ H _ I h) fun u s1 hh_=>?_)
 obtain⟨x,H1,I1,rx,a,C,t,T,d,u0,fs,v,ex,ea,hd,k,⟨cd,hc,hD⟩,hn,l,q⟩:=hh_
 subst ex
 obtain rfl:u=Value.ref a:=rx
 have o1:s1.heap.get? a=some (Z4 (.ref C) t (some d) T):=(I1.hok a _ ea).1
 obtain⟨mA,nA,rA⟩:=(show∃mA,s1.heap.Ns1 d mA/\∀f,RelO (fs.lookup f) (mA f) from I1.hok d _ hd)
 obtain⟨od,o2,lk⟩:=B6r nA
 obtain⟨uv,hu,ru⟩:=RelO.some_of (v:=v) (o:=mA f) (by rw[<-l];exact rA f)
 have J:PySem.W.InstAt s1.heap a (Z4 (.ref C) t (some d) T) C (some od):=⟨o1,rfl,rfl,o2⟩
 have hf:findObj X.K C (some od) f=some (.value uv):=by
   unfold findObj
   rw[hc,Option.bind_some,hn,Option.bind_some]
   show((PySem.W.ownOf cd (some od) f).bind _)=_
   unfold PySem.W.ownOf
   rw[hD,if_pos rfl]
   show((lookIn f od).bind _)=_
   rw[lk f,hu]
   rfl
 exact V0n k I1.kIn J hf (D0g ru) ⟨v,H1,I1.tok _,ru,q⟩
end
noncomputable def A8v (z:Str) (n:Int):Str:=if n<1 then Str.empty else if(n==1||z.length==0)=true then z else⟨(List.replicate n.toNat z.cps).foldl (· ++ ·) #[]⟩
noncomputable def Z2v:R2:=fun x y H Q=>∃z n,x= .str z/\y= .int n/\ -(2^63)<=n/\n<2^63/\z.length*n.toNat<=sizeLine/\Q (.str (A8v z n)) H
theorem C9v(z:Array Nat):∀(k:Nat) (acc:Array Nat),((List.replicate k z).foldl (· ++ ·) acc).toList=acc.toList++(List.replicate k z.toList).flatten
 |0,acc=>by simp
 | k+1,acc=>by
   rw[List.replicate_succ,List.foldl_cons,C9v z k,Array.toList_append,List.replicate_succ,List.flatten_cons,List.append_assoc]
theorem A1h(z:Str):z.cps.toList.length=z.length:=Array.length_toList
theorem C0h(z:Str)(n:Int):(A8v z n).cps.toList=(List.replicate n.toNat z.cps.toList).flatten:=by
 unfold A8v
 split
 . have:n.toNat=0:=by omega
   rw[this];rfl
 . split
   . rename_i h1 h2
     rcases Bool.or_eq_true _ _|>.mp h2 with h|h
     . have:n=1:=by simpa using h
       subst this
       simp
     . have e:z.length=0:=by simpa using h
       have e2:z.cps.toList=[]:=List.eq_nil_of_length_eq_zero (by rw[A1h];exact e)
       rw[e2]
       have:∀k:Nat,(List.replicate k ([]:List Nat)).flatten=[]:=fun k=>by simp
       rw[this]
   . show((List.replicate n.toNat z.cps).foldl (· ++ ·) #[]).toList=_
     rw[C9v]
     rfl
theorem C2s(z:Str)(n:Int):(A8v z n).length=n.toNat*z.length:=by
 rw[<-A1h,C0h,J8m,A1h]
section
variable{X:Cx}
theorem G7t:OpR X (binaryOp .Mult) Z2v:=by
 intro pins s σ H x y v u Q I rx ry h
 obtain⟨z,n,rfl,rfl,h1,h2,hz,q⟩:=h
 obtain⟨t,rfl⟩:=rx
 obtain⟨t',rfl⟩:=ry
 have lo:¬n< -(2^63:Int):=by omega
 have hi:¬n>=(2^63:Int):=by omega
 have hl:=C2s z n
 have hs:(A8v z n).length<=sizeLine:=by rw[hl,Nat.mul_comm];exact hz
 refine PySem.P.mul_str (by rw[decide_eq_false lo,decide_eq_false hi];rfl) (fun n1 n2=>?_) (fun n1 n2=>Y6x hz) ?_
 . intro g
   have p:0<n:=by omega
   have e:((z.length*n.toNat:Nat):Int)=(z.length:Int)*n:=by rw[Int.natCast_mul,Int.toNat_of_nonneg (by omega)]
   have c:((z.length*n.toNat:Nat):Int)<=(sizeLine:Nat):=Int.ofNat_le.mpr hz
   have k:(sizeLine:Nat)<=2^63-1:=by decide
   have k':((sizeLine:Nat):Int)<=(2^63-1:Int):=by
     have:=Int.ofNat_le.mpr k
     exact this
   have:(z.length:Int)<=(2^63-1)/n:=(Int.le_ediv_iff_mul_le p).mpr (by omega)
   omega
 . unfold A8v at q hs
   split
   . rw[if_pos (by assumption)] at q
     exact⟨by decide,.str _,H,I.tok _,⟨_,rfl⟩,q⟩
   . rw[if_neg (by assumption)] at q hs
     split
     . rw[if_pos (by assumption)] at q
       exact⟨.str _,H,I,⟨_,rfl⟩,q⟩
     . rw[if_neg (by assumption)] at q hs
       exact⟨hs,.str _,H,I.tok _,⟨_,rfl⟩,q⟩
theorem C6p:A7y X (.type "int") (fun xs H Q=>∃z n,xs=[.str z]/\PySem.intText? z=some n/\z.length<=640/\Q (.int n) H):=by
 intro pins s σ H xs us Q I r h
 obtain⟨z,n,rfl,h1,h2,q⟩:=h
 obtain⟨u,rfl,t,rfl⟩:=C1y r
 exact KIN.call_text h1 h2 ⟨.int n,H,I.tok _,⟨_,rfl⟩,q⟩
end
noncomputable def U1p (n:Nat):Str:=("1":Str)++A8v ("0":Str) (n:Int)
theorem U0w(n:Nat):(List.replicate n [48]).flatten=List.replicate n 48:=by
 induction n with
 |zero=>rfl
 |succ n ih=>rw[List.replicate_succ,List.flatten_cons,ih,List.replicate_succ];rfl
theorem B1z(n:Nat):(U1p n).cps.toList=49::List.replicate n 48:=by
 unfold U1p
 show(("1":Str).cps++(A8v ("0":Str) (n:Int)).cps).toList=_
 rw[Array.toList_append,C0h]
 have a:("1":Str).cps.toList=[49]:=by decide+kernel
 have b:("0":Str).cps.toList=[48]:=by decide+kernel
 rw[a,b]
 show [49]++(List.replicate n [48]).flatten=_
 rw[U0w]
 rfl
theorem G2t(n:Nat):(U1p n).length=n+1:=by
 rw[<-A1h,B1z]
 simp
theorem G7c(n:Nat):∀a:Nat,(List.replicate n 48).foldl (fun acc c=>acc*10+(c-48)) a=a*10^n:=by
 induction n with
 |zero=>intro a;simp
 | succ n ih=>
   intro a
   rw[List.replicate_succ,List.foldl_cons,ih,Nat.pow_succ]
   show(a*10+0)*10^n=_
   rw[Nat.add_zero,Nat.mul_assoc,Nat.mul_comm 10]
theorem U8z(n:Nat)(h:n<=600):PySem.intText? (U1p n)=some ((10^n:Nat):Int):=by
 have e:PySem.NumText.digitsVal (U1p n).cps.toList=10^n:=by
   rw[B1z]
   unfold PySem.NumText.digitsVal
   rw[List.foldl_cons,G7c]
   show(0*10+1)*10^n=_
   omega
 rw[<-e]
 refine PySem.intText_digits ?_ ?_ ?_
 . rw[B1z]
   intro c hc
   rcases List.mem_cons.mp hc with rfl|hc
   . exact⟨by decide,by decide⟩
   . obtain⟨_,rfl⟩:=List.mem_replicate.mp hc
     exact⟨by decide,by decide⟩
 . rw[B1z];exact fun z=>nomatch z
 . rw[G2t];omega
section
variable{X:Cx}
theorem U9b(hc:X.A.handled=none):A7y X (.builtin "all") (fun xs H Q=>∃(l:Addr) (bs:List Bool),xs=[.ref l]/\SqL X.K H l (bs.map V.bl)/\Q (.bl (bs.all id)) H):=by
 intro pins s σ H xs us Q I r h
 obtain⟨l,bs,rfl,hl,q⟩:=h
 obtain⟨u,rfl,ru⟩:=Vals.one r
 cases ru
 obtain⟨its,rv,p,hz⟩:=I.list hl
 obtain⟨o,e,_⟩:=id p.isList
 have hlt:l<s.heap.objs.size:=Heap.lt_size e
 have hlen:its.length=bs.length:=by rw[<-rv.length,List.length_map]
 refine call_all_walk (wpAny_pyIter_list p.isList ?_)
 refine⟨s.heap.objs.size,[s.heap.objs.size,l],[s.heap.objs.size],its.toArray.size,_,_,fun i=>(bs[i]?).getD true,rfl,Walks.list (A:=X.A.in1) hc _ l (Nat.ne_of_lt hlt) its.toArray,⟨⟨_,Heap.get?_push_size _ rfl,rfl,rfl⟩,p.isList.push _⟩,fun i v s' Q' E' hP hQ=>?_,fun h' tk hk=>?_⟩
 . have hP:its[i]?=some v:=by simpa using hP
   have hi:i<bs.length:=by rw[<-hlen];exact(List.getElem?_eq_some_iff.mp hP).1
   obtain⟨u',hu',ru'⟩:=rv.get (i:=i) (x:=V.bl bs[i]) (by simp[hi])
   rw[hP] at hu'
   cases hu'
   cases ru'
   have z:(bs[i]?).getD true=bs[i]:=by simp[hi]
   dsimp only at hQ
   rw[z] at hQ
   exact wpAny_truthy_bool hQ
 . have z:((List.range its.toArray.size).all fun i=>(bs[i]?).getD true)=bs.all id:=by
     rw[List.size_toArray,hlen]
     exact LSm.range_all bs
   rw[z]
   exact⟨.bl (bs.all id),H,I.kept fun b x e=>hk b x (fun hm=>by rw[List.mem_singleton.mp hm] at e;exact Nat.lt_irrefl _ (Heap.lt_size e)) (Heap.get?_push_of_some _ e),rfl,q⟩
noncomputable def Z9d:V ->List V ->Hp ->VK ->Prop:=fun x vs H Q=>∃i,x= .int i/\vs=[]/\Q (.int ((Builtin.Int.intBits i:Nat):Int)) H
theorem C6m:MtR X "int.bit_length" Z9d:=by
 intro pins s σ H x xs v us Q I rx rs h
 obtain⟨i,rfl,rfl,q⟩:=h
 obtain⟨t,rfl⟩:=rx
 cases rs
 exact call_int_bit_length ⟨.int _,H,I.tok _,⟨_,rfl⟩,q⟩
end
noncomputable def tOrI (ta tb:TE):TE:=fun σ H Q=>ta σ H fun x H1=>∃i,x= .int i/\if i=0 then tb σ H1 Q else Q (.int i) H1
section
variable{X:Cx}{a b:Expr}{rest:List Expr}{pos:Pos}{ta tb:TE}
theorem V0f(ha:PE X a ta)(hb:PE X (.BoolOp .Or (b::rest) pos) tb):PE X (.BoolOp .Or (a::b::rest) pos) (tOrI ta tb):=by
 intro pins s σ H Q I h
 refine BoolOp_or (thn (ha pins s σ H _ I h) fun v s1 hh_=>?_)
 obtain⟨x,H1,I1,r1,q1⟩:=hh_
 obtain⟨i,rfl,q1⟩:=q1
 obtain⟨t,rfl⟩:=r1
 refine PySem.P.truthy_int ?_
 by_cases hi:i=0
 . rw[if_pos hi] at q1
   subst hi
   exact hb pins s1 σ H1 Q I1 q1
 . rw[if_neg hi] at q1
   rw[show(i !=0)=true by simpa using hi]
   exact⟨.int i,H1,I1,⟨_,rfl⟩,q1⟩
end
section
variable{X:Cx}{j k:Nat}{f C:Addr}{fd:FuncData}{ps:List Str}{sp:Sp}{dvs:List V}{ds:List Value}{x m:Str}{p pos apos:Pos}{e o:Expr}{es:List Expr}{ta:TE}{t:TA}{st:Stmt}
end
section
variable{X:Cx}{N F:List Str}{js:List Nat}{scope:Scope}
theorem D0r{pins:List (Addr×Obj)}{σ:St}{H:Hp}{s:Shared}{fp:List Addr}{h':Heap}(S:CompScopeF N F js scope X.N X.env)(I:Inv X pins σ H s)(hf:∀b∈fp,B3j X pins H b)(hit:∀b∈fp,∃o,s.heap.get? b=some o)(hnb:∀b∈fp,X.base.get? b=none)
   (hns:h'.Ns s.heap.objs.size (fun _=>none)) (hsb:∀b o,s.heap.get? b=some o ->h'.get? b=some o) {tk:Nat}:
   Inv (X.compF scope N F s.heap.objs.size s H fp (X.pn++pins)) [] (List.replicate N.length none++B3a js σ) H {s with heap:=h',toks:=tk}:=by
 have ck:∀c v,s.heap.IsCell c v ->h'.IsCell c v:=fun c v ⟨o,e,d⟩=>⟨o,hsb _ _ e,d⟩
 have inF:∀x,((compEnvC scope (A4m F X.env) s.heap.objs.size X.env).kindOf x=some .cell\/(compEnvC scope (A4m F X.env) s.heap.objs.size X.env).kindOf x=some .free) ->x∈F:=by
   intro x z
   have z:(relabel scope X.env).names.lookup x=some .cell\/(relabel scope X.env).names.lookup x=some .free:=z
   rcases z with z|z
   . exact S.fr _ (PySem.mem_of_lookup z) (.inl rfl)
   . exact S.fr _ (PySem.mem_of_lookup z) (.inr rfl)
 refine⟨⟨I.ok.mod,S.kind,I.ok.glob,I.ok.blt,Nat.le_refl _,fun x y c z z'=>I.ok.inj x y c (S.sub x c z) (S.sub y c z'),fun x z=>?_,fun x c z _=>(nomatch z),I.ok.hd,I.ok.frames,.inl rfl,fun b hb=>?_,I.bs,Nat.le_trans I.ok.bsz I.sz,fun b o e hb=>?_,fun b hb hfs=>?_,I.stack,I.stkFree⟩,
   rfl,I.bare,Un.kept hsb,⟨_,hns,fun i x v e1 e2 e3=>C9y S I (fun x c v _ z=>ck c v z) i x v e1 e2⟩,fun x c z=>?_,I.hok.fresh (Nat.le_refl _),fun x c z=>I.freeC x c (S.sub x c z),fun p hp=>?_,I.hok.kept hsb,U8p S σ⟩
 . obtain⟨c,h1,_⟩:=S.has (inF x z)
   exact⟨c,h1⟩
 . obtain⟨oi,ei⟩:=hit b hb
   exact⟨Nat.ne_of_lt (Heap.lt_size ei),fun x c z=>(hf b hb).2.2.2.2.1 x c (S.sub x c z)⟩
 . rw[hnb b hb] at e
   cases e
 . rcases List.mem_cons.mp (I.stkSub b hfs) with z|z
   . exact(hf b hb).2.1 z
   . exact(hf b hb).2.2.1 z
 . obtain⟨v,z'⟩:=I.cell x c (S.sub x c z)
   exact⟨v,ck c v z'⟩
 . have hp':p∈X.pn++pins:=by simpa using hp
   obtain⟨q1,q2,q3,q4,q5⟩:=I.pin p hp'
   refine⟨hsb _ _ q1,q2,Nat.ne_of_lt (Heap.lt_size q1),fun z=>?_,q5⟩
   rcases List.mem_cons.mp (I.stkSub p.1 z) with z|z
   . exact q3 z
   . exact q4 z
theorem C2k{pins pl:List (Addr×Obj)}{σ σ':St}{H H':Hp}{s s':Shared}{fp:List Addr}(S:CompScopeF N F js scope X.N X.env)(I:Inv X pins σ H s)(hf:∀b∈fp,B3j X pins H b)(J:Inv (X.compF scope N F s.heap.objs.size s H fp (X.pn++pins)) pl σ' H' s'):
   Inv (X.compF scope N F s.heap.objs.size s H fp (X.pn++pins)) [] (List.replicate N.length none++B3a js σ) H' s':=by
 obtain⟨m,hn,_⟩:=J.loc
 refine⟨J.ok,J.os,J.bare,J.base,⟨m,hn,fun i x v e1 e2 e3=>C9y S I (fun x c v z q=>?_) i x v e1 e2⟩,J.cell,J.free,J.freeC,fun p hp=>J.pin p (by
   have hp:p∈(X.pn++pins)++ []:=hp
   rw[List.append_nil] at hp
   exact List.mem_append_left _ hp),J.hok,U8p S σ⟩
 obtain⟨o,e,d⟩:=q
 have ne:c ∉ fp:=fun w=>(hf c w).2.2.2.2.1 x c z rfl
 obtain⟨sl,q⟩:=J.base.any e (I.freeC x c z) ne
 exact⟨_,q,d⟩
theorem G6q{elt target iter c:Expr}{scope:Scope}{pos:Pos}{N F:List Str}{js:List Nat}{wi:TI}{g:TG}{tc:TT}{te:TE}(S:CompScopeF N F js scope X.N X.env)(hd:A8j X)(hc0:X.calm=true)(hi:PI X target iter wi)(hex:X.ex=[])
   (hg:∀C s₀ H₀ ex pn,A8j (X.compF scope N F C s₀ H₀ ex pn) ->PG (X.compF scope N F C s₀ H₀ ex pn) target g)
   (hc:∀C s₀ H₀ ex pn,A8j (X.compF scope N F C s₀ H₀ ex pn) ->PT (X.compF scope N F C s₀ H₀ ex pn) c tc)
   (he:∀C s₀ H₀ ex pn,A8j (X.compF scope N F C s₀ H₀ ex pn) ->PE (X.compF scope N F C s₀ H₀ ex pn) elt te)
   {pins:List (Addr×Obj)} {s:Shared} {σ:St} {H:Hp} {Q:VK} {RR:Value ->Env ->Result ->Shared ->Prop} (I:Inv X pins σ H s) (h:(G8h N.length js wi g tc te) σ H Q)
   (hRR:∀(D C:Addr) (s6:Shared) (H5:Hp) (mm:Str ->Option Value),Inv X pins σ H5 s6 ->s6.heap.Ns C mm ->B3j X pins H5 C ->Q (.ref D) H5 ->RR (.ref D) (compEnvC scope (A4m F X.env) C X.env) (.ok .next) s6):
   wpAny (model X.prog X.w) X.A (eval iter X.env) (fun v s1=>wpAny (model X.prog X.w) X.A (pyIter v) (fun itv s2=>wpAny (model X.prog X.w) X.A (newList []) (fun acc s3=>wpAny (model X.prog X.w) X.A (newFunctionEnv scope X.env.globals (A4m F X.env) [] X.env.qual none .none (some X.env)) (fun cenv s4=>
     codeAny (model X.prog X.w) X.A (.compStart (.ListComp elt [⟨target,iter,[c],0⟩] scope pos) 0 itv acc {cenv with scope:=relabel scope X.env}) (RR acc {cenv with scope:=relabel scope X.env}) s4) X.xe s3) X.xe s2) X.xe s1) X.xe s:=by
 refine thn (hi pins s σ H _ I h) fun v s1 h1=>thn h1 fun itv s2 h2=>?_
 obtain⟨it,fp,tn,J,H2,rfl,I2,T,st2,f2,R⟩:=h2
 have ob2:=T.obj _ _ st2
 have hf2:=I2.hok.fresh (Nat.le_refl _)
 refine wpAny_newObj_type ?_
 have I3:Inv X pins σ (upd H2 s2.heap.objs.size (.lst [])) {s2 with heap:=s2.heap.push {cls:= .type "list",dict:=none,data:= .seq ([]:List Value).toArray}}:=Inv.lnew (t':=s2.toks) I2 .nil (Nat.zero_le _)
 refine wpAny_newFunctionEnv S.cell (by intro y hy;simp at hy) (fun h4 hns hsb=>?_) S.kind
 dsimp only at hns hsb ⊢
 generalize hG:s2.heap.push {cls:= .type "list",dict:=none,data:= .seq ([]:List Value).toArray}=G at I3 hns hsb ⊢
 generalize hD:s2.heap.objs.size=D at I3 hf2
 have nD:∀b∈fp,b≠D:=fun b hb=>by
   obtain⟨o,eo,_⟩:=ob2 b hb
   rw[<-hD];exact Nat.ne_of_lt (Heap.lt_size eo)
 have eiG:∀b∈fp,∃o,G.get? b=some o:=fun b hb=>by
   obtain⟨o,eo,_⟩:=ob2 b hb
   exact⟨o,by rw[<-hG];exact Heap.get?_push_of_some _ eo⟩
 have kp:∀b o,G.get? b=some o ->h4.get? b=some o:=fun b o e=>hsb.extBut b o (Nat.ne_of_lt (Heap.lt_size e)) (Heap.get?_push_of_some _ e)
 have f3:∀b∈fp,B3j X pins (upd H2 D (.lst [])) b:=fun b hb=>⟨by rw[D3 (nD b hb)];exact(f2 b hb).1,(f2 b hb).2⟩
 have nb:∀b∈fp,X.base.get? b=none:=fun b hb=>by
   cases q:X.base.get? b with
   |none=>rfl
   | some o=>
     have:=(I.ok.bs b o q).1
     rcases(f2 b hb).2.2.2.1 with z|z
     . rw[hex] at z;simp at z
     . exact absurd (Nat.lt_of_lt_of_le (Heap.lt_size this) z) (Nat.lt_irrefl _)
 have hns':h4.Ns G.objs.size (fun _=>none):=by
   obtain⟨o,es,ep,q1,q2,q3,q4⟩:=hns
   exact⟨o,es,ep,q1,q2,q3,fun x=>by rw[q4];rfl⟩
 have I4:=D0r (tk:=s2.toks+([]:List (Str×Value)).length) S I3 f3 eiG nb hns' kp
 have hdc:A8j (X.compF scope N F G.objs.size {s2 with heap:=G} (upd H2 D (.lst [])) fp (X.pn++pins)):=by
   rcases hd with z|⟨x,o,u,vs,z,e,d,n⟩
   . exact .inl z
   . refine .inr ⟨x,o,u,vs,z,?_,d,n⟩
     have q:=I2.base.frzs x o u e
     show upd H2 D (.lst []) x=_
     rw[D3 fun w=>by rw[w,hf2] at q;cases q]
     exact q
 obtain⟨m,W,w0,turn⟩:=R D hf2
 have gg:=hg _ _ _ _ _ hdc
 have cc:=hc _ _ _ _ _ hdc
 have ee:=he _ _ _ _ _ hdc
 have fpc:∀{H':Hp} {σ':St} {s':Shared} {pl:List (Addr×Obj)},Inv (X.compF scope N F G.objs.size {s2 with heap:=G} (upd H2 D (.lst [])) fp (X.pn++pins)) pl σ' H' s' ->(∀b∈fp,H' b=none) ->(∀b∈fp,∀p∈pl,p.1≠b) ->∀b∈fp,B3j (X.compF scope N F G.objs.size {s2 with heap:=G} (upd H2 D (.lst [])) fp (X.pn++pins)) pl H' b:=by
   intro H' σ' s' pl J' hn hp b hb
   obtain⟨oi,ei⟩:=eiG b hb
   refine⟨hn b hb,Nat.ne_of_lt (Heap.lt_size ei),?_,.inl hb,(fun x c z=>(f2 b hb).2.2.2.2.1 x c (S.sub x c z)),fun p hpp=>?_⟩
   . intro z
     rcases List.mem_cons.mp (I.stkSub b z) with z|z
     . exact(f2 b hb).2.1 z
     . exact(f2 b hb).2.2.1 z
   . rcases List.mem_append.mp hpp with z|z
     . exact(f2 b hb).2.2.2.2.2 p z
     . exact hp b hb p z
 have loop:codeAny (model X.prog X.w) X.A (.compLoop (.ListComp elt [⟨target,iter,[c],0⟩] scope pos) 0 (.ref it) (.ref D) (compEnvC scope (A4m F X.env) G.objs.size X.env))
     (RR (.ref D) (compEnvC scope (A4m F X.env) G.objs.size X.env))
     {s2 with heap:=h4,toks:=s2.toks+([]:List (Str×Value)).length}:=by
   refine kct_loop (fun k s'=>∃i ys H',k=m+1-i/\Inv (X.compF scope N F G.objs.size {s2 with heap:=G} (upd H2 D (.lst [])) fp (X.pn++pins)) [] (List.replicate N.length none++B3a js σ) H' s'/\tn i s'.heap/\(∀b∈fp,H' b=none)/\W i ys H') ?_ (m+1)
     ⟨0,[],_,rfl,I4,T.keep _ _ _ st2 fun b hb o e=>kp b o (by rw[<-hG];exact Heap.get?_push_of_some _ e),fun b hb=>(f3 b hb).1,w0⟩
   rintro k s5 ⟨i,ys,H5,rfl,I5,st5,n5,w5⟩
   obtain⟨hi5,hD5,w5⟩:=turn i ys H5 w5
   rcases w5 with⟨stop,q⟩|⟨lt5,go,step⟩
   . refine wpAny_mono (T.done (X.compF scope N F G.objs.size {s2 with heap:=G} (upd H2 D (.lst [])) fp (X.pn++pins)) rfl rfl rfl hc0 i [] s5 _ H5 (fun _ _=>False) I5 (fpc I5 n5 (by simp)) st5 stop) (fun r s6 z=>?_) (fun _ _ z=>z.elim)
     obtain⟨rfl,I6⟩:=z
     obtain⟨mm,hn6,_⟩:=I6.loc
     have B6:=I6.base
     have J6:Inv X pins σ H5 s6:=by
       refine I3.call' (ch:=fp) I6.os ⟨B6.keep,B6.slot,B6.free,B6.there,B6.tups,B6.frzs,B6.tbls⟩ I6.hok I6.bare (fun b hb=>⟨(f2 b hb).2.2.2.1,(f2 b hb).2.1,(f2 b hb).2.2.2.2.1,(f2 b hb).2.2.2.2.2⟩)
     have szG:X.s₀.heap.objs.size<=G.objs.size:=I3.sz
     refine hRR D G.objs.size s6 H5 mm J6 hn6 ⟨I6.free,?_,?_,.inr szG,?_,?_⟩ q
     . exact Nat.ne_of_gt I3.lt
     . intro z
       obtain⟨_,o,ho,_⟩:=I3.funs.mem z
       exact Nat.lt_irrefl _ (Heap.lt_size ho)
     . rintro x c z rfl
       obtain⟨v',o,ho,_⟩:=I3.cell x _ z
       exact Nat.lt_irrefl _ (Heap.lt_size ho)
     . rintro p hp z
       have zz:=(I3.pin p hp).1
       rw[z] at zz
       exact Nat.lt_irrefl _ (Heap.lt_size zz)
   . refine wpAny_mono (T.item (X.compF scope N F G.objs.size {s2 with heap:=G} (upd H2 D (.lst [])) fp (X.pn++pins)) rfl rfl rfl hc0 i [] s5 _ H5 (fun _ _=>False) I5 (fpc I5 n5 (by simp)) st5 go) (fun r s6 z=>?_) (fun _ _ z=>z.elim)
     obtain⟨u,rfl,z⟩:=z
     refine wpAny_mono z (fun _ s7 z=>?_) (fun _ _ z=>z.elim)
     obtain⟨x,H7,I7,rx,yl,st7,fr7⟩:=z
     have ob7:=T.obj _ _ st7
     have I7':Inv (X.compF scope N F G.objs.size {s2 with heap:=G} (upd H2 D (.lst [])) fp (X.pn++pins)) (A0b fp s7.heap) (List.replicate N.length none++B3a js σ) H7 s7:=I7.pinned (fpc I7 fr7 (by simp)) ob7
     have back:∀{i':Nat} {ys':List V} {H':Hp} {σ':St} {s':Shared},i'=i+1 ->Inv (X.compF scope N F G.objs.size {s2 with heap:=G} (upd H2 D (.lst [])) fp (X.pn++pins)) (A0b fp s7.heap) σ' H' s' ->W i' ys' H' ->
         ∃k',k'<m+1-i/\∃i ys H',k'=m+1-i/\Inv (X.compF scope N F G.objs.size {s2 with heap:=G} (upd H2 D (.lst [])) fp (X.pn++pins)) [] (List.replicate N.length none++B3a js σ) H' s'/\tn i s'.heap/\(∀b∈fp,H' b=none)/\W i ys H':=by
       rintro i' ys' H' σ' s' rfl J' w'
       refine⟨m+1-(i+1),by omega,i+1,ys',H',rfl,C2k S I3 f3 J',T.keep _ _ _ st7 fun b hb o z=>(J'.pin (b,o) (List.mem_append_right _ (A1a hb z))).1,fun b hb=>?_,w'⟩
       obtain⟨o,eo,_⟩:=ob7 b hb
       exact(J'.pin (b,o) (List.mem_append_right _ (A1a hb eo))).2.1
     refine wpAny_mono (gg (A0b fp s7.heap) s7 _ H7 x u _ I7' rx (step x H7 yl)) (fun _ s8 z=>?_) (fun _ _ z=>z.elim)
     obtain⟨σ8,H8,I8,q8⟩:=z
     refine wpAny_mono (cc (A0b fp s7.heap) s8 σ8 H8 _ I8 q8) (fun b s9 z=>?_) (fun _ _ z=>z.elim)
     obtain⟨H9,I9,q9⟩:=z
     cases b with
     | false=>
       simp only[Bool.false_eq_true,if_false] at q9 ⊢
       exact back rfl I9 q9
     | true=>
       simp only[if_true] at q9 ⊢
       refine wpAny_mono (ee (A0b fp s7.heap) s9 σ8 H9 _ I9 q9) (fun y s10 z=>?_) (fun _ _ z=>z.elim)
       obtain⟨yv,H10,I10,ry,hD10,hz10,w10⟩:=z
       refine wpAny_mono (B1w (X:=X.compF scope N F G.objs.size {s2 with heap:=G} (upd H2 D (.lst [])) fp (X.pn++pins)) (A0b fp s7.heap) s10 σ8 H10 (.ref D) [yv] (.ref D) [y] (fun _ H11=>W (i+1) (ys++ [yv]) H11) I10 rfl (.cons ry .nil) ⟨D,ys,yv,rfl,rfl,hD10,hz10,w10⟩) (fun _ s11 z=>?_) (fun _ _ z=>z.elim)
       obtain⟨_,H11,I11,_,w11⟩:=z
       exact back rfl I11 w11
 exact codeAny_compStart_list loop (T.self _ 0 _ _ _ (T.keep _ _ _ st2 fun b hb o e=>kp b o (by rw[<-hG];exact Heap.get?_push_of_some _ e)) loop)
theorem G2v{elt target iter:Expr}{scope:Scope}{pos:Pos}{N F:List Str}{js:List Nat}{wi:TI}{g:TG}{te:TE}(S:CompScopeF N F js scope X.N X.env)(hd:A8j X)(hc0:X.calm=true)(hi:PI X target iter wi)(hex:X.ex=[])
   (hg:∀C s₀ H₀ ex pn,A8j (X.compF scope N F C s₀ H₀ ex pn) ->PG (X.compF scope N F C s₀ H₀ ex pn) target g)
   (he:∀C s₀ H₀ ex pn,A8j (X.compF scope N F C s₀ H₀ ex pn) ->PE (X.compF scope N F C s₀ H₀ ex pn) elt te)
   {pins:List (Addr×Obj)} {s:Shared} {σ:St} {H:Hp} {Q:VK} {RR:Value ->Env ->Result ->Shared ->Prop} (I:Inv X pins σ H s) (h:(J8z N.length js wi g te) σ H Q)
   (hRR:∀(D C:Addr) (s6:Shared) (H5:Hp) (mm:Str ->Option Value),Inv X pins σ H5 s6 ->s6.heap.Ns C mm ->B3j X pins H5 C ->Q (.ref D) H5 ->RR (.ref D) (compEnvC scope (A4m F X.env) C X.env) (.ok .next) s6):
   wpAny (model X.prog X.w) X.A (eval iter X.env) (fun v s1=>wpAny (model X.prog X.w) X.A (pyIter v) (fun itv s2=>wpAny (model X.prog X.w) X.A (newList []) (fun acc s3=>wpAny (model X.prog X.w) X.A (newFunctionEnv scope X.env.globals (A4m F X.env) [] X.env.qual none .none (some X.env)) (fun cenv s4=>
     codeAny (model X.prog X.w) X.A (.compStart (.ListComp elt [⟨target,iter,[],0⟩] scope pos) 0 itv acc {cenv with scope:=relabel scope X.env}) (RR acc {cenv with scope:=relabel scope X.env}) s4) X.xe s3) X.xe s2) X.xe s1) X.xe s:=by
 refine thn (hi pins s σ H _ I h) fun v s1 h1=>thn h1 fun itv s2 h2=>?_
 obtain⟨it,fp,tn,J,H2,rfl,I2,T,st2,f2,R⟩:=h2
 have ob2:=T.obj _ _ st2
 have hf2:=I2.hok.fresh (Nat.le_refl _)
 refine wpAny_newObj_type ?_
 have I3:Inv X pins σ (upd H2 s2.heap.objs.size (.lst [])) {s2 with heap:=s2.heap.push {cls:= .type "list",dict:=none,data:= .seq ([]:List Value).toArray}}:=Inv.lnew (t':=s2.toks) I2 .nil (Nat.zero_le _)
 refine wpAny_newFunctionEnv S.cell (by intro y hy;simp at hy) (fun h4 hns hsb=>?_) S.kind
 dsimp only at hns hsb ⊢
 generalize hG:s2.heap.push {cls:= .type "list",dict:=none,data:= .seq ([]:List Value).toArray}=G at I3 hns hsb ⊢
 generalize hD:s2.heap.objs.size=D at I3 hf2
 have nD:∀b∈fp,b≠D:=fun b hb=>by
   obtain⟨o,eo,_⟩:=ob2 b hb
   rw[<-hD];exact Nat.ne_of_lt (Heap.lt_size eo)
 have eiG:∀b∈fp,∃o,G.get? b=some o:=fun b hb=>by
   obtain⟨o,eo,_⟩:=ob2 b hb
   exact⟨o,by rw[<-hG];exact Heap.get?_push_of_some _ eo⟩
 have kp:∀b o,G.get? b=some o ->h4.get? b=some o:=fun b o e=>hsb.extBut b o (Nat.ne_of_lt (Heap.lt_size e)) (Heap.get?_push_of_some _ e)
 have f3:∀b∈fp,B3j X pins (upd H2 D (.lst [])) b:=fun b hb=>⟨by rw[D3 (nD b hb)];exact(f2 b hb).1,(f2 b hb).2⟩
 have nb:∀b∈fp,X.base.get? b=none:=fun b hb=>by
   cases q:X.base.get? b with
   |none=>rfl
   | some o=>
     have:=(I.ok.bs b o q).1
     rcases(f2 b hb).2.2.2.1 with z|z
     . rw[hex] at z;simp at z
     . exact absurd (Nat.lt_of_lt_of_le (Heap.lt_size this) z) (Nat.lt_irrefl _)
 have hns':h4.Ns G.objs.size (fun _=>none):=by
   obtain⟨o,es,ep,q1,q2,q3,q4⟩:=hns
   exact⟨o,es,ep,q1,q2,q3,fun x=>by rw[q4];rfl⟩
 have I4:=D0r (tk:=s2.toks+([]:List (Str×Value)).length) S I3 f3 eiG nb hns' kp
 have hdc:A8j (X.compF scope N F G.objs.size {s2 with heap:=G} (upd H2 D (.lst [])) fp (X.pn++pins)):=by
   rcases hd with z|⟨x,o,u,vs,z,e,d,n⟩
   . exact .inl z
   . refine .inr ⟨x,o,u,vs,z,?_,d,n⟩
     have q:=I2.base.frzs x o u e
     show upd H2 D (.lst []) x=_
     rw[D3 fun w=>by rw[w,hf2] at q;cases q]
     exact q
 obtain⟨m,W,w0,turn⟩:=R D hf2
 have gg:=hg _ _ _ _ _ hdc
 have ee:=he _ _ _ _ _ hdc
 have fpc:∀{H':Hp} {σ':St} {s':Shared} {pl:List (Addr×Obj)},Inv (X.compF scope N F G.objs.size {s2 with heap:=G} (upd H2 D (.lst [])) fp (X.pn++pins)) pl σ' H' s' ->(∀b∈fp,H' b=none) ->(∀b∈fp,∀p∈pl,p.1≠b) ->∀b∈fp,B3j (X.compF scope N F G.objs.size {s2 with heap:=G} (upd H2 D (.lst [])) fp (X.pn++pins)) pl H' b:=by
   intro H' σ' s' pl J' hn hp b hb
   obtain⟨oi,ei⟩:=eiG b hb
   refine⟨hn b hb,Nat.ne_of_lt (Heap.lt_size ei),?_,.inl hb,(fun x c z=>(f2 b hb).2.2.2.2.1 x c (S.sub x c z)),fun p hpp=>?_⟩
   . intro z
     rcases List.mem_cons.mp (I.stkSub b z) with z|z
     . exact(f2 b hb).2.1 z
     . exact(f2 b hb).2.2.1 z
   . rcases List.mem_append.mp hpp with z|z
     . exact(f2 b hb).2.2.2.2.2 p z
     . exact hp b hb p z
 have loop:codeAny (model X.prog X.w) X.A (.compLoop (.ListComp elt [⟨target,iter,[],0⟩] scope pos) 0 (.ref it) (.ref D) (compEnvC scope (A4m F X.env) G.objs.size X.env))
     (RR (.ref D) (compEnvC scope (A4m F X.env) G.objs.size X.env))
     {s2 with heap:=h4,toks:=s2.toks+([]:List (Str×Value)).length}:=by
   refine U6u (fun k s'=>∃i ys H',k=m+1-i/\Inv (X.compF scope N F G.objs.size {s2 with heap:=G} (upd H2 D (.lst [])) fp (X.pn++pins)) [] (List.replicate N.length none++B3a js σ) H' s'/\tn i s'.heap/\(∀b∈fp,H' b=none)/\W i ys H') ?_ (m+1)
     ⟨0,[],_,rfl,I4,T.keep _ _ _ st2 fun b hb o e=>kp b o (by rw[<-hG];exact Heap.get?_push_of_some _ e),fun b hb=>(f3 b hb).1,w0⟩
   rintro k s5 ⟨i,ys,H5,rfl,I5,st5,n5,w5⟩
   obtain⟨hi5,hD5,w5⟩:=turn i ys H5 w5
   rcases w5 with⟨stop,q⟩|⟨lt5,go,step⟩
   . refine wpAny_mono (T.done (X.compF scope N F G.objs.size {s2 with heap:=G} (upd H2 D (.lst [])) fp (X.pn++pins)) rfl rfl rfl hc0 i [] s5 _ H5 (fun _ _=>False) I5 (fpc I5 n5 (by simp)) st5 stop) (fun r s6 z=>?_) (fun _ _ z=>z.elim)
     obtain⟨rfl,I6⟩:=z
     obtain⟨mm,hn6,_⟩:=I6.loc
     have B6:=I6.base
     have J6:Inv X pins σ H5 s6:=by
       refine I3.call' (ch:=fp) I6.os ⟨B6.keep,B6.slot,B6.free,B6.there,B6.tups,B6.frzs,B6.tbls⟩ I6.hok I6.bare (fun b hb=>⟨(f2 b hb).2.2.2.1,(f2 b hb).2.1,(f2 b hb).2.2.2.2.1,(f2 b hb).2.2.2.2.2⟩)
     have szG:X.s₀.heap.objs.size<=G.objs.size:=I3.sz
     refine hRR D G.objs.size s6 H5 mm J6 hn6 ⟨I6.free,?_,?_,.inr szG,?_,?_⟩ q
     . exact Nat.ne_of_gt I3.lt
     . intro z
       obtain⟨_,o,ho,_⟩:=I3.funs.mem z
       exact Nat.lt_irrefl _ (Heap.lt_size ho)
     . rintro x c z rfl
       obtain⟨v',o,ho,_⟩:=I3.cell x _ z
       exact Nat.lt_irrefl _ (Heap.lt_size ho)
     . rintro p hp z
       have zz:=(I3.pin p hp).1
       rw[z] at zz
       exact Nat.lt_irrefl _ (Heap.lt_size zz)
   . refine wpAny_mono (T.item (X.compF scope N F G.objs.size {s2 with heap:=G} (upd H2 D (.lst [])) fp (X.pn++pins)) rfl rfl rfl hc0 i [] s5 _ H5 (fun _ _=>False) I5 (fpc I5 n5 (by simp)) st5 go) (fun r s6 z=>?_) (fun _ _ z=>z.elim)
     obtain⟨u,rfl,z⟩:=z
     refine wpAny_mono z (fun _ s7 z=>?_) (fun _ _ z=>z.elim)
     obtain⟨x,H7,I7,rx,yl,st7,fr7⟩:=z
     have ob7:=T.obj _ _ st7
     have I7':Inv (X.compF scope N F G.objs.size {s2 with heap:=G} (upd H2 D (.lst [])) fp (X.pn++pins)) (A0b fp s7.heap) (List.replicate N.length none++B3a js σ) H7 s7:=I7.pinned (fpc I7 fr7 (by simp)) ob7
     have back:∀{i':Nat} {ys':List V} {H':Hp} {σ':St} {s':Shared},i'=i+1 ->Inv (X.compF scope N F G.objs.size {s2 with heap:=G} (upd H2 D (.lst [])) fp (X.pn++pins)) (A0b fp s7.heap) σ' H' s' ->W i' ys' H' ->
         ∃k',k'<m+1-i/\∃i ys H',k'=m+1-i/\Inv (X.compF scope N F G.objs.size {s2 with heap:=G} (upd H2 D (.lst [])) fp (X.pn++pins)) [] (List.replicate N.length none++B3a js σ) H' s'/\tn i s'.heap/\(∀b∈fp,H' b=none)/\W i ys H':=by
       rintro i' ys' H' σ' s' rfl J' w'
       refine⟨m+1-(i+1),by omega,i+1,ys',H',rfl,C2k S I3 f3 J',T.keep _ _ _ st7 fun b hb o z=>(J'.pin (b,o) (List.mem_append_right _ (A1a hb z))).1,fun b hb=>?_,w'⟩
       obtain⟨o,eo,_⟩:=ob7 b hb
       exact(J'.pin (b,o) (List.mem_append_right _ (A1a hb eo))).2.1
     refine wpAny_mono (gg (A0b fp s7.heap) s7 _ H7 x u _ I7' rx (step x H7 yl)) (fun _ s8 z=>?_) (fun _ _ z=>z.elim)
     obtain⟨σ8,H8,I8,q8⟩:=z
     refine wpAny_mono (ee (A0b fp s7.heap) s8 σ8 H8 _ I8 q8) (fun y s10 z=>?_) (fun _ _ z=>z.elim)
     obtain⟨yv,H10,I10,ry,hD10,hz10,w10⟩:=z
     refine wpAny_mono (B1w (X:=X.compF scope N F G.objs.size {s2 with heap:=G} (upd H2 D (.lst [])) fp (X.pn++pins)) (A0b fp s7.heap) s10 σ8 H10 (.ref D) [yv] (.ref D) [y] (fun _ H11=>W (i+1) (ys++ [yv]) H11) I10 rfl (.cons ry .nil) ⟨D,ys,yv,rfl,rfl,hD10,hz10,w10⟩) (fun _ s11 z=>?_) (fun _ _ z=>z.elim)
     obtain⟨_,H11,I11,_,w11⟩:=z
     exact back rfl I11 w11
 exact codeAny_compStart_list loop (T.self _ 0 _ _ _ (T.keep _ _ _ st2 fun b hb o e=>kp b o (by rw[<-hG];exact Heap.get?_push_of_some _ e)) loop)
theorem C2t{elt target iter:Expr}{c:Expr}{tc:TT}{pos:Pos}{wi:TI}{g:TG}{te:TE}(S:CompScopeF N F js scope X.N X.env)(hd:A8j X)(hc0:X.calm=true)(hi:PI X target iter wi)(hex:X.ex=[])
   (hg:∀C s₀ H₀ ex pn,A8j (X.compF scope N F C s₀ H₀ ex pn) ->PG (X.compF scope N F C s₀ H₀ ex pn) target g)
   (hc:∀C s₀ H₀ ex pn,A8j (X.compF scope N F C s₀ H₀ ex pn) ->PT (X.compF scope N F C s₀ H₀ ex pn) c tc)
   (he:∀C s₀ H₀ ex pn,A8j (X.compF scope N F C s₀ H₀ ex pn) ->PE (X.compF scope N F C s₀ H₀ ex pn) elt te)
   (hs:∀x,foldedSetIterable iter X.env x=pure x:=by intro _;rfl):PE X (.ListComp elt [⟨target,iter,[c],0⟩] scope pos) (G8h N.length js wi g tc te):=by
 intro pins s σ H Q I h
 rw[eval_ListComp]
 refine wpAny_comprehension_free (use:=none) rfl hs S.clos S.kind S.loc (G6q S hd hc0 hi hex hg hc he I h (RR:=fun acc ce r s'=>compPost (model X.prog X.w) X.A X.xe none (EP X pins σ Q) acc ce.locals r s') ?_)
 intro D C s6 H5 mm I6 n6 f6 q
 exact⟨mm,n6,fun h' sb=>⟨.ref D,H5,Z1r I6 f6 sb,rfl,q⟩⟩
theorem U2f{elt target iter:Expr}{pos:Pos}{wi:TI}{g:TG}{te:TE}(S:CompScopeF N F js scope X.N X.env)(hd:A8j X)(hc0:X.calm=true)(hi:PI X target iter wi)(hex:X.ex=[])
   (hg:∀C s₀ H₀ ex pn,A8j (X.compF scope N F C s₀ H₀ ex pn) ->PG (X.compF scope N F C s₀ H₀ ex pn) target g)
   (he:∀C s₀ H₀ ex pn,A8j (X.compF scope N F C s₀ H₀ ex pn) ->PE (X.compF scope N F C s₀ H₀ ex pn) elt te)
   (hs:∀x,foldedSetIterable iter X.env x=pure x:=by intro _;rfl):PE X (.ListComp elt [⟨target,iter,[],0⟩] scope pos) (J8z N.length js wi g te):=by
 intro pins s σ H Q I h
 rw[eval_ListComp]
 refine wpAny_comprehension_free (use:=none) rfl hs S.clos S.kind S.loc (G2v S hd hc0 hi hex hg he I h (RR:=fun acc ce r s'=>compPost (model X.prog X.w) X.A X.xe none (EP X pins σ Q) acc ce.locals r s') ?_)
 intro D C s6 H5 mm I6 n6 f6 q
 exact⟨mm,n6,fun h' sb=>⟨.ref D,H5,Z1r I6 f6 sb,rfl,q⟩⟩
end
theorem CompScopeF.of0{N:List Str}{sc:Scope}{XN:List Str}{env:Env}(S:CompS N [] sc)(clos:closureFor sc env=pure (A4m [] env)):CompScopeF N [] [] sc XN env:=
 ⟨S.kind,S.cell,S.loc,S.nd,clos,C2j S.cell S.fr,fun k y h=>by simp at h,rfl⟩
section
variable{X:Cx}{pins:List (Addr×Obj)}{σ:St}{H:Hp}{s:Shared}{h':Heap}
end
section
variable{X:Cx}{es:List Expr}{k:Nat}{tp:Pos}
end
noncomputable def Y5y (D:Addr) (H H':Hp):Prop:=∀b o,H b=some o ->b≠D ->H' b=some o
theorem U0y{J:It}{g:TG}{te:TE}{σ0:St}{H1:Hp}{QD:Addr ->Hp ->Prop}{n:Nat}(R:Nat ->V ->Hp ->Prop)(hn:n<=1000)
   (mono:∀i y H' H'' D l,R i y H' ->H' D=some (.lst l) ->Y5y D H' H'' ->R i y H'')
   (step:∀i H2 Qy,i<n ->Same H1 H2 ->(∀y H6,Same H2 H6 ->R i y H6 ->Qy y H6) ->J.go i H2/\∀x H3,J.yld i H2 x H3 ->g x σ0 H3 fun σ4 H4=>te σ4 H4 Qy)
   (stop:∀H2,Same H1 H2 ->J.stop n H2)
   (k:∀D H' ys,Same H1 H' ->H1 D=none ->H' D=some (.lst ys) ->ys.length=n ->(∀i y,ys[i]?=some y ->R i y H') ->QD D H'):∀D,H1 D=none ->
   ∃ (m:Nat) (W:Nat ->List V ->Hp ->Prop),W 0 [] (upd H1 D (.lst []))/\∀i ys H2,W i ys H2 ->i<=m/\H2 D=some (.lst ys)/\((J.stop i H2/\QD D H2)\/(i<m/\J.go i H2/\∀x H3,J.yld i H2 x H3 ->
     g x σ0 H3 fun σ4 H4=>te σ4 H4 fun y H6=>H6 D=some (.lst ys)/\ys.length<sizeLine/\W (i+1) (ys++ [y]) (upd H6 D (.lst (ys++ [y]))))):=by
 intro D hD
 refine⟨n,fun i ys H2=>i<=n/\ys.length=i/\H2 D=some (.lst ys)/\Same H1 H2/\∀j y,ys[j]?=some y ->R j y H2,⟨Nat.zero_le _,rfl,A9,Same.upd hD,fun j y h=>by simp at h⟩,?_⟩
 rintro i ys H2 ⟨hi,hl,hd,sm,hR⟩
 refine⟨hi,hd,?_⟩
 by_cases hlt:i<n
 . refine .inr ⟨hlt,step i H2 _ hlt sm fun y H6 s6 r6=>?_⟩
   have d6:H6 D=some (.lst ys):=s6 _ _ hd
   have ex:Y5y D H6 (upd H6 D (.lst (ys++ [y]))):=fun b o e hb=>by rw[D3 hb];exact e
   refine⟨d6,Nat.lt_of_le_of_lt (by omega:ys.length<=1000) (Z1 (Nat.le_refl _)),hlt,by simp[hl],A9,fun b o e=>?_,fun j z hj=>?_⟩
   . rw[D3 (G2 e hD)]
     exact s6 _ _ (sm _ _ e)
   . by_cases hj':j<ys.length
     . rw[List.getElem?_append_left hj'] at hj
       exact mono j z H6 _ D ys (mono j z H2 H6 D ys (hR j z hj) hd fun b o e _=>s6 _ _ e) d6 ex
     . rw[List.getElem?_append_right (by omega)] at hj
       have e0:j-ys.length=0:=by
         apply Classical.byContradiction
         intro q
         rw[List.getElem?_eq_none (by simp;omega)] at hj
         cases hj
       rw[e0] at hj
       have ej:j=i:=by omega
       subst ej
       cases hj
       exact mono _ _ H6 _ D ys r6 d6 ex
 . have e:i=n:=by omega
   subst e
   exact .inl ⟨stop H2 sm,k D H2 ys sm hD hd hl hR⟩
theorem U9n{J:It}{g:TG}{tc:TT}{te:TE}{σ0:St}{H1:Hp}{QD:Addr ->Hp ->Prop}{n:Nat}(f:Nat ->Bool)(R:Nat ->V ->Hp ->Prop)(hn:n<=1000)
   (mono:∀i y H' H'' D l,R i y H' ->H' D=some (.lst l) ->Y5y D H' H'' ->R i y H'')
   (step:∀(i:Nat) (H2:Hp) (Qy:VK) (Qn:Hp ->Prop),i<n ->Same H1 H2 ->(f i=true ->∀y H6,Same H2 H6 ->R i y H6 ->Qy y H6) ->(f i=false ->∀H6,Same H2 H6 ->Qn H6) ->J.go i H2/\∀x H3,J.yld i H2 x H3 ->g x σ0 H3 fun σ4 H4=>tc σ4 H4 fun b H5=>if b=true then te σ4 H5 Qy else Qn H5)
   (stop:∀H2,Same H1 H2 ->J.stop n H2)
   (k:∀D H' ys,Same H1 H' ->H1 D=none ->H' D=some (.lst ys) ->ys.length=((List.range n).filter f).length ->(∀(j i:Nat) (y:V),((List.range n).filter f)[j]?=some i ->ys[j]?=some y ->R i y H') ->QD D H'):∀D,H1 D=none ->
   ∃ (m:Nat) (W:Nat ->List V ->Hp ->Prop),W 0 [] (upd H1 D (.lst []))/\∀i ys H2,W i ys H2 ->i<=m/\H2 D=some (.lst ys)/\((J.stop i H2/\QD D H2)\/(i<m/\J.go i H2/\∀x H3,J.yld i H2 x H3 ->
     g x σ0 H3 fun σ4 H4=>tc σ4 H4 fun b H5=>if b=true then te σ4 H5 fun y H6=>H6 D=some (.lst ys)/\ys.length<sizeLine/\W (i+1) (ys++ [y]) (upd H6 D (.lst (ys++ [y]))) else W (i+1) ys H5)):=by
 intro D hD
 refine⟨n,fun i ys H2=>i<=n/\ys.length=((List.range i).filter f).length/\H2 D=some (.lst ys)/\Same H1 H2/\∀(j i':Nat) (y:V),((List.range i).filter f)[j]?=some i' ->ys[j]?=some y ->R i' y H2,⟨Nat.zero_le _,rfl,A9,Same.upd hD,fun j i' y h=>by simp at h⟩,?_⟩
 rintro i ys H2 ⟨hi,hl,hd,sm,hR⟩
 refine⟨hi,hd,?_⟩
 by_cases hlt:i<n
 . have fl :((List.range i).filter f).length<=i:=Nat.le_trans (List.length_filter_le _ _) (by simp)
   refine .inr ⟨hlt,step i H2 _ _ hlt sm (fun hf y H6 s6 r6=>?_) (fun hf H6 s6=>?_)⟩
   . have d6:H6 D=some (.lst ys):=s6 _ _ hd
     have ex:Y5y D H6 (upd H6 D (.lst (ys++ [y]))):=fun b o e hb=>by rw[D3 hb];exact e
     have ef:(List.range (i+1)).filter f=(List.range i).filter f++ [i]:=by rw[List.range_succ,List.filter_append,List.filter_cons,hf];rfl
     refine⟨d6,Nat.lt_of_le_of_lt (by omega:ys.length<=1000) (Z1 (Nat.le_refl _)),hlt,by rw[ef,List.length_append,List.length_append,hl];rfl,A9,fun b o e=>?_,fun j i' z hi' hj=>?_⟩
     . rw[D3 (G2 e hD)]
       exact s6 _ _ (sm _ _ e)
     . rw[ef] at hi'
       by_cases hj':j<ys.length
       . rw[List.getElem?_append_left hj'] at hj
         rw[List.getElem?_append_left (by omega)] at hi'
         exact mono i' z H6 _ D ys (mono i' z H2 H6 D ys (hR j i' z hi' hj) hd fun b o e _=>s6 _ _ e) d6 ex
       . rw[List.getElem?_append_right (by omega)] at hj
         rw[List.getElem?_append_right (by omega)] at hi'
         have e0:j-ys.length=0:=by
           apply Classical.byContradiction
           intro q
           rw[List.getElem?_eq_none (by simp;omega)] at hj
           cases hj
         rw[e0] at hj
         rw[<-hl,e0] at hi'
         cases hj
         cases hi'
         exact mono _ _ H6 _ D ys r6 d6 ex
   . have ef:(List.range (i+1)).filter f=(List.range i).filter f:=by rw[List.range_succ,List.filter_append,List.filter_cons,hf];simp
     refine⟨hlt,by rw[ef];exact hl,s6 _ _ hd,sm.trans s6,fun j i' z hi' hj=>?_⟩
     rw[ef] at hi'
     exact mono i' z H2 H6 D ys (hR j i' z hi' hj) hd fun b o e _=>s6 _ _ e
 . have e:i=n:=by omega
   subst e
   exact .inl ⟨stop H2 sm,k D H2 ys sm hD hd hl hR⟩
open AutoSeq1 (wpAny_loadPart')
section
variable{prog:Program}{w:World}{A:Around}{E:Value ->Shared ->Prop}{s:Shared}
end
section
variable{X:Cx}{es:List Expr}{k:Nat}{tp:Pos}
end
end L2
namespace L2
open PySem PySem.Spec PyProof.Rows PySem.W
section
variable{X:Cx}
end
end L2
namespace L2
open PySem PySem.W PyProof.Rows
section
variable{X:Cx}{o e:Expr}{ta:TE}{m:Str}{apos pos:Pos}{j k:Nat}{ps:List Str}{ι:Type}{cw f:ι ->Addr}{fd:ι ->FuncData}{sp:ι ->Sp}{EH:EK}
end
section
variable{X:Cx}{a b e o:Expr}{es:List Expr}{ta tb te to:TE}{t:TA}{pos:Pos}{st:Stmt}{rest:List Stmt}{ts u:TS}
end
end L2
namespace L2
open PySem PySem.Spec PyProof.Rows PySem.W
section
variable{X:Cx}{x f:Str}{p cpos pos:Pos}{e:Expr}{t:TA}{C fI:Addr}{fdI:FuncData}{ps:List Str}{j k:Nat}
end
section
variable{X:Cx}{x y:Str}{e:Expr}{t:TE}{p q:Pos}{pos pos2:Pos}
end
end L2
namespace L2
open PySem PySem.Spec PyProof.Rows
structure FnOkG(P:Program)(w:World)(K:PySem.W.Frag)(mg:Str ->Option Value)(base:Heap)(CX:CXT)(k:Nat)(f:Addr)(fd:FuncData)(ps:List Str)(sp:Sp):Prop where
 len:∀vs H Q E,sp vs H Q E ->vs.length=ps.length
 run:∀(A:Around) (outer:List Env) (s:Shared) (H:Hp) (args:Args) (us:List Value) (vs:List V) (Q:VK) (E:XK),A.guards=some [] ->Room k A ->Env0 P w K mg base A outer s H ->BindsTo s fd args (ps.zip us) ->Vals vs us ->sp vs H Q E ->codeAny (model P w) A (Code.call (Value.ref f) args) (CR CX outer P w H s Q E) s
theorem Z2s{CX:CXT}{P:Program}{w:World}{K:PySem.W.Frag}{mg:Str ->Option Value}{base:Heap}{k:Nat}{f:Addr}{name qual:Str}{params:Arguments}{body:List Stmt}{scope:Scope}{dV kV doc pm cdv ct oc:Value}{an od:Option Addr}
   {osl:Array (Option Value)} {N ps:List Str} {sp:Sp} (lk:K.lookup f=some ⟨oc,od,.func (PySem.W.fnOf name qual params body scope dV kV doc pm an cdv ct),osl⟩) (hcd:PySem.W.codeIn K cdv qual=true) (S:FnScope N ps scope)
   (len:∀vs H Q E,sp vs H Q E ->vs.length=ps.length)
   (hbody:∀(A:Around) (outer:List Env) (s:Shared) (H:Hp) (vs:List V) (Q:VK) (E:XK),A.guards=some [] ->Room k (A.deeper (envOfC qual scope s.heap.objs.size f cdv)) ->sp vs H Q E ->
     ∃t,PSs (Z9 CX P w K mg base N qual scope f cdv A outer s H E) body t/\t {nx:=fun _ H'=>Q .non H',rt:=Q} (A0w N vs) H):
   FnOkG P w K mg base CX (k+1) f (PySem.W.fnOf name qual params body scope dV kV doc pm an cdv ct) ps sp:=by
 refine⟨len,fun A outer s H args us vs Q E hgd hr e0 hb r hsp=>?_⟩
 have hl:=len _ _ _ _ hsp
 have KX:K.In s.heap:=e0.mod.kin.keeps fun b o e=>(e0.bs b o e).1
 have lim:s.heap.NoLimit:=e0.mod.nolimit.keeps fun b o e=>(e0.bs b o e).1
 have hkind:∀y∈ps.zip us,scope.names.lookup y.1=some .local\/(scope.names.lookup y.1=some .cell/\((cellsFrom (s.heap.objs.size+1) scope.names []).lookup y.1).isSome=true):=fun⟨n,v⟩ hy=>by
   rcases S.par n (List.of_mem_zip hy).1 with q|q
   . exact .inl q
   . exact .inr ⟨q,PySem.W.cellsFrom_some _ _ _ (.inl q)⟩
 refine codeAny_call_function hr.depth (KX _ _ lk) rfl S.co S.gen rfl (PySem.W.codeRec_of KX hcd) (hb _ _ _ _ ?_)
 refine wpAny_newFunctionEnv_cells S.kind hkind fun env he s1 x=>?_
 subst he
 refine⟨lim.keeps x.toInCall.keep,codeAny_func ?_⟩
 obtain⟨t,ht,hq⟩:=hbody A outer s H vs Q E hgd (hr.deeper _) hsp
 have I:Inv (Z9 CX P w K mg base N qual scope f cdv A outer s H E) [] (A0w N vs) H s1:=B6d S hr.hd e0 hl r x
 refine wpAny_mono (ht [] s1 (A0w N vs) H _ I hq) (fun fl s' hs=>?_) fun e s' hs=>hs
 have fin:∀{σ':St} {H':Hp} {v:V} {u:Value},Inv (Z9 CX P w K mg base N qual scope f cdv A outer s H E) [] σ' H' s' ->RelV v u ->Q v H' ->CE outer P w H s Q u s':=
   fun{σ' H' v u} J rv q=>⟨v,H',J.os,J.bare,J.base,J.hok,rv,q⟩
 cases fl with
 | ret u=>
   obtain⟨v,σ',H',J,rv,q⟩:=hs
   exact fin J rv q
 | next=>
   obtain⟨σ',H',J,q⟩:=hs
   exact fin (v:=V.non) (u:=Value.none) J rfl q
 | brk=>
   obtain⟨_,_,_,q⟩:=hs
   exact False.elim q
 | cont=>
   obtain⟨_,_,_,q⟩:=hs
   exact False.elim q
end L2
namespace L2
open PySem PySem.Spec PyProof.Rows PySem.W
mutual
inductive RdR(H:Hp):V ->PyData ->Prop where
 |non:RdR H .non .none
 |bl (b:Bool):RdR H (.bl b) (.bool b)
 |int (i:Int):RdR H (.int i) (.int i)
 |str (x:Str):RdR H (.str x) (.str x)
 |tup {a:Addr} {xs:List V} {ds:List PyData} (h:H a=some (.tup xs)) (r:RdRs H xs ds):RdR H (.ref a) (.tuple ds)
 |lst {a:Addr} {xs:List V} {ds:List PyData} (h:H a=some (.lst xs)) (n:a≠sysModules) (r:RdRs H xs ds):RdR H (.ref a) (.list ds)
 |dct0 {a:Addr} (h:H a=some (.dK [])):RdR H (.ref a) (.dict [])
 |dct1 {a:Addr} {z:Str} {b:Bool} (h:H a=some (.dK [(.inr z,.bl b)])):RdR H (.ref a) (.dict [(.str z,.bool b)])
inductive RdRs(H:Hp):List V ->List PyData ->Prop where
 |nil:RdRs H [] []
 |cons {x:V} {xs:List V} {d:PyData} {ds:List PyData} (h:RdR H x d) (r:RdRs H xs ds):RdRs H (x::xs) (d::ds)
end
mutual
theorem RdR.same{H H':Hp}(s:∀b o,H b=some o ->H' b=some o):∀{x:V} {d:PyData},RdR H x d ->RdR H' x d
 |_,_,.non=> .non
 |_,_,.bl b=> .bl b
 |_,_,.int i=> .int i
 |_,_,.str x=> .str x
 |_,_,.tup h r=> .tup (s _ _ h) (RdRs.same s r)
 |_,_,.lst h n r=> .lst (s _ _ h) n (RdRs.same s r)
 |_,_,.dct0 h=> .dct0 (s _ _ h)
 |_,_,.dct1 h=> .dct1 (s _ _ h)
theorem RdRs.same{H H':Hp}(s:∀b o,H b=some o ->H' b=some o):∀{x:List V} {d:List PyData},RdRs H x d ->RdRs H' x d
 |_,_,.nil=> .nil
 |_,_,.cons h r=> .cons (RdR.same s h) (RdRs.same s r)
end
section
variable{X:Cx}
mutual
theorem RdR.reads{pins:List (Addr×Obj)}{σ:St}{H:Hp}{s:Shared}(I:Inv X pins σ H s):∀{x:V} {d:PyData} {u:Value},RdR H x d ->RelV x u ->∃as,Reads s.heap u d as/\sysModules ∉ as
 |_,_,_,.non,r=>by cases r;exact⟨_,.none,by simp⟩
 |_,_,_,.bl b,r=>by cases r;exact⟨_,.bool b,by simp⟩
 |_,_,_,.int i,r=>by obtain⟨t,rfl⟩:=r;exact⟨_,.int i t,by simp⟩
 |_,_,_,.str x,r=>by obtain⟨t,rfl⟩:=r;exact⟨_,.str x t,by simp⟩
 | _,_,_,.tup h q,r=>by
   cases r
   obtain⟨_,its,rv,o,e,c,n,d⟩:=I.hok _ _ h
   obtain⟨as,z,y⟩:=RdRs.reads I q rv
   exact⟨_,.tuple e c d (by simpa using z),y⟩
 | _,_,_,.lst (a:=a) h nn q,r=>by
   cases r
   obtain⟨_,its,n,rv,e⟩:=I.hok _ _ h
   obtain⟨as,z,y⟩:=RdRs.reads I q rv
   refine⟨_,.list e rfl rfl (by simpa using z),fun hm=>?_⟩
   rcases List.mem_cons.mp hm with hm|hm
   . exact nn hm.symm
   . exact y hm
 | _,_,_,.dct0 (a:=a) h,r=>by
   cases r
   obtain⟨_,nS,vs,kv,o,es,ep,e,c,d,_,ps,_⟩:=I.hok _ _ h
   cases kv
   cases hp:es.toList with
   |cons _ _=>rw[hp] at ps;cases ps
   | nil=>
     refine⟨_,.dict (kvs:=[]) e c.1 d (by rw[hp];exact .nil) (by rw[hp];exact .nil),fun hm=>?_⟩
     exact beq_eq_false_iff_ne.mp nS (by simpa using hm:sysModules=a).symm
 | _, _, _,.dct1 (a:=a) (z:=z) (b:=b) h,r=>by
   cases r
   obtain⟨_,nS,vs,kv,o,es,ep,e,c,d,_,ps,_⟩:=I.hok _ _ h
   cases kv with
   | cons k1 k2=>
     cases k2
     obtain⟨k1a,k1b⟩:=k1
     cases ps':es.toList with
     |nil=>rw[ps'] at ps;cases ps
     | cons en rest=>
       rw[ps'] at ps
       cases ps with
       | cons p1 p2 p3=>
         cases p3
         have hk:∃t,en.key= .str z t:=by
           rw[<-k1a] at p1
           have p1:Value.isStrOf z en.key=true:=p1
           cases hk:en.key<;>rw[hk] at p1<;>simp[Value.isStrOf] at p1
           subst p1
           exact⟨_,rfl⟩
         obtain⟨t,hk⟩:=hk
         have hv:en.val= .bool b:=p2.trans k1b
         refine⟨_,.dict (kvs:=[(.str z,.bool b)]) e c.1 d (by rw[ps'];show ReadsAll s.heap [en.key] [.str z] _;rw[hk];exact .cons (.str z t) .nil) (by rw[ps'];show ReadsAll s.heap [en.val] [.bool b] _;rw[hv];exact .cons (.bool b) .nil),fun hm=>?_⟩
         exact beq_eq_false_iff_ne.mp nS (by simpa using hm:sysModules=a).symm
theorem RdRs.reads{pins:List (Addr×Obj)}{σ:St}{H:Hp}{s:Shared}(I:Inv X pins σ H s):∀{xs:List V} {ds:List PyData} {us:List Value},RdRs H xs ds ->Vals xs us ->∃as,ReadsAll s.heap us ds as/\sysModules ∉ as
 |_,_,_,.nil,r=>by cases r;exact⟨_,.nil,by simp⟩
 | _,_,_,.cons h q,r=>by
   cases r with
   | cons r1 r2=>
     obtain⟨as,z,n1⟩:=RdR.reads I h r1
     obtain⟨bs,y,n2⟩:=RdRs.reads I q r2
     exact⟨_,.cons z y,by simp[n1,n2]⟩
end
end
section
variable{X:Cx}{j k:Nat}{f C:Addr}{fd:FuncData}{ps:List Str}{sp:Sp}{dvs:List V}{ds:List Value}{x m:Str}{p pos apos:Pos}{e o:Expr}{es:List Expr}{ta:TE}{t:TA}{st:Stmt}
end
structure LamB(mg:Str ->Option Value)(base:Heap)(c P:Addr):Prop where
 code:CodeHd base c P
 bm:∃bm ob,mg "__builtins__"=some (.ref bm)/\bm≠builtinsNs/\bm≠mainGlobals/\base.get? bm=some ob/\ob.cls= .type "module"/\ob.dict=some builtinsNs/\ob.data= .plain
noncomputable def Z1n (oc:Obj) (qual:Str):Prop:=∃vs t,oc.data= .fields vs/\vs[1]?=some (.str qual t)
noncomputable def TabOk (P:Addr) (pos:Pos) (qual:Str) (H:Hp):Prop:=∃ps,H P=some (.tbl ps)/\TriplesOk ps.toList/\(codeAmong pos ps.toList=none\/∃c' oc,codeAmong pos ps.toList=some (.ref c')/\H c'=some (.frz oc (.own c'))/\Z1n oc qual)
noncomputable def LamAt (H:Hp) (f:Addr) (qual:Str) (params:Arguments) (body:Expr) (scope:Scope) (clos:List (Str×Addr)):Prop:=
 ∃pm c' ctv oc,H f=some (.frz (kla_obj "<lambda>" qual params body scope clos pm c' ctv) (.own f))/\H c'=some (.frz oc (.own c'))/\Z1n oc qual
noncomputable def SameT (P:Addr) (H H':Hp):Prop:=∀b o,b≠P ->H b=some o ->H' b=some o
noncomputable def tLam (P:Addr) (pos:Pos) (qual:Str) (params:Arguments) (body:Expr) (scope:Scope) (clos:List (Str×Addr)):TE:=fun _ H Q=>TabOk P pos qual H/\∀f H',SameT P H H' ->H f=none ->LamAt H' f qual params body scope clos ->TabOk P pos qual H' ->(∀pos' q',(pos'.line≠pos.line\/pos'.col≠pos.col) ->TabOk P pos' q' H ->TabOk P pos' q' H') ->Q (.ref f) H'
theorem B5j{a b c:Value}{n m:Int}{t u:Tok}:∀l:List Value,TriplesOk l ->TriplesOk (l++ [.int n t,.int m u,c]):=by
 intro l h
 fun_induction TriplesOk l with
 |case1=>exact True.intro
 |case2 _ _ _ _ _ rest ih=>exact ih h
 |case3=>exact h.elim
theorem G7u{pos pos':Pos}{c:Value}(hp:pos'.line≠pos.line\/pos'.col≠pos.col):∀l:List Value,TriplesOk l ->codeAmong pos' (l++ [rawInt pos.line,rawInt pos.col,c])=codeAmong pos' l:=by
 intro l h
 fun_induction TriplesOk l with
 | case1=>
   have:¬(((pos.line:Int)==(pos'.line:Int)&&(pos.col:Int)==(pos'.col:Int))=true):=by
     intro z
     simp only[Bool.and_eq_true,beq_iff_eq] at z
     omega
   show(if((pos.line:Int)==(pos'.line:Int)&&(pos.col:Int)==(pos'.col:Int))=true then some c else codeAmong pos' [])=none
   rw[if_neg this]
   rfl
 | case2 a t b u x rest ih=>
   show(if _ then _ else codeAmong pos' (rest++_))=(if _ then _ else codeAmong pos' rest)
   rw[ih h]
 |case3=>exact h.elim
theorem B1x{X:Cx}{c P:Addr}{params:Arguments}{body:Expr}{scope:Scope}{pos:Pos}{clos:List (Str×Addr)}(L:LamB X.mg X.base c P)(hc:X.env.code= .ref c)(hcl:closureFor scope X.env=pure clos)(hex:X.ex=[]:=by rfl)(hdef:defaultsOf params X.env=([],[]):=by rfl):
   PE X (.Lambda params body scope pos) (tLam P pos (X.env.qual++"<lambda>") params body scope clos):=by
 intro pins s σ H Q I ⟨⟨ps,hP,ht,hcase⟩,k⟩
 obtain⟨bm,ob,b1,b2,b3,b4,b5,b6,b7⟩:=L.bm
 have hg:s.heap.Ns mainGlobals X.mg:=I.ok.mod.glob.keeps I.bk
 have hPo:s.heap.get? P=some (tabObj ps):=I.hok P _ hP
 have nP:∀b o,X.base.get? b=some o ->b≠P:=fun b o e z=>by
   have:=(I.bs b o e).2
   rw[z,hP] at this
   cases this
 have hgP:mainGlobals≠P:=by
   obtain⟨o,_,_,e,_⟩:=I.ok.mod.glob
   exact nP _ _ e
 refine kla_eval hdef ?_
 rcases hcase with hnf|⟨c',oc,hf,hc',ho⟩
 . refine kla_makeFunction hcl I.ok.glob hg hc (L.code.keeps I.bk) hPo ht hnf hgP ⟨bm,ob,b1,b2,b3,nP _ _ b4,I.bk _ _ b4,b5,b6,b7⟩ fun c' ctv h' tk hx hge hlt hrec htb=>?_
   obtain⟨c2,oc,vs,t,e2,hoc,hd,hv⟩:=hrec
   cases e2
   generalize hfo:kla_obj "<lambda>" (X.env.qual++"<lambda>") params body scope clos ((X.mg "__name__").getD .none) c' ctv=fo
   have kx:∀b o,b≠P ->s.heap.get? b=some o ->(h'.push fo).get? b=some o:=fun b o hb e=>Heap.get?_push_of_some _ (hx b o hb e)
   have fP:∀b,H b=none ->b≠P:=fun b n z=>by rw[z,hP] at n;cases n
   have I1 : Inv X pins σ (upd H P (.tbl (ps++ #[rawInt pos.line,rawInt pos.col,.ref c']))) {s with heap:=h'.push fo,toks:=tk}:=by
     refine I.un ⟨fun b o e n _ _=>kx b o (fP b n) e,fun b o e n _ _=>⟨o.slots,kx b o (fP b n) e⟩,fun b o e n _=>by rw[D3 (fP b n)];exact n,fun b o e _=>?_,fun b xs e=>?_,fun b o u e=>?_,fun b qs e=>?_⟩ fun b u e=>?_
     . by_cases hb:b=P
       . exact⟨_,by rw[hb];exact Heap.get?_push_of_some _ htb⟩
       . exact⟨o,kx b o hb e⟩
     . rw[D3 (by rintro rfl;rw[hP] at e;cases e)];exact e
     . rw[D3 (by rintro rfl;rw[hP] at e;cases e)];exact e
     . by_cases hb:b=P
       . subst hb
         rw[hP] at e
         cases e
         exact⟨_,A9⟩
       . exact⟨#[],by rw[D3 hb,e];simp⟩
     . by_cases hb:b=P
       . subst hb
         rw[A9] at e
         cases e
         exact Heap.get?_push_of_some _ htb
       . rw[D3 hb] at e
         refine(I.hok b u e).stay (fun d v hd q=>kx d v ?_ q) (fun d q=>?_) fun d xs q=>?_
         . rcases hd with rfl|hd
           . exact hb
           . rintro rfl
             rw[hP] at hd
             cases hd
         . rw[D3 (by rintro rfl;rw[hP] at q;cases q)];exact q
         . rw[D3 (by rintro rfl;rw[hP] at q;cases q)];exact q
   have nc:s.heap.get? c'=none:=Heap.get?_none_of_le hge
   have nf:s.heap.get? h'.objs.size=none:=Heap.get?_none_of_le (Nat.le_trans hge (Nat.le_of_lt hlt))
   have uc:H c'=none:=I.hok.new nc
   have uf:H h'.objs.size=none:=I.hok.new nf
   have cP:c'≠P:=fP c' uc
   have fP':h'.objs.size≠P:=fP _ uf
   have cf:c'≠h'.objs.size:=Nat.ne_of_lt hlt
   have I2:=I1.track (a:=c') (o:=oc) (I.nw hex nc (by rw[D3 cP];exact uc)) (Heap.get?_push_of_some _ hoc)
   have I3:=I2.track (a:=h'.objs.size) (o:=fo) (I.nw hex nf (by rw[D3 cf.symm,D3 fP'];exact uf)) (Heap.get?_push_size _ (by rw[<-hfo];rfl))
   refine⟨.ref h'.objs.size,_,I3,rfl,k _ _ (fun b o hb e=>?_) uf ⟨_,c',ctv,oc,by rw[A9,hfo],by rw[D3 cf,A9],vs,t,hd,hv⟩ ⟨ps++ #[rawInt pos.line,rawInt pos.col,.ref c'],by rw[D3 fP'.symm,D3 cP.symm,A9],?_,.inr ⟨c',oc,?_,by rw[D3 cf,A9],vs,t,hd,hv⟩⟩ fun pos' q' hp ⟨ps2,z1,z2,z3⟩=>⟨ps++ #[rawInt pos.line,rawInt pos.col,.ref c'],by rw[D3 fP'.symm,D3 cP.symm,A9],?_,?_⟩⟩
   . rw[D3 (by rintro rfl;rw[uf] at e;cases e),D3 (by rintro rfl;rw[uc] at e;cases e),D3 hb];exact e
   . rw[Array.toList_append]
     exact B5j (a:= .none) (b:= .none) _ ht
   . rw[Array.toList_append]
     exact codeAmong_snoc _ ht hnf
   . rw[Array.toList_append]
     exact B5j (a:= .none) (b:= .none) _ ht
   . rw[hP] at z1
     cases z1
     rw[Array.toList_append]
     have e:codeAmong pos' (ps.toList++ [rawInt pos.line,rawInt pos.col,Value.ref c'])=codeAmong pos' ps.toList:=G7u hp _ ht
     rcases z3 with z3|⟨c2,oc2,z4,z5,z6⟩
     . exact .inl (e.trans z3)
     . exact .inr ⟨c2,oc2,e.trans z4,by rw[D3 (by rintro rfl;rw[uf] at z5;cases z5),D3 (by rintro rfl;rw[uc] at z5;cases z5),D3 (by rintro rfl;rw[hP] at z5;cases z5)];exact z5,z6⟩
 . refine kla_makeFunctionHit hcl I.ok.glob hg hc (L.code.keeps I.bk) hPo ht hf ⟨bm,ob,b1,b2,b3,nP _ _ b4,I.bk _ _ b4,b5,b6,b7⟩ fun ctv h' tk hk hsz=>?_
   generalize hfo:kla_obj "<lambda>" (X.env.qual++"<lambda>") params body scope clos ((X.mg "__name__").getD .none) c' ctv=fo
   have nf:s.heap.get? h'.objs.size=none:=Heap.get?_none_of_le hsz
   have uf:H h'.objs.size=none:=I.hok.new nf
   have I1:Inv X pins σ H {s with heap:=h'.push fo,toks:=tk}:=I.kept fun b o e=>Heap.get?_push_of_some _ (hk b o e)
   have I3:=I1.track (a:=h'.objs.size) (o:=fo) (I.nw hex nf uf) (Heap.get?_push_size _ (by rw[<-hfo];rfl))
   have ne:∀b o,H b=some o ->b≠h'.objs.size:=fun b o e z=>by rw[z,uf] at e;cases e
   show∃v H',Inv X pins σ H' {s with heap:=h'.push (kla_obj "<lambda>" (X.env.qual++"<lambda>") params body scope clos ((X.mg "__name__").getD .none) c' ctv),toks:=tk}/\RelV v (.ref h'.objs.size)/\Q v H'
   rw[hfo]
   refine⟨.ref h'.objs.size,upd H h'.objs.size (.frz fo (.own h'.objs.size)),I3,rfl,k _ _ (fun b o hb e=>by rw[D3 (ne b o e)];exact e) uf ⟨_,c',ctv,oc,by rw[A9,hfo],by rw[D3 (ne _ _ hc')];exact hc',ho⟩ ⟨ps,by rw[D3 (ne _ _ hP)];exact hP,ht,.inr ⟨c',oc,hf,by rw[D3 (ne _ _ hc')];exact hc',ho⟩⟩ fun pos' q' hp ⟨ps2,z1,z2,z3⟩=>⟨ps2,by rw[D3 (ne _ _ z1)];exact z1,z2,z3.imp id fun⟨c2,oc2,z4,z5,z6⟩=>⟨c2,oc2,z4,by rw[D3 (ne _ _ z5)];exact z5,z6⟩⟩⟩
noncomputable def V7 (cs:List Addr) (H:Hp):Hp:=fun b=>if b∈cs then none else H b
noncomputable def Z6 (cs:List Addr) (H H':Hp):Hp:=fun b=>if b∈cs then H b else H' b
section
variable{cs:List Addr}{H H' H2:Hp}{b:Addr}{P:Program}{w:World}{h h':Heap}{fs:List Addr}
theorem B4z(hb:b∈cs):V7 cs H b=none:=by unfold V7;rw[if_pos hb]
theorem Y4(hb:b ∉ cs):V7 cs H b=H b:=by unfold V7;rw[if_neg hb]
theorem B1v(n:H b=none):V7 cs H b=none:=by
 unfold V7
 split
 . rfl
 . exact n
theorem D2b(hb:b∈cs):Z6 cs H H' b=H b:=by unfold Z6;rw[if_pos hb]
theorem V6(hb:b ∉ cs):Z6 cs H H' b=H' b:=by unfold Z6;rw[if_neg hb]
noncomputable def AllFrz (cs:List Addr) (H:Hp):Prop:=∀c∈cs,∃o,H c=some (.frz o (.own c))
theorem AllFrz.out{u:HO}(A:AllFrz cs H)(e:H b=some u)(hu:∀o,u≠ .frz o (.own b)):b ∉ cs:=fun hb=>by
 obtain⟨o,z⟩:=A b hb
 rw[e] at z
 exact hu o (Option.some.inj z)
theorem AllFrz.hide{u:HO}(A:AllFrz cs H)(e:H b=some u)(hu:∀o,u≠ .frz o (.own b)):V7 cs H b=some u:=by rw[Y4 (A.out e hu)];exact e
theorem HOk.hide(x:HOk P w H h)(A:AllFrz cs H):HOk P w (V7 cs H) h:=fun a o e=>by
 by_cases ha:a∈cs
 . rw[B4z ha] at e;cases e
 . rw[Y4 ha] at e
   exact(x a o e).stay (fun _ _ _ q=>q) (fun d q=>A.hide q fun o z=>nomatch z) fun d xs q=>A.hide q fun o z=>nomatch z
theorem Y5f(u:Un fs [] (V7 cs H) H' h h')(A:AllFrz cs H):Un fs [] H (Z6 cs H H') h h' where
 keep:=fun b o e n hb hx=>u.keep b o e (by unfold V7;split<;>first|rfl|exact n) hb hx
 slot:=fun b o e n hb hx=>u.slot b o e (by unfold V7;split<;>first|rfl|exact n) hb hx
 free:=fun b o e n hx=>by
   have hb:b ∉ cs:=fun z=>by
     obtain⟨o,q⟩:=A b z
     rw[n] at q;cases q
   rw[V6 hb]
   exact u.free b o e (by rw[Y4 hb];exact n) hx
 there:=u.there
 tups:=fun b xs e=>by
   have hb:=A.out e fun o z=>nomatch z
   rw[V6 hb]
   exact u.tups b xs (by rw[Y4 hb];exact e)
 frzs:=fun b o v e=>by
   by_cases hb:b∈cs
   . rw[D2b hb];exact e
   . rw[V6 hb];exact u.frzs b o v (by rw[Y4 hb];exact e)
 tbls:=fun b ps e=>by
   have hb:=A.out e fun o z=>nomatch z
   rw[V6 hb]
   exact u.tbls b ps (by rw[Y4 hb];exact e)
theorem J9f(u:Un fs [] (V7 cs H) H' h h')(A:AllFrz cs H)(x:HOk P w H h):∀c∈cs,H' c=none:=fun c hc=>by
 obtain⟨o,e⟩:=A c hc
 obtain⟨e1,_⟩:=x c _ e
 exact u.free c o e1 (B4z hc) (by simp)
theorem V1b(u:Un fs [] (V7 cs H) H' h h')(A:AllFrz cs H)(x:HOk P w H h)(x':HOk P w H' h')(hf:∀b∈fs,H b=none):HOk P w (Z6 cs H H') h':=fun a o e=>by
 have nn:=J9f u A x
 by_cases ha:a∈cs
 . rw[D2b ha] at e
   obtain⟨o',e'⟩:=A a ha
   rw[e] at e'
   cases e'
   obtain⟨e1,_⟩:=x a _ e
   have e2:=u.keep a o' e1 (B4z ha) (fun z=>by rw[hf a z] at e;cases e) (by simp)
   exact⟨e2,o',e2⟩
 . rw[V6 ha] at e
   refine(x' a o e).stay (fun _ _ _ q=>q) (fun d q=>?_) fun d xs q=>?_
   . rw[V6 fun z=>by rw[nn d z] at q;cases q];exact q
   . rw[V6 fun z=>by rw[nn d z] at q;cases q];exact q
theorem Y6s(u:Un fs [] H2 H' h h')(A:AllFrz cs H2)(ho:∀b,b ∉ cs ->H2 b=H b)(hn:∀b∈cs,H b=none)(x:HOk P w H2 h)(x':HOk P w H' h'):Un fs [] H (V7 cs H') h h':=by
 have kp:∀b o,b∈cs ->h.get? b=some o ->h'.get? b=some o:=fun b o hb e=>by
   obtain⟨o1,z⟩:=A b hb
   obtain⟨e1,_⟩:=x b _ z
   rw[e] at e1
   cases e1
   exact(x' b _ (u.frzs b _ _ z)).1
 have out:∀b v,H b=some v ->b ∉ cs:=fun b v e z=>by rw[hn b z] at e;cases e
 refine⟨fun b o e n hb hx=>?_,fun b o e n hb hx=>?_,fun b o e n hx=>?_,u.there,fun b xs e=>?_,fun b o v e=>?_,fun b ps e=>?_⟩
 . by_cases hc:b∈cs
   . exact kp b o hc e
   . exact u.keep b o e (by rw[ho b hc];exact n) hb hx
 . by_cases hc:b∈cs
   . exact⟨o.slots,kp b o hc e⟩
   . exact u.slot b o e (by rw[ho b hc];exact n) hb hx
 . by_cases hc:b∈cs
   . exact B4z hc
   . rw[Y4 hc];exact u.free b o e (by rw[ho b hc];exact n) hx
 . rw[Y4 (out b _ e)];exact u.tups b xs (by rw[ho b (out b _ e)];exact e)
 . rw[Y4 (out b _ e)];exact u.frzs b o v (by rw[ho b (out b _ e)];exact e)
 . rw[Y4 (out b _ e)];exact u.tbls b ps (by rw[ho b (out b _ e)];exact e)
end
noncomputable def U8b (H:Hp) (c:Addr) (v:V):Prop:=∃o u,H c=some (.frz o (.own c))/\o.data= .cell (some u)/\RelV v u
noncomputable def C2y (CX:CXT) (P:Program) (w:World) (K:Frag) (mg:Str ->Option Value) (base:Heap) (N:List Str) (qual:Str) (scope:Scope) (f:Addr) (cd:Value) (cl:List (Str×Addr)) (A:Around) (outer:List Env) (s:Shared) (H:Hp) (E:XK):Cx where
 prog:=P
 w:=w
 K:=K
 mg:=mg
 base:=base
 A:=A.deeper (envX qual scope s.heap.objs.size f cd cl)
 N:=N
 s₀:=s
 H₀:=H
 env:=envX qual scope s.heap.objs.size f cd cl
 outer:=outer
 stack:=envX qual scope s.heap.objs.size f cd cl::outer
 ex:=[]
 calm:=true
 fn:=fun _=>false
 pn:=[]
 xe:=fun e s'=>wpAny (model P w) (A.deeper (envX qual scope s.heap.objs.size f cd cl)) (leaving (envX qual scope s.heap.objs.size f cd cl) e) (fun _ s''=>CX outer H s E e s'') (fun e' s''=>CX outer H s E e' s'') s'
structure LamS(F:List Str)(sc:Scope):Prop where
 kind:sc.kind= .function
 co:sc.isCoroutine=false
 gen:sc.isGenerator=false
 nocell:∀y∈sc.names,y.2≠ .cell
 fr:∀y∈sc.names,y.2= .free ->y.1∈F
 at_:∀x∈F,sc.names.lookup x=some .free
 nd:F.Nodup
noncomputable def Z3f (f:Addr) (qual:Str) (params:Arguments) (body:Expr) (scope:Scope) (cl:List (Str×Addr)) (vs:List V) (H:Hp):Prop:=
 LamAt H f qual params body scope cl/\∀(i:Nat) (x:Str) (c:Addr),cl[i]?=some (x,c) ->∃v,vs[i]?=some v/\U8b H c v
theorem B6q:∀{cl:List (Str×Addr)} {i:Nat} {x:Str} {c:Addr},(cl.map (·.1)).Nodup ->cl[i]?=some (x,c) ->cl.lookup x=some c
 | [],i,x,c,_,h=>by cases i<;>cases h
 |(y,d)::r,0,x,c,_,h=>by cases h;simp[List.lookup]
 | (y,d)::r,i+1,x,c,nd,h=>by
   have nd':y ∉ r.map (·.1)/\(r.map (·.1)).Nodup:=List.nodup_cons.mp nd
   have hm:x∈r.map (·.1):=List.mem_map.mpr ⟨(x,c),List.mem_of_getElem? (by simpa using h),rfl⟩
   have ne:(x==y)=false:=beq_eq_false_iff_ne.mpr fun z=>nd'.1 (z▸hm)
   rw[List.lookup_cons,ne]
   exact B6q nd'.2 (by simpa using h)
theorem U8a:∀{cl:List (Str×Addr)} {x y:Str} {c:Addr},(cl.map (·.2)).Nodup ->(x,c)∈cl ->(y,c)∈cl ->x=y
 | p::r,x,y,c,nd,h1,h2=>by
   have nd':p.2 ∉ r.map (·.2)/\(r.map (·.2)).Nodup:=List.nodup_cons.mp nd
   rcases List.mem_cons.mp h1 with e1|h1<;>rcases List.mem_cons.mp h2 with e2|h2
   . rw[<-e1] at e2;cases e2;rfl
   . exact absurd (List.mem_map.mpr ⟨(y,c),h2,by rw[<-e1]⟩) nd'.1
   . exact absurd (List.mem_map.mpr ⟨(x,c),h1,by rw[<-e2]⟩) nd'.1
   . exact U8a nd'.2 h1 h2
theorem G1x{P:Program}{w:World}{K:Frag}{mg:Str ->Option Value}{base:Heap}{N:List Str}{qual:Str}{scope:Scope}{f:Addr}{cd:Value}{cl:List (Str×Addr)}{A:Around}{outer:List Env}{s:Shared}{H:Hp}{E:XK}:
   G7 (C2y (CX1 P w) P w K mg base N qual scope f cd cl A outer s H E) (fun C dd _ H'=>E C dd H'):=by
 intro pins σ H' s' a t C dd I F h
 refine D0f (X:=C2y (CX1 P w) P w K mg base N qual scope f cd cl A outer s H E) ⟨rfl,rfl,rfl⟩ I F fun s2 I2 F2=>?_
 obtain⟨na,T,oT,ts,e,ne,nT,eT,dT,h3⟩:=F2
 exact⟨a,t,C,dd,H',rfl,I2.os,I2.bare,I2.base,I2.hok,h,⟨na.old,na.un⟩,T,oT,ts,e,ne,⟨nT.old,nT.un⟩,eT,dT,h3⟩
section
variable{X:Cx}{j k:Nat}{f:Addr}{fd:FuncData}{ps:List Str}{sp:Sp}{ds:List Value}{EH:EK}{x:Str}{p pos:Pos}{e:Expr}{es:List Expr}{t:TA}{st:Stmt}
noncomputable def Z3d (sp:Sp) (cl:List (Str×Addr)) (js:List Nat) (EH:EK) (t:TA):TE:=fun σ H Q=>t σ H fun vs H1=>(∀c∈cl.map (·.2),H1 c=none) ->∀H2,(∀b,b ∉ cl.map (·.2) ->H2 b=H1 b) ->AllFrz (cl.map (·.2)) H2 ->
 (∀(i:Nat) (x:Str) (c:Addr) (j:Nat) (v:V),cl[i]?=some (x,c) ->js[i]?=some j ->σ[j]?=some (some v) ->U8b H2 c v) ->
 sp vs H2 (fun v H'=>(∀c∈cl.map (·.2),H' c=H2 c) ->Q v (V7 (cl.map (·.2)) H')) (fun C d H'=>(∀c∈cl.map (·.2),H' c=H2 c) ->EH C d σ (V7 (cl.map (·.2)) H'))
structure CellsZ(cl:List (Str×Addr))(js:List Nat)(XN:List Str)(env:Env):Prop where
 at_:∀(i:Nat) (x:Str) (c:Addr),cl[i]?=some (x,c) ->env.cells.lookup x=some c/\env.kindOf x=some .cell/\∀j,js[i]?=some j ->XN[j]?=some x
theorem D2n{cl:List (Str×Addr)}{js:List Nat}(D:Def X.K X.mg x ps st f fd)(F:FnOkG X.prog X.w X.K X.mg X.base (CX1 X.prog X.w) j f fd ps sp)(hgd:X.A.guards=some [])(hr:Room k X.A)(hx:G7 X EH)(Z:CellsZ cl js X.N X.env)(ha:PA X (e::es) t)(hj:j<=k:=by decide)(hfn:∀y,X.fn y=true:=by intro _;rfl)(hg:Gl X x:=by rfl)(hex:X.ex=[]:=by rfl)
   (hdb:(x==("__debug__":Str))=false:=by decide) (he:starEach (e::es) X.env=(false,eval e X.env)::starEach es X.env:=by rfl) (hpl:(backTo pos (starEach es X.env)).any (·.1)=false:=by rfl):PE X (.Call (.Name x p) (e::es) [] pos) (Z3d sp cl js EH t):=by
 intro pins s0 σ H0 Q I0 h0
 refine wpAny_Call_Name_kw (A0h I0 hg D.g ?_ hdb)
 refine PySem.W.callWith_K (h₀:=X.base) I0.ok.mod.kin D.F.kp (thn (ha pos pins s0 σ H0 _ I0 h0) fun us s ⟨vs,H,I,r,q⟩=>⟨I.kIn,?_⟩) he hpl
 have inn:∀c∈cl.map (·.2),∃x,X.env.cells.lookup x=some c:=fun c hc=>by
   obtain⟨⟨y,c2⟩,hm,rfl⟩:=List.mem_map.mp hc
   obtain⟨i,hi⟩:=List.mem_iff_getElem?.mp hm
   exact⟨y,(Z.at_ i y c2 hi).1⟩
 have hn:∀c∈cl.map (·.2),H c=none:=fun c hc=>by
   obtain⟨y,hy⟩:=inn c hc
   exact I.freeC y c hy
 have hc:∀c∈cl.map (·.2),∃o v,s.heap.get? c=some o/\o.data= .cell v:=fun c hc=>by
   obtain⟨y,hy⟩:=inn c hc
   obtain⟨v,o,h1,h2⟩:=I.cell y c hy
   exact⟨o,v,h1,h2⟩
 let H2:Hp:=fun b=>if b∈cl.map (·.2) then(s.heap.get? b).map fun o=> .frz o (.own b) else H b
 have h2i:∀c o,c∈cl.map (·.2) ->s.heap.get? c=some o ->H2 c=some (.frz o (.own c)):=fun c o hc e=>by
   show(if c∈cl.map (·.2) then _ else _)=_
   rw[if_pos hc,e]
   rfl
 have h2o:∀b,b ∉ cl.map (·.2) ->H2 b=H b:=fun b hb=>if_neg hb
 have A2:AllFrz (cl.map (·.2)) H2:=fun c hcc=>by
   obtain⟨o,v,h1,_⟩:=hc c hcc
   exact⟨o,h2i c o hcc h1⟩
 have out:∀b u,H b=some u ->b ∉ cl.map (·.2):=fun b u e z=>by rw[hn b z] at e;cases e
 have hok2:HOk X.prog X.w H2 s.heap:=fun b u e=>by
   by_cases hb:b∈cl.map (·.2)
   . obtain⟨o,v,h1,_⟩:=hc b hb
     rw[h2i b o hb h1] at e
     cases e
     exact⟨h1,o,h1⟩
   . rw[h2o b hb] at e
     exact(I.hok b u e).stay (fun _ _ _ q=>q) (fun d q=>by rw[h2o d (out d _ q)];exact q) fun d xs q=>by rw[h2o d (out d _ q)];exact q
 have ncell:∀b o,b∈cl.map (·.2) ->s.heap.get? b=some o ->∃v,o.data= .cell v:=fun b o hb e=>by
   obtain⟨o',v,h1,h2⟩:=hc b hb
   rw[e] at h1
   cases h1
   exact⟨v,h2⟩
 have e2 :Env0 X.prog X.w X.K X.mg X.base X.A X.stack s H2:=by
   have e0:=I.env0
   refine⟨e0.frames,e0.mod,fun b o z=>⟨(e0.bs b o z).1,?_⟩,e0.bsz,e0.funs,fun b hb=>?_,hok2,e0.bare⟩
   . rw[h2o b fun z2=>?_]
     . exact(e0.bs b o z).2
     . obtain⟨y,hy⟩:=inn b z2
       have:=Nat.le_trans I.ok.bsz (I.ok.cab y b (hfn y) hy)
       exact absurd (Nat.lt_of_lt_of_le (Heap.lt_size z) this) (Nat.lt_irrefl _)
   . rw[h2o b fun z2=>?_]
     . exact e0.frf b hb
     . obtain⟨y,hy⟩:=inn b z2
       rcases List.mem_cons.mp (I.stkSub b hb) with z3|z3
       . exact I.cne y b hy z3
       . obtain⟨_,o,ho,_⟩:=I.ok.funs.mem z3
         exact absurd (Nat.lt_of_lt_of_le (Heap.lt_size ho) (I.ok.cab y b (hfn y) hy)) (Nat.lt_irrefl _)
 have q2:=q hn H2 h2o A2 fun i y c j v h1 h2 h3=>by
   obtain⟨z1,z2,z3⟩:=Z.at_ i y c h1
   obtain⟨m,_,hl⟩:=I.loc
   obtain⟨u,r,l⟩:=hl j y v (z3 j h2) h3 (.inr (.inl z2))
   rcases l with⟨k,_⟩|⟨_,c',h4,o,h5,h6⟩
   . rw[z2] at k;cases k
   . rw[z1] at h4
     cases h4
     exact⟨o,u,h2i c o (List.mem_map.mpr ⟨(y,c),List.mem_of_getElem? h1,rfl⟩) h5,h6,r⟩
 have hl:us.length=ps.length:=by rw[<-r.length];exact F.len _ _ _ _ q2
 refine wpAny_call (codeAny_mono (F.run X.A X.stack s H2 ⟨us,[]⟩ us vs _ _ hgd (hr.mono hj) e2 (by have:=D.b s us I.kIn (by simpa using hl);simpa using this) r q2) fun r s' hq=>?_)
 have fin:∀{H':Hp},Un (frs X.stack) [] H2 H' s.heap s'.heap ->HOk X.prog X.w H' s'.heap ->Un (frs X.stack) [] H (V7 (cl.map (·.2)) H') s.heap s'.heap/\HOk X.prog X.w (V7 (cl.map (·.2)) H') s'.heap/\∀c∈cl.map (·.2),H' c=H2 c:=fun{H'} un hok=>by
   have same:∀c∈cl.map (·.2),H' c=H2 c:=fun c hcc=>by
     obtain⟨o,z⟩:=A2 c hcc
     rw[z]
     exact un.frzs c o _ z
   exact⟨Y6s un A2 h2o hn hok2 hok,hok.hide fun c hcc=>by rw[same c hcc];exact A2 c hcc,same⟩
 cases r with
 | error e=>
   obtain⟨a,t,C,dd,H',rfl,os,bare,un,hok,hE,⟨a1,a2⟩,T,oT,ts,z,ne,⟨t1,t2⟩,rest⟩:=hq
   obtain⟨r1,r2,r3⟩:=fin un hok
   exact Y6d hx hex I ⟨a,t,C,dd,_,rfl,os,bare,r1,r2,hE r3,⟨a1,B1v a2⟩,T,oT,ts,z,ne,⟨t1,B1v t2⟩,rest⟩
 | ok fl=>
   cases fl with
   | ret u=>
     obtain⟨v,H',os,bare,un,hok,rv,q3⟩:=hq
     obtain⟨r1,r2,r3⟩:=fin un hok
     exact I.after ⟨v,_,os,bare,r1,r2,rv,q3 r3⟩
   |next=>exact False.elim hq
   |brk=>exact False.elim hq
   |cont=>exact False.elim hq
end
theorem U2p{c P0:Addr}{P:Program}{w:World}{K:PySem.W.Frag}{mg mb:Str ->Option Value}{CX:CXT}{k:Nat}{fa a:Addr}{fd:FuncData}{x:Str}{sp:Sp}{s₁:Shared}{vs:List Value}{ns:List Int}
   (hC:CodeHd s₁.heap c P0) (hT:s₁.heap.get? P0=some (tabObj #[])) (hKP:K.lookup P0=none) (hbm:∃bm ob,mg "__builtins__"=some (.ref bm)/\bm≠builtinsNs/\s₁.heap.get? bm=some ob/\ob.cls= .type "module"/\ob.dict=some builtinsNs/\ob.data= .plain)
   (KX:K.In s₁.heap) (hns:s₁.heap.Ns mainGlobals mg) (hb:s₁.heap.Ns builtinsNs mb) (hbb:∀x:Str,x≠"__name__" ->mb x=bootBuiltins x) (hlim:s₁.heap.NoLimit) (hg:s₁.gens= #[])
   (ha:s₁.heap.get? a=some {cls:= .type "list",data:= .seq vs.toArray}) (hi:IntsAre vs ns) (hl:ns.length<=sizeLine) (hr:Room k callerA)
   (F:∀base:Heap,K.In base ->base.Ns mainGlobals mg ->LamB mg base c P0 ->FnOkG P w K mg base CX k fa fd [x] sp) (hbind:∀(s:Shared) (u:Value),BindsTo s fd ⟨[u],[]⟩ [(x,u)])
   (hsp:∀H:Hp,H P0=some (.tbl #[]) ->SqL K H a (ns.map V.int) ->sp [.ref a] H (fun v _=>v= .bl true) fun _ _ _=>False)
   (hCX:∀H e s',CX [] H s₁ (fun _ _ _=>False) e s' ->False):
   codeAny (model P w) callerA (.call (.ref fa) ⟨[.ref a],[]⟩) (fun r s'=>r= .ok (.ret (.bool true))/\OldK s₁.heap s'.heap/\s'.os=s₁.os/\AllBare s'.gens) s₁:=by
 have rv:=D0c hi
 have lenV:=hi.length
 have core :∀H:Hp,H P0=some (.tbl #[]) ->(∀b,H b=none\/b=P0\/∃o xs,H b=some (.frz o (.lst xs))) ->SqL K H a (ns.map V.int) ->HOk P w H s₁.heap ->(∀b,H b≠none ->b=P0\/b=a) ->(H a≠none ->K.lookup a=none) ->
     codeAny (model P w) callerA (.call (.ref fa) ⟨[.ref a],[]⟩) (fun r s'=>r= .ok (.ret (.bool true))/\OldK s₁.heap s'.heap/\s'.os=s₁.os/\AllBare s'.gens) s₁:=by
   intro H hPt hO hS hok hA hK
   have base_of:∀{b:Addr} {o:Obj},s₁.heap.get? b=some o ->H b=none ->(C6j s₁.heap H).get? b=some o:=fun e n=>U9c e n
   have noA:∀{b:Addr} {o:Obj} {es:Array DictEntry} {ep:Nat},s₁.heap.get? b=some o ->o.data= .dict es ep ->H b=none:=fun{b o es ep} e d=>by
     cases q:H b with
     |none=>rfl
     | some u=>
       rcases hA b (by rw[q];simp) with e'|e'
       . subst e'
         rw[hT] at e;cases e
         have d':Data.fields #[]=Data.dict es ep:=d
         cases d'
       . subst e'
         rw[ha] at e;cases e
         have d':Data.seq vs.toArray _=Data.dict es ep:=d
         cases d'
   have nsK:∀{b:Addr} {m:Str ->Option Value},s₁.heap.Ns b m ->(C6j s₁.heap H).Ns b m:=fun{b m} ⟨o,es,ep,e,d,r⟩=>⟨o,es,ep,base_of e (noA e d),d,r⟩
   have hKb:K.In (C6j s₁.heap H):=fun b o e=>base_of (KX b o e) (by
     cases q:H b with
     |none=>rfl
     | some u=>
       rcases hA b (by rw[q];simp) with e'|e'
       . subst e'
         rw[hKP] at e;cases e
       . subst e'
         rw[hK (by rw[q];simp)] at e;cases e)
   have noC:∀{b:Addr} {o:Obj},s₁.heap.get? b=some o ->o≠tabObj #[] ->(∀n,o≠{cls:= .type "list",data:= .seq vs.toArray n}) ->H b=none:=fun{b o} e n1 n2=>by
     cases q:H b with
     |none=>rfl
     | some u=>
       rcases hA b (by rw[q];simp) with e'|e'
       . subst e'
         rw[hT] at e;cases e
         exact absurd rfl n1
       . subst e'
         rw[ha] at e;cases e
         exact absurd rfl (n2 _)
   have hLB:LamB mg (C6j s₁.heap H) c P0:=by
     refine⟨?_,?_⟩
     . obtain⟨o,vs1,file,tf,flags,tg,inF,text,tt,e1,r1,r2⟩:=hC
       exact⟨o,vs1,file,tf,flags,tg,inF,text,tt,base_of e1 (noC e1 (fun z=>by rw[z] at r1;cases r1) fun n z=>by rw[z] at r1;exact absurd (Value.type.inj r1) (by decide)),r1,r2⟩
     . obtain⟨bm,ob,b1,b2,b3,b4,b5,b6⟩:=hbm
       refine⟨bm,ob,b1,b2,?_,base_of b3 (noC b3 (fun z=>by rw[z] at b4;cases b4) fun n z=>by rw[z] at b4;exact absurd (Value.type.inj b4) (by decide)),b4,b5,b6⟩
       rintro rfl
       obtain⟨o,es,ep,e,d,_⟩:=hns
       rw[b3] at e;cases e
       rw[b6] at d;cases d
   have hM:Mod K mg (C6j s₁.heap H):=⟨hKb,nsK hns,⟨mb,nsK hb,hbb⟩,let⟨mc,h1,h2⟩:=hlim;⟨mc,nsK h1,h2⟩⟩
   have e0:Env0 P w K mg (C6j s₁.heap H) callerA [] s₁ H:=⟨rfl,hM,fun b o e=>Y5z e,Nat.le_of_eq (U1d _ _),trivial,fun b hb=>absurd (show b∈([]:List Addr) from hb) (by simp),hok,.of_eq hg⟩
   refine codeAny_mono ((F _ hKb (nsK hns) hLB).run callerA [] s₁ H ⟨[.ref a],[]⟩ [.ref a] [.ref a] _ _ rfl hr e0 (hbind s₁ (.ref a)) (.cons rfl .nil) (hsp H hPt hS)) fun r s' h=>?_
   cases r with
   |error e=>exact(hCX H e s' h).elim
   | ok fl =>
     cases fl with
     |next=>exact False.elim h
     |brk=>exact False.elim h
     |cont=>exact False.elim h
     | ret u=>
       obtain⟨v,H',os,bare,un,hok',r',q⟩:=h
       have q':v= .bl true:=q
       subst q'
       obtain rfl:u=Value.bool true:=r'
       obtain⟨more,hm⟩:=un.tbls P0 _ hPt
       have hP':s'.heap.get? P0=some (tabObj (#[]++more)):=hok' P0 _ hm
       have kp:∀b o,b≠P0 ->s₁.heap.get? b=some o ->s'.heap.get? b=some o:=fun b o nb e=>?_
       refine⟨rfl,⟨fun b o e=>?_,fun b o e=>?_⟩,os,bare⟩
       . by_cases hb:b=P0
         . subst hb
           rw[hT] at e
           cases e
           exact .inr (.inl ⟨(hC.tab hT).isCodeTable,rfl, #[],more,rfl,hP'⟩)
         . exact .inl (kp b o hb e)
       . by_cases hb:b=P0
         . exact⟨_,by rw[hb];exact hP'⟩
         . exact⟨o,kp b o hb e⟩
       cases q:H b with
       |none=>exact un.keep b o e q (by intro z;exact absurd (show b∈([]:List Addr) from z) (by simp)) (by simp)
       | some u=>
         rcases hO b with z|z|⟨ob,xs,z⟩
         . rw[q] at z;cases z
         . exact absurd z nb
         . have z2:=un.frzs b ob _ z
           obtain⟨e1,_⟩:=hok b _ z
           obtain⟨e2,_⟩:=hok' b _ z2
           rw[e] at e1;cases e1
           exact e2
 have nPa:P0≠a:=fun z=>by rw[z,ha] at hT;cases hT
 cases hk:K.lookup a with
 | some o=>
   have e:=KX a o hk
   rw[ha] at e
   cases e
   refine core (fun b=>if b=P0 then some (.tbl #[]) else none) (if_pos rfl) (fun b=>?_) (.inr ⟨_,vs.toArray,_,hk,rfl,rfl,rfl,by rw[List.size_toArray,lenV];exact hl,by simpa using rv⟩) (fun b u z=>?_) (fun b z=>?_) fun z=>absurd (if_neg nPa.symm) z
   . by_cases hb:b=P0
     . exact .inr (.inl hb)
     . exact .inl (if_neg hb)
   . by_cases hb:b=P0
     . have z':=(if_pos hb).symm.trans z
       cases z'
       subst hb
       exact hT
     . have z':=(if_neg hb).symm.trans z
       cases z'
   . by_cases hb:b=P0
     . exact .inl hb
     . exact absurd (if_neg hb) z
 | none=>
   refine core (fun b=>if b=P0 then some (.tbl #[]) else if b=a then some (.frz {cls:= .type "list",data:= .seq vs.toArray} (.lst (ns.map V.int))) else none) (if_pos rfl) (fun b=>?_) (.inl (.inr ⟨{cls:= .type "list",data:= .seq vs.toArray},(if_neg nPa.symm).trans (if_pos rfl)⟩)) (fun b u z=>?_) (fun b z=>?_) fun _=>hk
   . by_cases hp:b=P0
     . exact .inr (.inl hp)
     . by_cases hb:b=a
       . exact .inr (.inr ⟨_,_,(if_neg hp).trans (if_pos hb)⟩)
       . exact .inl ((if_neg hp).trans (if_neg hb))
   . by_cases hp:b=P0
     . have z':=(if_pos hp).symm.trans z
       cases z'
       subst hp
       exact hT
     . by_cases hb:b=a
       . have z':=((if_neg hp).trans (if_pos hb)).symm.trans z
         cases z'
         subst hb
         exact⟨ha,by rw[List.length_map];exact hl,vs,_,rv,ha⟩
       . have z':=((if_neg hp).trans (if_neg hb)).symm.trans z
         cases z'
   . by_cases hp:b=P0
     . exact .inl hp
     . by_cases hb:b=a
       . exact .inr hb
       . exact absurd ((if_neg hp).trans (if_neg hb)) z
theorem walk_ofL{c P0:Addr}{l:PySem.W.OpenLaw}{n k:Nat}{q:Program}{loose:List Str}{XP:(Str ->Option Value) ->Heap ->Prop}{YP:World ->Heap ->Prop}{d:DefRec}{K:Params ->PySem.W.Frag}{CX:World ->CXT}{sp:World ->Sp}{x:Str}
   (hn:l.most=some n) (hn2:n<=sizeLine) (hdf:d.params.defaults=[]) (hr:Room k callerA)
   (hY:∀(w:World) (h:Heap),YP w h ->(K w.params).In h/\CodeHd h c P0/\h.get? P0=some (tabObj #[])) (hKP:∀p,(K p).lookup P0=none)
   (F:∀(w:World) (mg:Str ->Option Value) (fa:Addr) (h:Heap),(K w.params).In h ->h.Ns mainGlobals mg ->mg d.name=some (.ref fa) ->
     ∃ fd:FuncData,(∀(s:Shared) (u:Value),BindsTo s fd ⟨[u],[]⟩ [(x,u)])/\
       ∀base:Heap,(K w.params).In base ->base.Ns mainGlobals mg ->LamB mg base c P0 ->FnOkG l.prog w (K w.params) mg base (CX w) k fa fd [x] (sp w))
   (hsp:∀(w:World) (H:Hp) (a:Addr) (ns:List Int),ns.length<=n ->H P0=some (.tbl #[]) ->SqL (K w.params) H a (ns.map V.int) ->sp w [.ref a] H (fun v _=>v= .bl true) fun _ _ _=>False)
   (hCX:∀(w:World) (H:Hp) (s:Shared) (e:Value) (s':Shared),CX w [] H s (fun _ _ _=>False) e s' ->False):
   PySem.W.WalkO q loose XP YP l.row.toRowW d [] (fun f vs=>PySem.call f vs):=by
 refine Att.attach_call hn hdf fun w s₀ s₁ mg mb fa o pm cd doc a vs ns G Y ho hd hcd hmg hobj hints hlen hg=>?_
 obtain⟨KX,hC,hT⟩:=hY w _ Y
 obtain⟨fd,hb,hF⟩:=F w mg fa _ KX G.T.g hmg
 exact U2p hC hT (hKP _) G.T.bmain KX G.T.g G.T.b G.T.builtins G.T.nolimit hg hobj hints (Nat.le_trans hlen hn2) hr hF hb (fun H hO hS=>hsp w H a ns hlen hO hS) fun H e s'=>hCX w H s₁ e s'
section
variable{X:Cx}
end
noncomputable def Y5w (H H':Hp):Prop:=∀b o,(∀ps,o≠ .tbl ps) ->H b=some o ->H' b=some o
theorem SameT.keep{P:Addr}{ps:Array Value}{H H':Hp}(s:SameT P H H')(h:H P=some (.tbl ps)):Y5w H H':=fun b o n e=>s b o (fun z=>by rw[z,h] at e;exact n ps (Option.some.inj e).symm) e
theorem TabOk.same{P:Addr}{pos:Pos}{q:Str}{H H':Hp}(h:TabOk P pos q H)(s:∀b o,H b=some o ->H' b=some o):TabOk P pos q H':=by
 obtain⟨ps,e,t,c⟩:=h
 exact⟨ps,s _ _ e,t,c.imp id fun⟨c',oc,a,b,d⟩=>⟨c',oc,a,s _ _ b,d⟩⟩
theorem TabOk.at{P:Addr}{pos:Pos}{q:Str}{H H':Hp}(h:TabOk P pos q H)(s:∀b o,H b=some o ->(b=P\/∃oc,o= .frz oc (.own b)) ->H' b=some o):TabOk P pos q H':=by
 obtain⟨ps,e,t,c⟩:=h
 exact⟨ps,s _ _ e (.inl rfl),t,c.imp id fun⟨c',oc,a,b,d⟩=>⟨c',oc,a,s _ _ b (.inr ⟨oc,rfl⟩),d⟩⟩
theorem SqL.kept{K:Frag}{H H':Hp}{a:Addr}{xs:List V}(h:SqL K H a xs)(s:∀o,H a=some o ->(o= .lst xs\/∃oc,o= .frz oc (.lst xs)) ->H' a=some o):SqL K H' a xs:=by
 rcases h with(h|⟨o,h⟩)|h
 . exact .inl (.inl (s _ h (.inl rfl)))
 . exact .inl (.inr ⟨o,s _ h (.inr ⟨o,rfl⟩)⟩)
 . exact .inr h
theorem Fun.okEL{P:Program}{w:World}{K:Frag}{mg:Str ->Option Value}{base:Heap}{x qual:Str}{st:Stmt}{f c:Addr}{fd:FuncData}{N ps:List Str}{k:Nat}{sp:Sp}(F:Fun K x qual st f fd)(hc0:fd.code= .ref c)(S:FnScope N ps (A1 st))(len:∀vs H Q E,sp vs H Q E ->vs.length=ps.length)
   (hbody:∀(X:Cx) (A:Around) (outer:List Env) (s:Shared) (H:Hp) (vs:List V) (Q:VK) (E:XK),X=Z9 (CX1 P w) P w K mg base N qual (A1 st) f (.ref c) A outer s H E ->X.A.guards=some [] ->Room k X.A ->G7 X (fun C dd _ H'=>E C dd H') ->sp vs H Q E ->
     ∃t,PSs (Z9 (CX1 P w) P w K mg base N qual (A1 st) f (.ref c) A outer s H E) (C6 st) t/\t {nx:=fun _ H'=>Q .non H',rt:=Q} (A0w N vs) H):FnOkG P w K mg base (CX1 P w) (k+1) f fd ps sp:=by
 obtain⟨oc,od,kV,doc,pm,an,cdv,ct,osl,rfl,lk,hc⟩:=F.ex
 obtain rfl:cdv= .ref c:=hc0
 exact Z2s lk hc S len fun A outer s H vs Q E hg hr h=>hbody _ A outer s H vs Q E rfl hg hr B2z h
theorem LamAt.kept{H H':Hp}{f:Addr}{qual:Str}{params:Arguments}{body:Expr}{scope:Scope}{cl:List (Str×Addr)}(h:LamAt H f qual params body scope cl)(s:∀b o,H b=some (.frz o (.own b)) ->H' b=some (.frz o (.own b))):LamAt H' f qual params body scope cl:=by
 obtain⟨pm,c',ctv,oc,e1,e2,r⟩:=h
 exact⟨pm,c',ctv,oc,s _ _ e1,s _ _ e2,r⟩
section
variable{X:Cx}{tg:Expr}
end
section
variable{X:Cx}
end
section
variable{prog:Program}{w:World}{A:Around}{E:Value ->Shared ->Prop}{s:Shared}
end
section
variable{X:Cx}{pos:Pos}
end
section
variable{X:Cx}{pos tpos pa pb:Pos}
end
section
variable{X:Cx}{N F:List Str}{js:List Nat}{scope:Scope}
end
section
variable{X:Cx}{tg:Expr}
end
section
variable{X:Cx}{pins:List (Addr×Obj)}{σ:St}{H:Hp}{s:Shared}
end
section
variable{X:Cx}{tg:Expr}
end
end L2
namespace TR
open PySem L2 PySem.W PyProof.Rows
structure OwnK(K:Frag):Prop where
 isi:nsIn K mainGlobals "isinstance"=some none
 int_:nsIn K mainGlobals "int"=some none
 bool_:nsIn K mainGlobals "bool"=some none
 str_:nsIn K mainGlobals "str"=some none
 list_:nsIn K mainGlobals "list"=some none
 tuple_:nsIn K mainGlobals "tuple"=some none
 dict_:nsIn K mainGlobals "dict"=some none
 len_:nsIn K mainGlobals "len"=some none
 range_:nsIn K mainGlobals "range"=some none
 min_:nsIn K mainGlobals "min"=some none
 max_:nsIn K mainGlobals "max"=some none
 abs_:nsIn K mainGlobals "abs"=some none
 any_:nsIn K mainGlobals "any"=some none
 all_:nsIn K mainGlobals "all"=some none
 sum_:nsIn K mainGlobals "sum"=some none
 repr_:nsIn K mainGlobals "repr"=some none
 enumerate_:nsIn K mainGlobals "enumerate"=some none
 reversed_:nsIn K mainGlobals "reversed"=some none
 zip_:nsIn K mainGlobals "zip"=some none
 sorted_:nsIn K mainGlobals "sorted"=some none
 divmod_:nsIn K mainGlobals "divmod"=some none
 set_:nsIn K mainGlobals "set"=some none
 ValueError_:nsIn K mainGlobals "ValueError"=some none
end TR
namespace L2
open PySem PySem.Spec PyProof.Rows PySem.W
structure DeedOk1(P:Program)(w:World)(K:Frag)(mg:Str ->Option Value)(base:Heap)(k:Nat)(f:Addr)(J:Hp ->Prop)(sp:V ->Hp ->VK ->XK ->Prop):Prop where
 fn:∀H h,J H ->HOk P w H h ->FnAt f h
 run:∀(A:Around) (outer:List Env) (s:Shared) (H:Hp) (y:V) (u:Value) (Q:VK) (E:XK),Room k A ->Env0 P w K mg base A outer s H ->J H ->RelV y u ->sp y H Q E ->codeAny (model P w) A (.call (.ref f) ⟨[u],[]⟩) (CR (CX1 P w) outer P w H s Q E) s
theorem U9q{P:Program}{w:World}{K:Frag}{mg:Str ->Option Value}{base:Heap}{k:Nat}{f:Addr}{qual:Str}{params:Arguments}{body:Expr}{scope:Scope}{cl:List (Str×Addr)}{vs:List V}{sp:V ->Hp ->VK ->XK ->Prop}{pr:Str}
   (S:LamS (cl.map (·.1)) scope) (hp:scope.names.lookup pr=some .local) (hF:cl.length=vs.length) (hnd:(cl.map (·.2)).Nodup)
   (hb0:∀(pm:Value) (c':Addr) (ctv:Value) (u:Value),bindArgs (kla_fn "<lambda>" qual params body scope cl pm (.ref c') ctv) ⟨[u],[]⟩=pure [(pr,u)])
   (hbody:∀(X:Cx) (cdv:Value) (A:Around) (outer:List Env) (s:Shared) (H:Hp) (y:V) (Q:VK) (E:XK),X=C2y (CX1 P w) P w K mg base (pr::cl.map (·.1)) qual scope f cdv cl A outer s (V7 (cl.map (·.2)) H) (fun C d H'=>(∀c∈cl.map (·.2),H' c=none) ->E C d (Z6 (cl.map (·.2)) H H')) ->Room k X.A ->
     G7 X (fun C dd _ H'=>(∀c∈cl.map (·.2),H' c=none) ->E C dd (Z6 (cl.map (·.2)) H H')) ->sp y H Q E ->AllFrz (cl.map (·.2)) H ->
     ∃t,PE (C2y (CX1 P w) P w K mg base (pr::cl.map (·.1)) qual scope f cdv cl A outer s (V7 (cl.map (·.2)) H) (fun C d H'=>(∀c∈cl.map (·.2),H' c=none) ->E C d (Z6 (cl.map (·.2)) H H'))) body t/\t (some y::vs.map some) (V7 (cl.map (·.2)) H) (fun v H'=>(∀c∈cl.map (·.2),H' c=none) ->Q v (Z6 (cl.map (·.2)) H H'))):
   DeedOk1 P w K mg base (k+1) f (Z3f f qual params body scope cl vs) sp:=by
 refine⟨fun H h ⟨⟨pm,c',ctv,oc,e,_⟩,_⟩ hok=>?_,fun A outer s H y u Q E hr e0 ⟨⟨pm,c',ctv,oc,e,ec,vs',t',hd,hv⟩,hk⟩ ru hsp=>?_⟩
 . obtain⟨e1,_⟩:=hok f _ e
   exact⟨_,_,_,_,e1⟩
 obtain⟨e1,_⟩:=e0.hok f _ e
 obtain⟨e2,_⟩:=e0.hok c' _ ec
 have lim:s.heap.NoLimit:=e0.mod.nolimit.keeps fun b o e=>(e0.bs b o e).1
 have af:AllFrz (cl.map (·.2)) H:=by
   intro c hc
   obtain⟨⟨x,c2⟩,hm,rfl⟩:=List.mem_map.mp hc
   obtain⟨i,hi⟩:=List.mem_iff_getElem?.mp hm
   obtain⟨v,_,o,u,h3,_⟩:=hk i x c2 hi
   exact⟨o,h3⟩
 refine kla_callFunE hr.depth e1 rfl S.co S.gen rfl ⟨c',oc,vs',t',rfl,e2,hd,hv⟩ ?_
 rw[hb0]
 refine wpAny_pure (wpAny_newFunctionEnv S.nocell (fun x hx=>by rw[List.mem_singleton.mp hx];exact hp) (fun h1 hns hsb=>?_) S.kind)
 have hk1:∀b o,s.heap.get? b=some o ->h1.get? b=some o:=fun b o e=>(hsb.2 b (Nat.ne_of_lt (Heap.lt_size e))).trans (Heap.get?_push_of_some _ e)
 refine⟨lim.keeps hk1,?_⟩
 obtain⟨t,ht,hq⟩:=hbody _ (.ref c') A outer s H y Q E rfl (hr.deeper _) G1x hsp af
 have hokH:HOk P w (V7 (cl.map (·.2)) H) s.heap:=e0.hok.hide af
 have look:∀x c,cl.lookup x=some c ->(x,c)∈cl:=fun x c z=>PySem.mem_of_lookup z
 have cell:∀x c,cl.lookup x=some c ->∃v,s.heap.IsCell c v:=fun x c z=>by
   obtain⟨i,hi⟩:=List.mem_iff_getElem?.mp (look x c z)
   obtain⟨v,_,o,u,h3,h4,_⟩:=hk i x c hi
   exact⟨_,o,(e0.hok c _ h3).1,h4⟩
 have incs:∀x c,cl.lookup x=some c ->c∈cl.map (·.2):=fun x c z=>List.mem_map.mpr ⟨(x,c),look x c z,rfl⟩
 generalize hX:C2y (CX1 P w) P w K mg base (pr::cl.map (·.1)) qual scope f (.ref c') cl A outer s (V7 (cl.map (·.2)) H) (fun C d H'=>(∀c∈cl.map (·.2),H' c=none) ->E C d (Z6 (cl.map (·.2)) H H'))=X at ht
 have I:Inv X [] (some y::vs.map some) (V7 (cl.map (·.2)) H) {s with heap:=h1,toks:=s.toks+1}:=by
   subst hX
   refine⟨⟨e0.mod,S.kind,rfl,rfl,Nat.le_refl _,fun x y c z1 z2=>U8a hnd (look x c z1) (look y c z2),fun x z=>?_,(fun _ _ z=>by cases z),fun _=>hr.hd,Around.frames_deeper e0.frames,.inr ⟨rfl,rfl⟩,(fun b z=>absurd (show b∈([]:List Addr) from z) (by simp)),fun b o z=>⟨(e0.bs b o z).1,?_⟩,e0.bsz,(fun b o _ z=>absurd (show b∈([]:List Addr) from z) (by simp)),(fun b z=>absurd (show b∈([]:List Addr) from z) (by simp)),e0.funs,fun b hb=>?_⟩,
     rfl,e0.bare,Un.kept hk1,⟨_,hns,fun i x v z1 z2 z3=>?_⟩,fun x c z=>?_,hokH.fresh (Nat.le_refl _),fun x c z=>B4z (incs x c z),(fun p hp=>absurd (show p∈([]:List (Addr×Obj)) from hp) (by simp)),hokH.kept hk1,?_⟩
   . have z:scope.names.lookup x=some .cell\/scope.names.lookup x=some .free:=z
     rcases z with z|z
     . exact absurd rfl (S.nocell _ (PySem.mem_of_lookup z))
     . have hx:=S.fr _ (PySem.mem_of_lookup z) rfl
       obtain⟨⟨y,c⟩,hm,rfl⟩:=List.mem_map.mp hx
       obtain⟨i,hi⟩:=List.mem_iff_getElem?.mp hm
       exact⟨c,B6q S.nd hi⟩
   . exact B1v (e0.bs b o z).2
   . exact B1v (e0.frf b hb)
   . have z1:(pr::cl.map (·.1))[i]?=some x:=z1
     rcases i with _|i
     . injection z1 with z1
       injection z2 with z2
       injection z2 with z2
       subst z1 z2
       exact⟨u,ru,.inl ⟨hp,by simp⟩⟩
     rw[List.getElem?_cons_succ] at z1 z2
     rw[List.getElem?_map] at z1 z2
     cases q:cl[i]? with
     |none=>rw[q] at z1;cases z1
     | some p=>
       rw[q] at z1
       cases z1
       obtain⟨v2,h2,o,u,h3,h4,h5⟩:=hk i p.1 p.2 q
       rw[h2] at z2
       cases z2
       refine⟨u,h5,.inr ⟨.inr (S.at_ _ (List.mem_map.mpr ⟨p,List.mem_of_getElem? q,rfl⟩)),p.2,B6q S.nd q,o,hk1 _ _ (e0.hok _ _ h3).1,h4⟩⟩
   . obtain⟨v,o,h3,h4⟩:=cell x c z
     exact⟨v,o,hk1 _ _ h3,h4⟩
   . show(some y::vs.map some).length=(pr::cl.map (·.1)).length
     rw[List.length_cons,List.length_cons,List.length_map,List.length_map,hF]
 have res:∀{H':Hp} {s':Shared},Un (frs outer) [] (V7 (cl.map (·.2)) H) H' s.heap s'.heap ->HOk P w H' s'.heap ->Un (frs outer) [] H (Z6 (cl.map (·.2)) H H') s.heap s'.heap/\HOk P w (Z6 (cl.map (·.2)) H H') s'.heap/\∀c∈cl.map (·.2),H' c=none:=
   fun u x=>⟨Y5f u af,V1b u af e0.hok x e0.frf,J9f u af e0.hok⟩
 refine kla_codeExpr ?_
 have hA:X.A=A.deeper (envX qual scope s.heap.objs.size f (.ref c') cl):=by rw[<-hX];rfl
 have:=ht [] _ _ _ _ I hq
 subst hX
 refine wpAny_mono this (fun u s' ⟨v,H',I',r,q⟩=>?_) fun e s' z=>wpAny_mono z (fun _ s2 z2=>?_) fun e' s2 z2=>?_
 . obtain⟨r1,r2,r3⟩:=res I'.base I'.hok
   exact⟨v,_,I'.os,I'.bare,r1,r2,r,q r3⟩
 . obtain⟨a,t,C,dd,H',rfl,os,bare,un,hok,hE,⟨a1,a2⟩,T,oT,ts,z,ne,⟨t1,t2⟩,rest⟩:=z2
   obtain⟨r1,r2,r3⟩:=res un hok
   have nc:∀b,s.heap.get? b=none ->b ∉ cl.map (·.2):=fun b z hb=>by
     obtain⟨o,q⟩:=af b hb
     rw[(e0.hok b _ q).1] at z
     cases z
   exact⟨a,t,C,dd,_,rfl,os,bare,r1,r2,hE r3,⟨a1,by rw[V6 (nc a a1)];exact a2⟩,T,oT,ts,z,ne,⟨t1,by rw[V6 (nc T t1)];exact t2⟩,rest⟩
 . obtain⟨a,t,C,dd,H',rfl,os,bare,un,hok,hE,⟨a1,a2⟩,T,oT,ts,z,ne,⟨t1,t2⟩,rest⟩:=z2
   obtain⟨r1,r2,r3⟩:=res un hok
   have nc:∀b,s.heap.get? b=none ->b ∉ cl.map (·.2):=fun b z hb=>by
     obtain⟨o,q⟩:=af b hb
     rw[(e0.hok b _ q).1] at z
     cases z
   exact⟨a,t,C,dd,_,rfl,os,bare,r1,r2,hE r3,⟨a1,by rw[V6 (nc a a1)];exact a2⟩,T,oT,ts,z,ne,⟨t1,by rw[V6 (nc T t1)];exact t2⟩,rest⟩
section
variable{X:Cx}{j k:Nat}{f:Addr}{EH:EK}{x y:Str}{p p1 pos:Pos}
noncomputable def U7p (P:Program) (w:World) (K:Frag) (mg:Str ->Option Value) (base:Heap) (k i i1:Nat) (EH:EK):TE:=fun σ H Q=>∃f v J spd,σ[i]?=some (some (.ref f))/\σ[i1]?=some (some v)/\DeedOk1 P w K mg base k f J spd/\J H/\spd v H Q (fun C d H'=>EH C d σ H')
theorem V0d{i i1:Nat}(hN:X.N[i]?=some x)(hv:Vis X.env.scope x)(hN1:X.N[i1]?=some y)(hv1:Vis X.env.scope y)(hr:Room k X.A)(hx:G7 X EH)(hex:X.ex=[]:=by rfl)(hd:(x==("__debug__":Str))=false:=by decide)(hcd:(x==("__classdict__":Str))=false:=by decide)(hd1:(y==("__debug__":Str))=false:=by decide)(hcd1:(y==("__classdict__":Str))=false:=by decide)
   (he:starEach [.Name y p1] X.env=(false,eval (.Name y p1) X.env)::starEach [] X.env:=by rfl) (hpl:(backTo pos (starEach [] X.env)).any (·.1)=false:=by rfl):
   PE X (.Call (.Name x p) [.Name y p1] [] pos) (U7p X.prog X.w X.K X.mg X.base k i i1 EH):=by
 intro pins s σ H Q I ⟨f,v,J,spd,e,e1,D,hJ,h⟩
 refine wpAny_Call_Name_kw (thn (G7s (pos:=p) hN hv hd hcd pins s σ H (fun v H'=>v= .ref f/\H'=H) I ⟨.ref f,e,rfl,rfl⟩) fun u s1 hh_=>?_)
 obtain⟨v1,H1,I1,r,ev,eH⟩:=hh_
 subst ev eH
 obtain rfl:u=Value.ref f:=r
 have pa:PA X [.Name y p1] _:=A0 (G7s (pos:=p1) hN1 hv1 hd1 hcd1) A7
 refine callWith_F (D.fn _ _ hJ I1.hok) (thn (pa pos pins s1 σ H1 (fun vs H'=>vs=[v]/\H'=H1) I1 ⟨v,e1,rfl,rfl⟩) fun us s2 ⟨vs,H2,I2,rs,evs,eH2⟩=>⟨?_,?_⟩) he hpl
 . subst evs eH2
   exact D.fn _ _ hJ I2.hok
 subst evs eH2
 obtain⟨u,rfl,ru⟩:∃u,us=[u]/\RelV v u:=by
   cases rs with
   |cons a b=>cases b with|nil=>exact⟨_,rfl,a⟩
 refine wpAny_call (codeAny_mono (D.run X.A X.stack s2 H2 v u Q _ hr I2.env0 hJ ru h) fun r s' hq=>?_)
 cases r with
 |error e=>exact Y6d hx hex I2 hq
 | ok fl=>
   cases fl with
   |ret u=>exact I2.after hq
   |next=>exact False.elim hq
   |brk=>exact False.elim hq
   |cont=>exact False.elim hq
end
end L2
namespace TR
open PySem L2 PySem.W PyProof.Rows
seal PE PS PSs PA PT PW PG PGs PI PO
noncomputable def top (i:Nat):Stmt:=PySem.Challenge.pw_tenreckon_k12_noughts_and_rounded.main.body.getD i (.Pass ⟨0,0,0,0⟩)
noncomputable abbrev C6h:Stmt:=(top 24)
section
variable{P:Program}{w:World}{K:Frag}{mg:Str ->Option Value}{base:Heap}
noncomputable def A0an (K:Frag):Sp:=fun vs H Q _=>∃v lo hi,vs=[v,.int lo,.int hi]/\((A4q lo hi v/\Q (.bl true) H)\/(C6n K H lo hi v/\Q (.bl false) H))
theorem Z9e:FnScope ["thing","least","most"] ["thing","least","most"] (A1 C6h):=scK
theorem U7q(D:Def K mg "is_between" ["thing","least","most"] C6h f fd)(O:Own mg)(T:Kit K):FnOk P w K mg base (CX1 P w) 1 f fd ["thing","least","most"] (A0an K):=by
 refine FnOk.up (D.F.ok Z9e (fun vs H Q E h=>?_) (fun cdv A outer s H vs Q E hr h=>?_))
 . obtain⟨v,lo,hi,rfl,_⟩:=h
   rfl
 . obtain ⟨v,lo,hi,rfl,h⟩:=h
   refine⟨_,(B0 (J0 (PW.pt (B5b (A2e (Y6 (B3b O.isi (pv 0) (pty O.int_ boot_int)))) (A8c (Y6 (B3b O.isi (pv 0) (pty O.bool_ boot_bool)))))) (B5 (C7 A0j)) D7)
     (B5 (C7 (A8n (G9 J9e (pv 0) (pv 1) (D4 _)) (A0y (G9 V0u (pv 0) (pv 2) (D4 _))))))),?_⟩
   rcases h with⟨⟨i,rfl,h1,h2⟩,k⟩|⟨⟨t,b1,b2,ty,k1,k2,bad⟩,k⟩
   . refine⟨_,rfl,_,_,_,_,true,rfl,rfl,G3e i,T.int_int,_,rfl,U5 ?_⟩
     refine⟨_,rfl,_,_,_,_,false,rfl,rfl,G3e i,T.int_bool,_,rfl,U5 ?_⟩
     refine⟨_,rfl,_,rfl,_,_,rfl,rfl,_,rfl,A1p h1 ?_⟩
     refine⟨_,rfl,_,rfl,_,_,rfl,rfl,?_⟩
     show Q (.bl (decide (i<=hi))) H
     rw[decide_eq_true h2]
     exact k
   . refine⟨_,rfl,_,_,_,_,b1,rfl,rfl,ty,k1,_,rfl,?_⟩
     cases b1 with
     |false=>exact Z2 (Z2 k)
     | true=>
       refine U5 ⟨_,rfl,_,_,_,_,b2,rfl,rfl,ty,k2,_,rfl,?_⟩
       cases b2 with
       |true=>exact Z2 k
       | false=>
         obtain⟨i,rfl,out⟩:=bad.resolve_left (by decide)
         refine U5 ⟨_,rfl,_,rfl,_,_,rfl,rfl,_,rfl,Y5 (fun h1=>?_) (fun h1=>?_)⟩
         . refine⟨_,rfl,_,rfl,_,_,rfl,rfl,?_⟩
           show Q (.bl (decide (i<=hi))) H
           rw[decide_eq_false (by omega:¬i<=hi)]
           exact k
         . exact k
end
structure Err(K:Frag)(mg:Str ->Option Value)(x:Str)(CB:Addr):Prop where
 g:mg x=some (.ref CB)
 q:excIn K CB [.type "ValueError",.type "Exception",.type "BaseException",.type "object"] "ValueError.__new__"=true
noncomputable def B4u (lo hi:Int):Prop:=lo.natAbs.log2<1920/\hi.natAbs.log2<1920/\(Str.ofString (toString lo)).length<=100/\(Str.ofString (toString hi)).length<=100
noncomputable abbrev A3g:Stmt:=(top 54)
section
variable{P:Program}{w:World}{K:Frag}{mg:Str ->Option Value}{base:Heap}
noncomputable def D0e (K:Frag) (CB:Addr):Sp:=fun vs H Q E=>∃v lo hi,vs=[v,.int lo,.int hi]/\B4u lo hi/\((A4q lo hi v/\Q v H)\/(C6n K H lo hi v/\E (.ref CB) none H))
theorem U1y:FnScope ["thing","least","most"] ["thing","least","most"] (A1 A3g):=scK
theorem G7h{f f1 CB:Addr}(D:Def K mg "bounded" ["thing","least","most"] A3g f fd)(D1:Def K mg "is_between" ["thing","least","most"] C6h f1 fd1)(O:Own mg)(T:Kit K)(B:Err K mg "BadContext" CB):
   FnOk P w K mg base (CX1 P w) 2 f fd ["thing","least","most"] (D0e K CB):=by
 have G1:=U7q (P:=P) (w:=w) (base:=base) D1 O T
 refine D.F.okE U1y (fun vs H Q E h=>?_) (fun X cdv A outer s H vs Q E hX hr hx h=>?_)
 . obtain⟨v,lo,hi,rfl,_⟩:=h
   rfl
 . subst hX
   obtain⟨v,lo,hi,rfl,⟨l1,l2,l3,l4⟩,h⟩:=h
   refine⟨_,(B0 (J0 (A2e (Y6 (D8 D1 G1 hr hx (A0 (pv 0) (A0 (pv 1) (A0 (pv 2) A7))))))
     (B5 (A3b (by rfl) B.g B.q PySem.F.excBase_ValueError hr.hd hx (A0 (J9q (.cons .lit (.cons (.int (pv 1)) (.cons .lit (.cons (.int (pv 2)) .nil))))) A7))) D7)
     (B5 (C7 (pv 0)))),?_⟩
   rcases h with⟨g,k⟩|⟨bad,k⟩
   . exact⟨_,rfl,_,rfl,_,rfl,_,_,_,rfl,.inl ⟨g,_,rfl,U5 ⟨_,rfl,k⟩⟩⟩
   . have a0:Str.empty.length=0:=rfl
     have a1:(Str.ofString "not a whole number from ").length=24:=by decide+kernel
     have a2:(Str.ofString " to ").length=4:=by decide+kernel
     have sz:∀{n:Nat},n<=1000 ->n<=sizeLine:=fun h=>Nat.le_of_lt (Z1 h)
     refine⟨_,rfl,_,rfl,_,rfl,_,_,_,rfl,.inr ⟨bad,_,rfl,Z2 ?_⟩⟩
     exact⟨_,rfl,sz (by rw[strLen_append];omega),_,rfl,_,rfl,l1,_,rfl,sz (by rw[strLen_append,strLen_append];omega),_,rfl,sz (by rw[strLen_append,strLen_append,strLen_append];omega),_,rfl,_,rfl,l2,_,rfl,sz (by rw[strLen_append,strLen_append,strLen_append,strLen_append];omega),sz (by rw[strLen_append,strLen_append,strLen_append,strLen_append];omega),sz (by show 1<=1000;decide),k⟩
end
noncomputable abbrev A1n:Stmt:=(top 25)
section
variable{P:Program}{w:World}{K:Frag}{mg:Str ->Option Value}{base:Heap}
noncomputable def U1f (K:Frag) (CB:Addr):Sp:=fun vs H Q E=>∃v lo hi,vs=[v,.int lo,.int hi]/\B4u lo hi/\
 ((A4q lo hi v/\Q .non H)\/(C6n K H lo hi v/\E (.ref CB) none H))
theorem U1b:FnScope ["thing","least","most"] ["thing","least","most"] (A1 A1n):=scK
theorem C1n{f f1 CB:Addr}(D:Def K mg "need_between" ["thing","least","most"] A1n f fd)(D1:Def K mg "is_between" ["thing","least","most"] C6h f1 fd1)(O:Own mg)(T:Kit K)(B:Err K mg "BadNumber" CB):
   FnOk P w K mg base (CX1 P w) 2 f fd ["thing","least","most"] (U1f K CB):=by
 have G1:=U7q (P:=P) (w:=w) (base:=base) D1 O T
 refine D.F.okE U1b (fun vs H Q E h=>?_) (fun X cdv A outer s H vs Q E hX hr hx h=>?_)
 . obtain⟨v,lo,hi,rfl,_⟩:=h
   rfl
 . subst hX
   obtain⟨v,lo,hi,rfl,⟨l1,l2,l3,l4⟩,h⟩:=h
   refine⟨_,(B5 (J0 (A2e (Y6 (D8 D1 G1 hr hx (A0 (pv 0) (A0 (pv 1) (A0 (pv 2) A7))))))
     (B5 (A3b (by rfl) B.g B.q PySem.F.excBase_ValueError hr.hd hx (A0 (J9q (.cons .lit (.cons (.int (pv 1)) (.cons .lit (.cons (.int (pv 2)) .nil))))) A7))) D7)),?_⟩
   rcases h with⟨g,k⟩|⟨bad,k⟩
   . exact⟨_,rfl,_,rfl,_,rfl,_,_,_,rfl,.inl ⟨g,_,rfl,U5 k⟩⟩
   . have a0:Str.empty.length=0:=rfl
     have a1:(Str.ofString "not a whole number from ").length=24:=by decide+kernel
     have a2:(Str.ofString " to ").length=4:=by decide+kernel
     have sz:∀{n:Nat},n<=1000 ->n<=sizeLine:=fun h=>Nat.le_of_lt (Z1 h)
     refine⟨_,rfl,_,rfl,_,rfl,_,_,_,rfl,.inr ⟨bad,_,rfl,Z2 ?_⟩⟩
     exact⟨_,rfl,sz (by rw[strLen_append];omega),_,rfl,_,rfl,l1,_,rfl,sz (by rw[strLen_append,strLen_append];omega),_,rfl,sz (by rw[strLen_append,strLen_append,strLen_append];omega),_,rfl,_,rfl,l2,_,rfl,sz (by rw[strLen_append,strLen_append,strLen_append,strLen_append];omega),sz (by rw[strLen_append,strLen_append,strLen_append,strLen_append];omega),sz (by show 1<=1000;decide),k⟩
end
noncomputable abbrev D0j:Stmt:=(G6 (top 17) 0)
noncomputable abbrev C0m:Stmt:=(top 21)
noncomputable abbrev A5r:Stmt:=(top 23)
structure Num(K:Frag)(mg:Str ->Option Value)(CN:Addr):Prop where
 g:mg "Number"=some (.ref CN)
 cl:Cls K CN
 n1:NoAttr K CN "kind"
 n2:NoAttr K CN "sign"
 n3:NoAttr K CN "figures"
 n4:NoAttr K CN "power"
 ca:findIn K (.ref CN) "__class__"=some (some (.builtin "object.__class__"))
 sn:specialIn K (.builtin "object.__class__") "__get__"=some (some (.builtin "getset_descriptor.__get__"))
 tk:takesIn K (.builtin "object.__class__")=some true
 ob:mroIn K CN (.type "object")=some true
 self:kitOne K (.ref CN) (.ref CN)=some true
noncomputable def C6k (k s f p:V):List (Str×V):=V9 "power" p (V9 "figures" f (V9 "sign" s (V9 "kind" k [])))
theorem e12:¬(("kind":Str)="sign"):=by decide+kernel
theorem e13:¬(("kind":Str)="figures"):=by decide+kernel
theorem e14:¬(("kind":Str)="power"):=by decide+kernel
theorem e23:¬(("sign":Str)="figures"):=by decide+kernel
theorem e24:¬(("sign":Str)="power"):=by decide+kernel
theorem e34:¬(("figures":Str)="power"):=by decide+kernel
theorem Z9g(k s f p:V):(C6k k s f p).lookup ("kind":Str)=some k:=by unfold C6k;rw[G4,if_neg e14,G4,if_neg e13,G4,if_neg e12,G4,if_pos rfl]
theorem Z3j(k s f p:V):(C6k k s f p).lookup ("sign":Str)=some s:=by unfold C6k;rw[G4,if_neg e24,G4,if_neg e23,G4,if_pos rfl]
theorem U8c(k s f p:V):(C6k k s f p).lookup ("figures":Str)=some f:=by unfold C6k;rw[G4,if_neg e34,G4,if_pos rfl]
theorem U0z(k s f p:V):(C6k k s f p).lookup ("power":Str)=some p:=by unfold C6k;rw[G4,if_pos rfl]
noncomputable def NumAt (CN:Addr) (H:Hp) (n:Addr) (k s f p:V):Prop:=∃dx,H n=some (.ins CN dx (C6k k s f p))
theorem NumAt.same{CN:Addr}{H H':Hp}{n:Addr}{k s f p:V}(h:NumAt CN H n k s f p)(e:Same H H'):NumAt CN H' n k s f p:=by
 obtain⟨dx,z⟩:=h
 exact⟨dx,e _ _ z⟩
theorem Num.ty{K:Frag}{mg:Str ->Option Value}{CN:Addr}(N:Num K mg CN){H:Hp}{n:Addr}{k s f p:V}(h:NumAt CN H n k s f p):TyE K H (.ref n) (.ref CN):=by
 obtain⟨dx,z⟩:=h
 exact .of (.ins z N.cl N.ca N.sn N.tk N.ob)
section
variable{P:Program}{w:World}{K:Frag}{mg:Str ->Option Value}{base:Heap}
noncomputable def D2x (CN:Addr):Sp:=fun vs H Q _=>∃(p dx:Addr) (k s f pw:V),vs=[.ref p,k,s,f,pw]/\H p=some (.ins CN dx [])/\∀H',H' p=some (.ins CN dx (C6k k s f pw)) ->(∀b o,H b=some o ->b≠p ->H' b=some o) ->Q .non H'
theorem Z3s:FnScope ["self","kind","sign","figures","power"] ["self","kind","sign","figures","power"] (A1 D0j):=scK
theorem Y6y{f CN:Addr}(F:Fun K "__init__" "Number.__init__" D0j f fd)(N:Num K mg CN):FnOk P w K mg base CX0 1 f fd ["self","kind","sign","figures","power"] (D2x CN):=by
 refine F.ok Z3s (fun vs H Q E h=>?_) (fun cdv A outer s H vs Q E hr h=>?_)
 . obtain⟨p,dx,a,b,c,d,rfl,_⟩:=h
   rfl
 . obtain⟨p,dx,a,b,c,d,rfl,hp,k⟩:=h
   refine⟨_,B0 (A0a (pv 0) (pv 1) rfl) (B0 (A0a (pv 0) (pv 2) rfl) (B0 (A0a (pv 0) (pv 3) rfl) (B5 (A0a (pv 0) (pv 4) rfl)))),?_⟩
   have l:∀(fs:List (Str×V)) (f:Str) (v:V) (n:Nat),fs.length<=n ->(V9 f v fs).length<=n+1:=fun fs f v n h=>Nat.le_trans (A1r f v fs) (Nat.succ_le_succ h)
   refine⟨_,rfl,_,rfl,p,CN,dx,[],rfl,hp,N.cl,N.n1,(by show 0<1000;decide),?_⟩
   refine⟨_,rfl,_,rfl,p,CN,dx,_,rfl,A9,N.cl,N.n2,Nat.lt_of_le_of_lt (l _ _ _ 0 (Nat.le_refl _)) (by decide),?_⟩
   refine⟨_,rfl,_,rfl,p,CN,dx,_,rfl,A9,N.cl,N.n3,Nat.lt_of_le_of_lt (l _ _ _ 1 (l _ _ _ 0 (Nat.le_refl _))) (by decide),?_⟩
   refine⟨_,rfl,_,rfl,p,CN,dx,_,rfl,A9,N.cl,N.n4,Nat.lt_of_le_of_lt (l _ _ _ 2 (l _ _ _ 1 (l _ _ _ 0 (Nat.le_refl _)))) (by decide),?_⟩
   refine k _ A9 fun b o e hb=>?_
   rw[D3 hb,D3 hb,D3 hb,D3 hb]
   exact e
structure MakeN(P:Program)(w:World)(K:Frag)(mg:Str ->Option Value)(base:Heap)(CN fI:Addr)(fdI:FuncData):Prop where
 m:Mk K CN fI
 g:FnOk P w K mg base CX0 1 fI fdI ["self","kind","sign","figures","power"] (D2x CN)
 b:Binds K fdI ["self","kind","sign","figures","power"] []
theorem made{CN:Addr}{H:Hp}{Q:VK}{k s f p:V}(h:∀n H',H n=none ->Same H H' ->NumAt CN H' n k s f p ->Q (.ref n) H'):
   ∀x dx,H x=none ->H dx=none ->dx≠x ->D2x CN (.ref x::([k,s,f,p]++ [])) (upd (upd H dx (.own x)) x (.ins CN dx [])) (fun v H2=>v= .non/\Q (.ref x) H2) E0:=by
 intro x dx nx nd ne
 refine⟨x,dx,k,s,f,p,rfl,A9,fun H' e kp=>⟨rfl,h x H' nx (fun b o z=>?_) ⟨dx,e⟩⟩⟩
 refine kp b o ?_ (G2 z nx)
 rw[D3 (G2 z nx),D3 (G2 z nd)]
 exact z
noncomputable def C2f (K:Frag) (CN:Addr) (H:Hp) (v:V):Prop:=∃t,TyE K H v t/\kitOne K t (.ref CN)=some false
noncomputable def D3c (K:Frag) (CN CB:Addr):Sp:=fun vs H Q E=>∃v,vs=[v]/\((∃n k s f p,v= .ref n/\NumAt CN H n k s f p/\Q v H)\/(C2f K CN H v/\E (.ref CB) none H))
theorem Y6z:FnScope ["thing"] ["thing"] (A1 A5r):=scK
theorem G3b{f CN CB:Addr}(D:Def K mg "need_number" ["thing"] A5r f fd)(O:Own mg)(T:Kit K)(B:Err K mg "BadNumber" CB)(N:Num K mg CN):FnOk P w K mg base (CX1 P w) 1 f fd ["thing"] (D3c K CN CB):=by
 refine D.F.okE Y6z (fun vs H Q E h=>?_) (fun X cdv A outer s H vs Q E hX hr hx h=>?_)
 . obtain⟨v,rfl,_⟩:=h
   rfl
 . subst hX
   obtain⟨v,rfl,h⟩:=h
   refine⟨_,(B0 (J0 (A2e (Y6 (B3b O.isi (pv 0) (D2k N.g)))) (B5 (A3b (by rfl) B.g B.q PySem.F.excBase_ValueError hr.hd hx (A0 C9 A7))) D7)
     (B5 (C7 (pv 0)))),?_⟩
   rcases h with⟨n,a,b,c,d,rfl,hn,k⟩|⟨⟨t,ty,k1⟩,k⟩
   . exact⟨_,rfl,_,_,_,_,true,rfl,rfl,N.ty hn,N.self,_,rfl,U5 ⟨_,rfl,k⟩⟩
   . exact⟨_,rfl,_,_,_,t,false,rfl,rfl,ty,k1,_,rfl,Z2 ⟨Nat.le_of_lt (Z1 (by show 1<=1000;decide)),k⟩⟩
noncomputable def G7n (K:Frag) (CN CB:Addr):Sp:=fun vs H Q E=>∃v,vs=[v]/\((∃n k s f p,v= .ref n/\NumAt CN H n k s f p/\∀t,H t=none ->Q (.ref t) (upd H t (.tup [k,s,f,p])))\/(C2f K CN H v/\E (.ref CB) none H))
theorem Z2j:FnScope ["number"] ["number"] (A1 C0m):=scK
theorem Y6b{f f1 CN CB:Addr}(D:Def K mg "told" ["number"] C0m f fd)(dA:Def K mg "need_number" ["thing"] A5r f1 fd1)(O:Own mg)(T:Kit K)(B:Err K mg "BadNumber" CB)(N:Num K mg CN):
   FnOk P w K mg base (CX1 P w) 2 f fd ["number"] (G7n K CN CB):=by
 have G_need_number:=G3b (P:=P) (w:=w) (base:=base) dA O T B N
 refine D.F.okE Z2j (fun vs H Q E h=>?_) (fun X cdv A outer s H vs Q E hX hr hx h=>?_)
 . obtain⟨v,rfl,_⟩:=h
   rfl
 . subst hX
   obtain⟨v,rfl,h⟩:=h
   refine⟨_,(B0 (Y2 (D8 dA G_need_number hr hx (A0 (pv 0) A7)))
     (B5 (C7 (V4 (A0 (G8 (pv 0) rfl) (A0 (G8 (pv 0) rfl) (A0 (G8 (pv 0) rfl) (A0 (G8 (pv 0) rfl) A7)))))))),?_⟩
   rcases h with⟨n,a,b,c,d,rfl,hn,k⟩|⟨bad,k⟩
   . refine⟨_,rfl,_,rfl,.inl ⟨n,a,b,c,d,rfl,hn,?_⟩⟩
     obtain⟨dx,e⟩:=hn
     exact⟨_,rfl,n,CN,dx,_,_,rfl,e,N.cl,N.n1,Z9g _ _ _ _,_,rfl,n,CN,dx,_,_,rfl,e,N.cl,N.n2,Z3j _ _ _ _,_,rfl,n,CN,dx,_,_,rfl,e,N.cl,N.n3,U8c _ _ _ _,_,rfl,n,CN,dx,_,_,rfl,e,N.cl,N.n4,U0z _ _ _ _,
       Nat.le_of_lt (Z1 (by show 4<=1000;decide)),k⟩
   . exact⟨_,rfl,_,rfl,.inr ⟨bad,k⟩⟩
end
noncomputable abbrev B3e:Stmt:=(top 18)
noncomputable abbrev G1v:Stmt:=(top 19)
noncomputable abbrev A1t:Stmt:=(top 20)
section
variable{P:Program}{w:World}{K:Frag}{mg:Str ->Option Value}{base:Heap}
noncomputable def J8v (K:Frag) (CN CB:Addr):Sp:=fun vs H Q E=>∃x y z,vs=[x,y,z]/\
 ((A4q 0 1 x/\A4q 0 (10^60-1) y/\A4q (-200) 200 z/\∀n H',H n=none ->Same H H' ->NumAt CN H' n (.str "plain") x y z ->Q (.ref n) H')\/
  ((C6n K H 0 1 x\/(A4q 0 1 x/\(C6n K H 0 (10^60-1) y\/(A4q 0 (10^60-1) y/\C6n K H (-200) 200 z))))/\E (.ref CB) none H))
theorem Y5t:FnScope ["sign","figures","power"] ["sign","figures","power"] (A1 B3e):=scK
theorem b01:B4u 0 1:=by unfold B4u;decide+kernel
theorem b60:B4u 0 (10^60-1):=by unfold B4u;decide+kernel
theorem Z8n:B4u (-200) 200:=by unfold B4u;decide+kernel
theorem V0t{f f1 f2 fI CN CB:Addr}{fd fd1 fd2 fdI:FuncData}(D:Def K mg "plain" ["sign","figures","power"] B3e f fd)(dA:Def K mg "need_between" ["thing","least","most"] A1n f1 fd1)(D2:Def K mg "is_between" ["thing","least","most"] C6h f2 fd2)
   (O:Own mg) (T:Kit K) (B:Err K mg "BadNumber" CB) (N:Num K mg CN) (M:MakeN P w K mg base CN fI fdI):FnOk P w K mg base (CX1 P w) 3 f fd ["sign","figures","power"] (J8v K CN CB):=by
 have G_need_between:=C1n (P:=P) (w:=w) (base:=base) dA D2 O T B
 refine D.F.okE Y5t (fun vs H Q E h=>?_) (fun X cdv A outer s H vs Q E hX hr hx h=>?_)
 . obtain⟨x,y,z,rfl,_⟩:=h
   rfl
 . subst hX
   obtain⟨x,y,z,rfl,h⟩:=h
   refine⟨_,(B0 (Y2 (D8 dA G_need_between hr hx (A0 (pv 0) (A0 A3 (A0 A3 A7)))))
     (B0 (Y2 (D8 dA G_need_between hr hx (A0 (pv 1) (A0 A3 (A0 (B9 U8 (B9 U7z A3 A3) A3) A7)))))
     (B0 (Y2 (D8 dA G_need_between hr hx (A0 (pv 2) (A0 (D0p B6m A3) (A0 A3 A7)))))
     (B5 (C7 (D2g M.m M.g hr rfl N.g M.b .nil V1c (A0 C9 (A0 (pv 0) (A0 (pv 1) (A0 (pv 2) A7)))))))))),?_⟩
   have pw:Z3v 10 60:=⟨by decide,by decide,by decide⟩
   rcases h with⟨⟨i1,rfl,l1,u1⟩,⟨i2,rfl,l2,u2⟩,⟨i3,rfl,l3,u3⟩,k⟩|⟨bad,k⟩
   . refine⟨_,rfl,_,_,_,rfl,b01,.inl ⟨⟨i1,rfl,l1,u1⟩,?_⟩⟩
     refine⟨_,rfl,_,_,rfl,rfl,pw,_,_,rfl,rfl,_,_,_,rfl,b60,.inl ⟨⟨i2,rfl,l2,u2⟩,?_⟩⟩
     refine⟨_,rfl,_,rfl,_,_,_,rfl,Z8n,.inl ⟨⟨i3,rfl,l3,u3⟩,?_⟩⟩
     exact⟨_,rfl,_,rfl,_,rfl,made k⟩
   . rcases bad with bad|⟨⟨i1,rfl,l1,u1⟩,bad|⟨⟨i2,rfl,l2,u2⟩,bad⟩⟩
     . exact⟨_,rfl,_,_,_,rfl,b01,.inr ⟨bad,k⟩⟩
     . refine⟨_,rfl,_,_,_,rfl,b01,.inl ⟨⟨i1,rfl,l1,u1⟩,?_⟩⟩
       exact⟨_,rfl,_,_,rfl,rfl,pw,_,_,rfl,rfl,_,_,_,rfl,b60,.inr ⟨bad,k⟩⟩
     . refine⟨_,rfl,_,_,_,rfl,b01,.inl ⟨⟨i1,rfl,l1,u1⟩,?_⟩⟩
       refine⟨_,rfl,_,_,rfl,rfl,pw,_,_,rfl,rfl,_,_,_,rfl,b60,.inl ⟨⟨i2,rfl,l2,u2⟩,?_⟩⟩
       exact⟨_,rfl,_,rfl,_,_,_,rfl,Z8n,.inr ⟨bad,k⟩⟩
noncomputable def U7x (K:Frag) (CN CB:Addr):Sp:=fun vs H Q E=>∃x,vs=[x]/\((A4q 0 1 x/\∀n H',H n=none ->Same H H' ->NumAt CN H' n (.str "end") x (.int 0) (.int 0) ->Q (.ref n) H')\/(C6n K H 0 1 x/\E (.ref CB) none H))
theorem A0ap:FnScope ["sign"] ["sign"] (A1 G1v):=scK
theorem Z3h{f f1 f2 fI CN CB:Addr}{fd fd1 fd2 fdI:FuncData}(D:Def K mg "end" ["sign"] G1v f fd)(dA:Def K mg "need_between" ["thing","least","most"] A1n f1 fd1)(D2:Def K mg "is_between" ["thing","least","most"] C6h f2 fd2)
   (O:Own mg) (T:Kit K) (B:Err K mg "BadNumber" CB) (N:Num K mg CN) (M:MakeN P w K mg base CN fI fdI):FnOk P w K mg base (CX1 P w) 3 f fd ["sign"] (U7x K CN CB):=by
 have G_need_between:=C1n (P:=P) (w:=w) (base:=base) dA D2 O T B
 refine D.F.okE A0ap (fun vs H Q E h=>?_) (fun X cdv A outer s H vs Q E hX hr hx h=>?_)
 . obtain⟨x,rfl,_⟩:=h
   rfl
 . subst hX
   obtain⟨x,rfl,h⟩:=h
   refine⟨_,(B0 (Y2 (D8 dA G_need_between hr hx (A0 (pv 0) (A0 A3 (A0 A3 A7)))))
     (B5 (C7 (D2g M.m M.g hr rfl N.g M.b .nil V1c (A0 C9 (A0 (pv 0) (A0 A3 (A0 A3 A7)))))))),?_⟩
   rcases h with⟨⟨i1,rfl,l1,u1⟩,k⟩|⟨bad,k⟩
   . refine⟨_,rfl,_,_,_,rfl,b01,.inl ⟨⟨i1,rfl,l1,u1⟩,?_⟩⟩
     exact⟨_,rfl,made k⟩
   . exact⟨_,rfl,_,_,_,rfl,b01,.inr ⟨bad,k⟩⟩
noncomputable def B6t (CN:Addr):Sp:=fun vs H Q _=>vs=[]/\∀n H',H n=none ->Same H H' ->NumAt CN H' n (.str "none") (.int 0) (.int 0) (.int 0) ->Q (.ref n) H'
theorem U2e:FnScope [] [] (A1 A1t):=scK
theorem G7a{f fI CN:Addr}{fd fdI:FuncData}(D:Def K mg "nothing" [] A1t f fd)(N:Num K mg CN)(M:MakeN P w K mg base CN fI fdI):FnOk P w K mg base (CX1 P w) 3 f fd [] (B6t CN):=by
 refine D.F.okE U2e (fun vs H Q E h=>?_) (fun X cdv A outer s H vs Q E hX hr hx h=>?_)
 . obtain⟨rfl,_⟩:=h
   rfl
 . subst hX
   obtain⟨rfl,k⟩:=h
   refine⟨_,(B5 (C7 (D2g M.m M.g hr rfl N.g M.b .nil V1c (A0 C9 (A0 A3 (A0 A3 (A0 A3 A7))))))),?_⟩
   exact made k
end
noncomputable abbrev C1h:Stmt:=(top 22)
section
variable{P:Program}{w:World}{K:Frag}{mg:Str ->Option Value}{base:Heap}
noncomputable def U9h (CN:Addr):Sp:=fun vs H Q _=>∃n k s f p,vs=[.ref n]/\NumAt CN H n k s (.int f) (.int p)/\f.natAbs<2^300/\Q (.int (p+((Str.ofString (toString f)).length:Nat)-1)) H
theorem Z3k:FnScope ["number"] ["number"] (A1 C1h):=scK
theorem Y6q{f CN:Addr}(D:Def K mg "lead_of" ["number"] C1h f fd)(O:Own mg)(N:Num K mg CN):FnOk P w K mg base (CX1 P w) 1 f fd ["number"] (U9h CN):=by
 refine D.F.okE Z3k (fun vs H Q E h=>?_) (fun X cdv A outer s H vs Q E hX hr hx h=>?_)
 . obtain⟨n,a,b,c,d,rfl,_⟩:=h
   rfl
 . subst hX
   obtain⟨n,a,b,fg,pw,rfl,⟨dx,e⟩,hf,k⟩:=h
   refine⟨_,(B5 (C7 (B9 U8 (B9 V2 (G8 (pv 0) rfl) (V3 A0f (by rfl) O.len_ PySem.boot_len (A0 (J9 Y7 (by rfl) O.str_ boot_str (A0 (G8 (pv 0) rfl) A7)) A7))) A3))),?_⟩
   have lg:fg.natAbs.log2<1920:=Nat.lt_trans (A2z hf (by decide)) (by decide)
   exact⟨_,rfl,n,CN,dx,_,_,rfl,e,N.cl,N.n4,U0z _ _ _ _,_,rfl,n,CN,dx,_,_,rfl,e,N.cl,N.n3,U8c _ _ _ _,_,rfl,lg,_,rfl,int_text_fits lg,_,_,rfl,rfl,_,_,rfl,rfl,k⟩
end
noncomputable abbrev A0c:Stmt:=(top 2)
noncomputable abbrev A3f:Stmt:=(top 3)
theorem D3e{x k:Nat}(h:x<2^k)(hk:k<=1048576):Builtin.Int.intBits (x:Int)<=2^20:=by
 unfold Builtin.Int.intBits
 split
 . exact Nat.zero_le _
 . have z:(x:Int).natAbs≠0:=by
     intro z
     rename_i hz
     exact hz (by simpa using z)
   have:(x:Int).natAbs.log2<k:=(Nat.log2_lt z).mpr h
   have e:(2:Nat)^20=1048576:=by decide
   omega
theorem C1w{b s j n:Nat}(hb:b<2^s)(hj:j<=n)(hn:n*s<1048576):Builtin.Int.intBits ((b^j:Nat):Int)<=2^20:=by
 refine D3e (k:=n*s+1) ?_ hn
 have a:b^j<=(2^s)^j:=Nat.pow_le_pow_left (Nat.le_of_lt hb) j
 have c:(2^s)^j<=2^(n*s):=by
   rw[<-Nat.pow_mul,Nat.mul_comm n s]
   exact Nat.pow_le_pow_right (by decide) (Nat.mul_le_mul_left s hj)
 have d:2^(n*s)<2^(n*s+1):=Nat.pow_lt_pow_right (by decide) (by omega)
 exact Nat.lt_of_le_of_lt a (Nat.lt_of_le_of_lt c d)
theorem B6k{b s i j n:Nat}(hb:b<2^s)(hi:i<=n)(hj:j<=n)(hn:n*s<1048576):IntMulOk ((b^i:Nat):Int) ((b^j:Nat):Int):=IntMulOk.of_bits (C1w hb hi hn) (C1w hb hj hn)
section
variable{P:Program}{w:World}{K:Frag}{mg:Str ->Option Value}{base:Heap}
noncomputable def C0j:Sp:=fun vs H Q _=>∃b n s:Nat,vs=[.int (b:Int),.int (n:Int)]/\b<2^s/\n*s<1048576/\Q (.int ((b^n:Nat):Int)) H
theorem scProductOf:FnScope ["whole","count","product"] ["whole","count"] (A1 A0c):=scK
theorem D2d(D:Def K mg "product_of" ["whole","count"] A0c f fd):FnOk P w K mg base (CX1 P w) 1 f fd ["whole","count"] C0j:=by
 refine FnOk.up (D.F.ok scProductOf (fun vs H Q E h=>?_) (fun cdv A outer s H vs Q E hr h=>?_))
 . obtain⟨b,n,z,rfl,_⟩:=h
   rfl
 . obtain ⟨b,n,z,rfl,hb,hn,k⟩:=h
   refine⟨_,(B0 (G0 (i:=2) scProductOf.nd rfl (Or.inl rfl) A3)
     (B0 (B5e PassesOwn.never (D5 C2x (pv 1) A3 (D4 _)) (B0 (J0 (D5 U2 (B9 U0 (pv 1) A3) A3 (D4 _)) (B5 (G0 (i:=2) scProductOf.nd rfl (Or.inl rfl) (B9 U3 (pv 2) (pv 0)))) D7)
     (B0 (G0 (i:=0) scProductOf.nd rfl (Or.inl rfl) (B9 U3 (pv 0) (pv 0)))
     (B5 (G0 (i:=1) scProductOf.nd rfl (Or.inl rfl) (B9 J1 (pv 1) A3))))))
     (B5 (C7 (pv 2))))),?_⟩
   have d2:(0:Int)<2/\(2:Int).natAbs.log2<9000:=⟨by decide,by decide+kernel⟩
   refine B5a (fun σ H2=>H2=H/\∃i m c:Nat,m+i*c=n/\σ=[some (.int ((b^i:Nat):Int)),some (.int (c:Int)),some (.int ((b^m:Nat):Int))]) (fun σ _=>match σ with| [_,some (.int c),_]=>c.toNat|_=>0) ?_ ?_ ?_
   . exact⟨rfl,1,0,n,by omega,by rw[Nat.pow_one];rfl⟩
   . rintro σ H2 ⟨rfl,i,m,c,hc,rfl⟩
     refine⟨_,rfl,_,_,rfl,rfl,_,rfl,Y5 (fun h0=>?_) (fun h0=>?_)⟩
     . have c1:1<=c:=by
         have:(0:Int)<c:=h0
         omega
       have hi:i<=n:=Nat.le_trans (Nat.le_mul_of_pos_right i c1) (by omega)
       have hm:m<=n:=by omega
       have sq:((b^i:Nat):Int)*((b^i:Nat):Int)=((b^(2*i):Nat):Int):=by rw[Nat.two_mul,Nat.pow_add];rfl
       have lt:((c:Int)/2).toNat<(c:Int).toNat:=by omega
       refine⟨_,rfl,_,_,rfl,rfl,d2.1,rfl,_,rfl,Y5 (fun ho=>?_) (fun he=>?_)⟩
       . have ho:(c:Int) % 2=1:=by injection ho
         have mu:((b^m:Nat):Int)*((b^i:Nat):Int)=((b^(m+i):Nat):Int):=by rw[Nat.pow_add];rfl
         refine⟨_,rfl,_,rfl,_,_,rfl,rfl,B6k hb hm hi hn,_,rfl,_,rfl,_,_,rfl,rfl,B6k hb hi hi hn,_,rfl,_,_,rfl,rfl,d2,⟨rfl,2*i,m+i,c/2,?_,?_⟩,lt⟩
         . have e:i*c=i*(2*(c/2)+1):=congrArg (i* ·) (by omega)
           rw[Nat.mul_add,Nat.mul_one, <-Nat.mul_assoc,Nat.mul_comm i 2] at e
           omega
         . show [some (V.int (((b^i:Nat):Int)*((b^i:Nat):Int))),some (V.int ((c:Int)/2)),some (V.int (((b^m:Nat):Int)*((b^i:Nat):Int)))]=_
           rw[sq,mu]
           rfl
       . have he:¬(c:Int) % 2=1:=fun z=>he (congrArg V.int z)
         refine⟨_,rfl,_,rfl,_,_,rfl,rfl,B6k hb hi hi hn,_,rfl,_,_,rfl,rfl,d2,⟨rfl,2*i,m,c/2,?_,?_⟩,lt⟩
         . have e:i*c=i*(2*(c/2)):=congrArg (i* ·) (by omega)
           rw[<-Nat.mul_assoc,Nat.mul_comm i 2] at e
           omega
         . show [some (V.int (((b^i:Nat):Int)*((b^i:Nat):Int))),some (V.int ((c:Int)/2)),some (V.int ((b^m:Nat):Int))]=_
           rw[sq]
           rfl
     . have c0:c=0:=by
         have:¬(0:Int)<c:=h0
         omega
       subst c0
       have hm:m=n:=by omega
       subst hm
       exact⟨_,rfl,k⟩
   . rintro σ H2 Q1 Q2 hQ ⟨v,e,i,j,e1,e2,b,e3,q⟩
     exact⟨v,e,i,j,e1,e2,b,e3,hQ _ _ q⟩
noncomputable def B5g:Sp:=fun vs H Q _=>∃n:Nat,vs=[.int (n:Int)]/\n<=4000/\Q (.int ((10^n:Nat):Int)) H
theorem Y6t:FnScope ["count"] ["count"] (A1 A3f):=scK
theorem U9d(D:Def K mg "ten_to" ["count"] A3f f fd)(dA:Def K mg "product_of" ["whole","count"] A0c f1 fd1)(dB:FnOk P w K mg base (CX1 P w) 1 f1 fd1 ["whole","count"] C0j):FnOk P w K mg base (CX1 P w) 2 f fd ["count"] B5g:=by
 refine FnOk.up (D.F.ok Y6t (fun vs H Q E h=>?_) (fun cdv A outer s H vs Q E hr h=>?_))
 . obtain⟨n,rfl,_⟩:=h
   rfl
 . obtain⟨n,rfl,hn,k⟩:=h
   have hx:G7 (Z9 CX0 P w K mg base ["count"] "ten_to" (A1 A3f) f cdv A outer s H E).nox EKF:=Y8
   refine⟨_,(B5 (C7 (D8 dA dB hr hx (A0 A3 (A0 (pv 0) A7))))),?_⟩
   exact⟨_,rfl,10,n,4,rfl,by decide,by omega,k⟩
end
inductive Kd where
 |plain|end_|none
noncomputable def Kd.str:Kd ->Str
 | .plain=>"plain"
 | .end_=>"end"
 | .none=>"none"
theorem Kd.str_inj{a b:Kd}(h:a.str=b.str):a=b:=by
 cases a<;>cases b<;>first|rfl|exact absurd h (by decide+kernel)
structure Nm where
 k:Kd
 s:Int
 f:Int
 p:Int
noncomputable def Nm.vs (x:Nm):List V:=[.str x.k.str,.int x.s,.int x.f,.int x.p]
structure Nm.Ok(x:Nm):Prop where
 s0:0<=x.s
 s1:x.s<=1
 f0:0<=x.f
 f1:x.f<=10^60-1
 p0: -200<=x.p
 p1:x.p<=200
noncomputable def NumIs (CN:Addr) (H:Hp) (n:Addr) (x:Nm):Prop:=NumAt CN H n (.str x.k.str) (.int x.s) (.int x.f) (.int x.p)
theorem NumIs.same{CN:Addr}{H H':Hp}{n:Addr}{x:Nm}(h:NumIs CN H n x)(e:Same H H'):NumIs CN H' n x:=NumAt.same h e
noncomputable def B7 (n:Int):Int:=((10^n.toNat:Nat):Int)
theorem G5(n:Int):0<B7 n:=Int.natCast_pos.mpr (Nat.pow_pos (by decide))
theorem neS{a b:Kd}(h:¬V.str a.str=V.str b.str):a≠b:=fun q=>h (by rw[q])
theorem eqS{a b:Kd}(h:V.str a.str=V.str b.str):a=b:=Kd.str_inj (by injection h)
section
variable{P:Program}{w:World}{K:Frag}{mg:Str ->Option Value}{base:Heap}
theorem U1r{d:Int}(h:d<=4000):Builtin.Int.intBits (B7 d)<=2^20:=C1w (b:=10) (s:=4) (n:=4000) (by decide) (by omega) (by decide)
end
section
variable{P:Program}{w:World}{K:Frag}{mg:Str ->Option Value}{base:Heap}
end
noncomputable def Z8 (left low:Int):Int:=(if decide (0<left)=true then 1 else 0)+(if decide (low<=2*left)=true then 1 else 0)+(if decide (low<2*left)=true then 1 else 0)
theorem Z3u(s:Int):(if(0:Int)>s then 0 else s)=((s.toNat:Nat):Int):=by
 by_cases h:(0:Int)>s
 . rw[if_pos h];omega
 . rw[if_neg h];omega
noncomputable def A3n (t b s:Int):Prop:=b*B7 (-s)<=t*B7 s/\t*B7 s<10*(b*B7 (-s))
theorem C2m{s r:Int}(h:s<=r):B7 r*B7 (-s)=B7 s*B7 (-r)*B7 (r-s):=by
 have ad:∀{a b c:Int},0<=a ->0<=b ->c=a+b ->B7 c=B7 a*B7 b:=fun ha hb e=>by
   subst e
   unfold B7
   rw[Int.toNat_add ha hb,Nat.pow_add]
   exact Int.natCast_mul _ _
 have z:∀{a:Int},a<=0 ->B7 a=1:=fun h=>by
   unfold B7
   rw[Int.toNat_of_nonpos h]
   rfl
 rcases Int.le_total 0 s with hs|hs
 . rw[z (a:= -s) (by omega),z (a:= -r) (by omega),Int.mul_one,Int.mul_one]
   exact ad hs (by omega) (by omega)
 . rcases Int.le_total 0 r with hr|hr
   . rw[z hs,z (a:= -r) (by omega),Int.one_mul,Int.one_mul]
     exact(ad hr (by omega) (by omega)).symm
   . rw[z hr,z hs,Int.one_mul,Int.one_mul]
     exact ad (by omega) (by omega) (by omega)
theorem J9h{d:Int}(h:1<=d):10<=B7 d:=by
 unfold B7
 have:10^1<=10^d.toNat:=Nat.pow_le_pow_right (by decide) (by omega)
 omega
theorem V5{a b:Int}(h:a<=b):B7 a<=B7 b:=by
 unfold B7
 exact Int.ofNat_le.mpr (Nat.pow_le_pow_right (by decide) (by omega))
theorem J9a{t b s r:Int}(hb:0<b)(h1:A3n t b s)(h2:A3n t b r):r<=s:=by
 apply Classical.byContradiction
 intro h
 have hs:s<=r:=by omega
 have c:=C2m hs
 have g:=J9h (d:=r-s) (by omega)
 have p1:=G5 (-s)
 have p2:=G5 (-r)
 have l1:0<b*B7 (-s):=Int.mul_pos hb p1
 have l2:0<b*B7 (-r):=Int.mul_pos hb p2
 have e:t*B7 r*(b*B7 (-s))=t*B7 s*(b*B7 (-r))*B7 (r-s):=by
   calc t*B7 r*(b*B7 (-s))=t*b*(B7 r*B7 (-s)):=by ac_rfl
     _=t*b*(B7 s*B7 (-r)*B7 (r-s)):=by rw[c]
     _=t*B7 s*(b*B7 (-r))*B7 (r-s):=by ac_rfl
 have a1:t*B7 r*(b*B7 (-s))<10*(b*B7 (-r))*(b*B7 (-s)):=Int.mul_lt_mul_of_pos_right h2.2 l1
 have hp:0<t*B7 s:=Int.lt_of_lt_of_le l1 h1.1
 have a2:t*B7 s*(b*B7 (-r))*10<=t*B7 s*(b*B7 (-r))*B7 (r-s):=Int.mul_le_mul_of_nonneg_left g (Int.le_of_lt (Int.mul_pos hp l2))
 have a3:b*B7 (-s)*(b*B7 (-r))<=t*B7 s*(b*B7 (-r)):=Int.mul_le_mul_of_nonneg_right h1.1 (Int.le_of_lt l2)
 have e2:10*(b*B7 (-r))*(b*B7 (-s))=b*B7 (-s)*(b*B7 (-r))*10:=by ac_rfl
 have a4:b*B7 (-s)*(b*B7 (-r))*10<=t*B7 s*(b*B7 (-r))*10:=Int.mul_le_mul_of_nonneg_right a3 (by decide)
 rw[e] at a1
 rw[e2] at a1
 exact absurd (Int.lt_of_lt_of_le a1 (Int.le_trans a4 a2)) (Int.lt_irrefl _)
theorem J9t{t b s r:Int}(hb:0<b)(h1:A3n t b s)(h2:A3n t b r):s=r:=Int.le_antisymm (J9a hb h2 h1) (J9a hb h1 h2)
noncomputable def Sz (t:Int):Prop:=1<=t/\t<B7 1000
theorem J9c(n:Nat):10^n<=2^(4*n):=by
 rw[Nat.pow_mul]
 exact Nat.pow_le_pow_left (by decide) n
theorem G2k(n:Nat):10^(3*n)<=2^(10*n):=by
 rw[Nat.pow_mul,Nat.pow_mul]
 exact Nat.pow_le_pow_left (by decide) n
theorem Sz.nat{t:Int}(h:Sz t):∃n:Nat,t=(n:Int)/\1<=n/\n<10^1000:=by
 obtain⟨n,rfl⟩:=Int.eq_ofNat_of_zero_le (show 0<=t by have:=h.1;omega)
 exact⟨n,rfl,Int.ofNat_le.mp h.1,Int.ofNat_lt.mp h.2⟩
theorem D1w{t s:Int}(ht:Sz t)(h:s<=1500):∃n:Nat,t*B7 s=(n:Int)/\n<10^2502:=by
 obtain⟨n,rfl,_,hn⟩:=ht.nat
 refine⟨n*10^s.toNat,rfl,?_⟩
 have a:10^s.toNat<=10^1502:=Nat.pow_le_pow_right (by decide) (by omega)
 calc n*10^s.toNat<=n*10^1502:=Nat.mul_le_mul_left n a
   _<10^1000*10^1502:=Nat.mul_lt_mul_of_pos_right hn (Nat.pow_pos (by decide))
   _=10^2502:=by rw[<-Nat.pow_add]
theorem G3g{n:Nat}(h:n<10^2502):Builtin.Int.intBits (n:Int)<=2^20:=D3e (k:=4*2502) (Nat.lt_of_lt_of_le h (J9c 2502)) (by decide)
theorem Y7a{t:Int}(h:Sz t):Builtin.Int.intBits t<=2^20:=by
 obtain⟨n,rfl,_,hn⟩:=h.nat
 exact D3e (k:=4*1000) (Nat.lt_of_lt_of_le hn (J9c 1000)) (by decide)
theorem B6e{t s:Int}(ht:Sz t)(h:s<=1500):IntMulOk t (B7 s):=IntMulOk.of_bits (Y7a ht) (U1r (by omega))
theorem U7h{b s:Int}(hb:Sz b)(h:s<=1500):(b*B7 s).natAbs.log2<9000:=by
 obtain⟨n,e,hn⟩:=D1w hb h
 rw[e]
 have:n<2^8340:=Nat.lt_of_lt_of_le hn (G2k 834)
 exact Nat.lt_trans (A2z (i:=(n:Int)) (k:=8340) (by rw[Int.natAbs_natCast];exact this) (by decide)) (by decide)
noncomputable def whI (t b s:Int):Int:=t*B7 s/(b*B7 (-s))
noncomputable def ptI (t b s:Int):Int:=Z8 (t*B7 s-whI t b s*(b*B7 (-s))) (b*B7 (-s))
theorem D1x{t b s:Int}(hb:0<b):0<=t*B7 s-whI t b s*(b*B7 (-s))/\t*B7 s-whI t b s*(b*B7 (-s))<b*B7 (-s):=by
 have l:=Int.mul_pos hb (G5 (-s))
 have e:=Int.emod_add_mul_ediv (t*B7 s) (b*B7 (-s))
 have a:=Int.emod_nonneg (t*B7 s) (Int.ne_of_gt l)
 have c:=Int.emod_lt_of_pos (t*B7 s) l
 have e2:whI t b s*(b*B7 (-s))=b*B7 (-s)*(t*B7 s/(b*B7 (-s))):=Int.mul_comm _ _
 omega
theorem Z1m{t b s:Int}(ht:Sz t)(hb:Sz b)(h1: -1500<=s)(h2:s<=1500):IntMulOk (whI t b s) (b*B7 (-s)):=by
 obtain⟨n,e,hn⟩:=D1w hb (s:= -s) (by omega)
 obtain⟨k,e',hk⟩:=D1w ht h2
 unfold whI
 rw[e,e']
 exact IntMulOk.of_bits (G3g (Nat.lt_of_le_of_lt (Nat.div_le_self k n) hk)) (G3g hn)
noncomputable abbrev A5e:Stmt:=(G6 (top 6) 0)
structure RatC(K:Frag)(mg:Str ->Option Value)(CR CE:Addr):Prop where
 g:mg "Ratio"=some (.ref CR)
 ge:mg "Exact"=some (.ref CE)
 cl:Cls K CR
 n_top:NoAttr K CR "top"
 n_bottom:NoAttr K CR "bottom"
 n_power:NoAttr K CR "power"
 ca:findIn K (.ref CR) "__class__"=some (some (.builtin "object.__class__"))
 sn:specialIn K (.builtin "object.__class__") "__get__"=some (some (.builtin "getset_descriptor.__get__"))
 tk:takesIn K (.builtin "object.__class__")=some true
 ob:mroIn K CR (.type "object")=some true
 up:kitOne K (.ref CR) (.ref CE)=some true
noncomputable def D2f (t b n:V):List (Str×V):=V9 "power" n (V9 "bottom" b (V9 "top" t []))
theorem C2w(t b n:V)(x:Str):(D2f t b n).lookup x=if x="power" then some n else if x="bottom" then some b else if x="top" then some t else none:=by
 unfold D2f
 rw[G4,G4,G4]
 rfl
theorem J7v(t b n:V):(D2f t b n).lookup ("top":Str)=some t:=by rw[C2w,if_neg (by decide+kernel),if_neg (by decide+kernel),if_pos rfl]
theorem C2u(t b n:V):(D2f t b n).lookup ("bottom":Str)=some b:=by rw[C2w,if_neg (by decide+kernel),if_pos rfl]
theorem D0v(t b n:V):(D2f t b n).lookup ("power":Str)=some n:=by rw[C2w,if_pos rfl]
theorem B4x(t b n:V):(D2f t b n).lookup ("first":Str)=none:=by rw[C2w,if_neg (by decide+kernel),if_neg (by decide+kernel),if_neg (by decide+kernel)]
theorem D0m(t b n:V):(D2f t b n).lookup ("at":Str)=none:=by rw[C2w,if_neg (by decide+kernel),if_neg (by decide+kernel),if_neg (by decide+kernel)]
noncomputable def RatAt (CR:Addr) (H:Hp) (x:Addr) (t b n:Int):Prop:=∃dx,H x=some (.ins CR dx (D2f (.int t) (.int b) (.int n)))
theorem RatAt.same{CR:Addr}{H H':Hp}{x:Addr}{t b n:Int}(h:RatAt CR H x t b n)(s:Same H H'):RatAt CR H' x t b n:=by
 obtain⟨dx,e⟩:=h
 exact⟨dx,s _ _ e⟩
section
variable{P:Program}{w:World}{K:Frag}{mg:Str ->Option Value}{base:Heap}
noncomputable def D2u (CR:Addr):Sp:=fun vs H Q _=>∃(p dx:Addr) (t b n:V),vs=[.ref p,t,b,n]/\H p=some (.ins CR dx [])/\∀H',H' p=some (.ins CR dx (D2f t b n)) ->Exc p H H' ->Q .non H'
theorem Y5a:FnScope ["self","top","bottom","power"] ["self","top","bottom","power"] (A1 A5e):=scK
theorem U7w{f CR CE:Addr}{dV:Value}(F:FunD K "__init__" "Ratio.__init__" A5e dV f fd)(R:RatC K mg CR CE):FnOk P w K mg base (CX1 P w) 1 f fd ["self","top","bottom","power"] (D2u CR):=by
 refine F.okE Y5a (fun vs H Q E h=>?_) (fun X cdv A outer s H vs Q E hX hr hx h=>?_)
 . obtain⟨p,dx,a,b,c,rfl,_⟩:=h
   rfl
 . subst hX
   obtain⟨p,dx,a,b,c,rfl,hp,k⟩:=h
   refine⟨_,(B0 (A0a (pv 0) (pv 1) rfl)
     (B0 (A0a (pv 0) (pv 2) rfl)
     (B5 (A0a (pv 0) (pv 3) rfl)))),?_⟩
   have l:∀(fs:List (Str×V)) (f:Str) (v:V) (n:Nat),fs.length<=n ->(V9 f v fs).length<=n+1:=fun fs f v n h=>Nat.le_trans (A1r f v fs) (Nat.succ_le_succ h)
   refine⟨_,rfl,_,rfl,p,CR,dx,[],rfl,hp,R.cl,R.n_top,(by show 0<1000;decide),?_⟩
   refine⟨_,rfl,_,rfl,p,CR,dx,_,rfl,A9,R.cl,R.n_bottom,Nat.lt_of_le_of_lt (l _ _ _ 0 (Nat.le_refl _)) (by decide),?_⟩
   refine⟨_,rfl,_,rfl,p,CR,dx,_,rfl,A9,R.cl,R.n_power,Nat.lt_of_le_of_lt (l _ _ _ 1 (l _ _ _ 0 (Nat.le_refl _))) (by decide),?_⟩
   refine k _ A9 fun b o e hb=>?_
   rw[D3 hb,D3 hb,D3 hb]
   exact e
noncomputable def G2g (CR:Addr):Sp:=fun vs H Q _=>∃x t b n,vs=[.ref x]/\RatAt CR H x t b n/\Sz t/\Sz b/\∀f H',Same H H' ->A3n t b (n-f) ->Q (.int f) H'
noncomputable def U9r (CR:Addr):Sp:=fun vs H Q _=>∃x t b n p,vs=[.ref x,.int p]/\RatAt CR H x t b n/\Sz t/\Sz b/\ -1500<=n-p/\n-p<=1500/\
 ∀q H',Same H H' ->H q=none ->H' q=some (.tup [.int (whI t b (n-p)),.int (ptI t b (n-p))]) ->Q (.ref q) H'
structure MakeR(P:Program)(w:World)(K:Frag)(mg:Str ->Option Value)(base:Heap)(CR fI:Addr)(fdI:FuncData)(d0:Value)(gP:List Value ->List Value ->List Value)(vP:List V ->List V ->List V):Prop where
 m:Mk K CR fI
 g:FnOk P w K mg base (CX1 P w) 1 fI fdI ["self","top","bottom","power"] (D2u CR)
 b3:Binds K fdI ["self","top","bottom","power"] []
 b2:Binds K fdI ["self","top","bottom","power"] [d0]
 r0:RelV (.int 0) d0
 kP:KBinds K fdI ["self","top","bottom","power"] ["power"] gP vP
 eP:∀x a b c,vP [x,a,b] [c]=[x,a,b,c]
structure RatM(P:Program)(w:World)(K:Frag)(mg:Str ->Option Value)(base:Heap)(CR f1 f2:Addr)(fd1 fd2:FuncData):Prop where
 m1:Meth K CR "first" f1
 g1:FnOk P w K mg base (CX1 P w) 4 f1 fd1 ["self"] (G2g CR)
 b1:Binds K fd1 ["self"] []
 m2:Meth K CR "at" f2
 g2:FnOk P w K mg base (CX1 P w) 3 f2 fd2 ["self","power"] (U9r CR)
 b2:Binds K fd2 ["self","power"] []
theorem A0au{CR x dx:Addr}{H:Hp}{Q:VK}{E:XK}{t b n:Int}(n1:H x=none)(n2:H dx=none)(ne:dx≠x)(k:∀H',Same H H' ->RatAt CR H' x t b n ->Q .non H'):
   D2u CR [.ref x,.int t,.int b,.int n] (upd (upd H dx (.own x)) x (.ins CR dx [])) Q E:=
 ⟨x,dx,_,_,_,rfl,A9,fun H' e s=>k H' (fun c o z=>s c o (by rw[D3 (G2 z n1),D3 (G2 z n2)];exact z) (G2 z n1)) ⟨dx,e⟩⟩
end
noncomputable abbrev A5q:Stmt:=(top 7)
section
variable{P:Program}{w:World}{K:Frag}{mg:Str ->Option Value}{base:Heap}
noncomputable def G2n:Sp:=fun vs H Q _=>∃l m:Int,vs=[.int (2*l),.int m]/\0<=l/\0<m/\Q (.int (Z8 l m)) H
theorem U6w:FnScope ["size","middle"] ["size","middle"] (A1 A5q):=scK
theorem Y5u{m:Int}(hm:0<m):Z8 0 m=0:=by
 unfold Z8
 rw[decide_eq_false (by omega:¬(0:Int)<0),decide_eq_false (by omega:¬m<=2*0),decide_eq_false (by omega:¬m<2*0)]
 rfl
theorem Y6r{l m:Int}(hl:0<l)(h:2*l<m):Z8 l m=1:=by
 unfold Z8
 rw[decide_eq_true hl,decide_eq_false (by omega:¬m<=2*l),decide_eq_false (by omega:¬m<2*l)]
 rfl
theorem Y6c{l m:Int}(hl:0<l)(h:2*l=m):Z8 l m=2:=by
 unfold Z8
 rw[decide_eq_true hl,decide_eq_true (by omega:m<=2*l),decide_eq_false (by omega:¬m<2*l)]
 rfl
theorem Y7d{l m:Int}(hl:0<l)(h:m<2*l):Z8 l m=3:=by
 unfold Z8
 rw[decide_eq_true hl,decide_eq_true (by omega:m<=2*l),decide_eq_true h]
 rfl
theorem U1h(D:Def K mg "part_of" ["size","middle"] A5q f fd):FnOk P w K mg base (CX1 P w) 1 f fd ["size","middle"] G2n:=by
 refine FnOk.up (D.F.ok U6w (fun vs H Q E h=>?_) (fun cdv A outer s H vs Q E hr h=>?_))
 . obtain⟨l,m,rfl,_⟩:=h
   rfl
 . obtain ⟨l,m,rfl,hl,hm,k⟩:=h
   refine⟨_,(B0 (J0 (D5 U2 (pv 0) A3 (D4 _)) (B5 (C7 A3)) D7)
     (B0 (J0 (D5 C1z (pv 0) (pv 1) (D4 _)) (B5 (C7 A3)) D7)
     (B5 (C7 (A4n (D5 U2 (pv 0) (pv 1) (D4 _)) A3 A3))))),?_⟩
   refine⟨_,rfl,rfl,_,rfl,Y5 (fun h0=>?_) (fun h0=>?_)⟩
   . have e:l=0:=by
       have:2*l=0:=by injection h0
       omega
     subst e
     rw[Y5u hm] at k
     exact k
   . have hl':0<l:=by
       apply Classical.byContradiction
       intro z
       exact h0 (by rw[show l=0 by omega];rfl)
     refine⟨_,rfl,_,rfl,_,_,rfl,rfl,_,rfl,Y5 (fun h1=>?_) (fun h1=>?_)⟩
     . rw[Y6r hl' h1] at k
       exact k
     . refine⟨_,rfl,_,rfl,rfl,_,rfl,Y5 (fun h2=>?_) (fun h2=>?_)⟩
       . rw[Y6c hl' (by injection h2)] at k
         exact k
       . rw[Y7d hl' (by
           have:2*l≠m:=fun z=>h2 (by rw[z])
           omega)] at k
         exact k
end
noncomputable abbrev A8u:Stmt:=(top 8)
theorem G8n(k:Nat):10^(k*301029995/10^9)<=2^k:=by
 have hm:k*301029995/10^9*28738<=k*8651:=by
   have:k*301029995/10^9*10^9<=k*301029995:=Nat.div_mul_le_self _ _
   omega
 generalize k*301029995/10^9=m at hm
 have c:(10:Nat)^8651<=2^28738:=by decide+kernel
 have a:(10^m)^8651<=(2^k)^8651:=by
   calc (10^m)^8651=(10^8651)^m:=by rw[<-Nat.pow_mul, <-Nat.pow_mul,Nat.mul_comm]
     _<=(2^28738)^m:=Nat.pow_le_pow_left c m
     _=2^(m*28738):=by rw[<-Nat.pow_mul,Nat.mul_comm]
     _<=2^(k*8651):=Nat.pow_le_pow_right (by decide) hm
     _=(2^k)^8651:=by rw[<-Nat.pow_mul]
 exact(Nat.pow_le_pow_iff_left (by decide)).mp a
section
variable{P:Program}{w:World}{K:Frag}{mg:Str ->Option Value}{base:Heap}
noncomputable def J9k:Sp:=fun vs H Q _=>∃n:Nat,vs=[.int (n:Int)]/\1<=n/\n<10^3000/\∀L:Nat,10^L<=n ->n<10^(L+1) ->Q (.int (L:Int)) H
theorem scWLead:FnScope ["whole","lead","beyond"] ["whole"] (A1 A8u):=scK
theorem U7m(D:Def K mg "whole_lead" ["whole"] A8u f fd)(dA:Def K mg "ten_to" ["count"] A3f f1 fd1)(dB:FnOk P w K mg base (CX1 P w) 2 f1 fd1 ["count"] B5g):FnOk P w K mg base (CX1 P w) 3 f fd ["whole"] J9k:=by
 refine FnOk.up (D.F.ok scWLead (fun vs H Q E h=>?_) (fun cdv A outer s H vs Q E hr h=>?_))
 . obtain⟨n,rfl,_⟩:=h
   rfl
 . obtain ⟨n,rfl,n1,n2,k⟩:=h
   have hx:G7 (Z9 CX0 P w K mg base ["whole","lead","beyond"] "whole_lead" (A1 A8u) f cdv A outer s H E).nox EKF:=Y8
   refine⟨_,(B0 (D0 (G0 (i:=1) scWLead.nd rfl (Or.inl rfl) (B9 J1 (B9 U3 (B9 U8 (Z2u PySem.F.plainAttrs_int PySem.F.slot_int_bit_length PySem.F.type_int_bit_length C6m (pv 0)) A3) A3) (B9 U7z A3 A3))))
     (B0 (D0 (G0 (i:=2) scWLead.nd rfl (Or.inl rfl) (D8 dA dB hr hx (A0 (B9 V2 (pv 1) A3) A7))))
     (B0 (D0 (B5e PassesOwn.never (D5 V0u (pv 2) (pv 0) (D4 _)) (B0 (B3c (i:=1) scWLead.nd rfl (Or.inl rfl) A3 D2s)
     (B5 (G0 (i:=2) scWLead.nd rfl (Or.inl rfl) (B9 U3 (pv 2) A3))))))
     (B5 (C7 (pv 1)))))),?_⟩
   have mC:∀z n:Int, -(2^64)<n ->n<2^64 ->IntMulOk z n:=fun z n a b=>CMul.ok (.inr ⟨a,b⟩)
   have pw:Z3v 10 9:=⟨by decide,by decide,by decide⟩
   have l3:∀{L:Nat},10^L<=n ->L<3000:=fun hL=>(Nat.pow_lt_pow_iff_right (by decide:1<10)).mp (Nat.lt_of_le_of_lt hL n2)
   refine⟨fun σ H'=>H'=H/\∃L:Nat,10^L<=n/\σ=[some (.int (n:Int)),some (.int (L:Int)),none],?_,?_⟩
   . refine⟨_,rfl,rfl,_,rfl,rfl,_,_,rfl,rfl,_,_,rfl,rfl,mC _ _ (by decide) (by decide),_,_,rfl,rfl,pw,_,_,rfl,rfl,⟨by decide,by decide+kernel⟩,rfl,n.log2*301029995/10^9,?_,?_⟩
     . exact Nat.le_trans (G8n _) (Nat.log2_self_le (by omega))
     . have e:(Builtin.Int.intBits (n:Int):Nat)=n.log2+1:=by
         unfold Builtin.Int.intBits
         rw[if_neg (by simp;omega)]
         rfl
       show [some (V.int (n:Int)),some (V.int ((((Builtin.Int.intBits (n:Int):Nat):Int)-1)*301029995/(10^Int.toNat 9:Int))),none]=_
       rw[e,show((n.log2+1:Nat):Int)-1=(n.log2:Int) by omega]
       rfl
   rintro σ H' ⟨rfl,L0,hL0,rfl⟩
   refine⟨fun σ H2=>H2=H'/\∃L:Nat,10^L<=n/\σ=[some (.int (n:Int)),some (.int (L:Int)),some (.int ((10^(L+1):Nat):Int))],?_,?_⟩
   . have:=l3 hL0
     exact⟨_,rfl,_,_,rfl,rfl,L0+1,rfl,by omega,rfl,L0,hL0,rfl⟩
   rintro σ H2 ⟨rfl,L1,hL1,rfl⟩
   refine⟨fun σ H3=>H3=H2/\∃L:Nat,10^L<=n/\n<10^(L+1)/\σ=[some (.int (n:Int)),some (.int (L:Int)),some (.int ((10^(L+1):Nat):Int))],?_,?_⟩
   . refine B5a (fun σ H3=>H3=H2/\∃L:Nat,10^L<=n/\σ=[some (.int (n:Int)),some (.int (L:Int)),some (.int ((10^(L+1):Nat):Int))]) (fun σ _=>match σ with| [_,some (.int c),_]=>n-c.toNat|_=>0) ?_ ?_ ?_
     . exact⟨rfl,L1,hL1,rfl⟩
     . rintro σ H3 ⟨rfl,L,hL,rfl⟩
       refine⟨_,rfl,_,rfl,_,_,rfl,rfl,_,rfl,Y5 (fun hle=>?_) (fun hgt=>?_)⟩
       . have hle:10^(L+1)<=n:=Int.ofNat_le.mp hle
         refine⟨_,rfl,_,_,rfl,rfl,_,rfl,_,_,rfl,rfl,mC _ _ (by decide) (by decide),⟨rfl,L+1,hle,?_⟩,?_⟩
         . show [some (V.int (n:Int)),some (V.int ((L:Int)+1)),some (V.int (((10^(L+1):Nat):Int)*10))]=_
           rw[show((10^(L+1):Nat):Int)*10=((10^(L+1+1):Nat):Int) by rw[Nat.pow_succ 10 (L+1)];rfl]
           rfl
         have lt:L+1<10^(L+1):=Nat.lt_pow_self (by decide)
         show n-((L:Int)+1).toNat<n-(L:Int).toNat
         omega
       . have hgt:¬10^(L+1)<=n:=fun z=>hgt (Int.ofNat_le.mpr z)
         exact⟨rfl,L,hL,by omega,rfl⟩
     . rintro σ H2 Q1 Q2 hQ ⟨v,e,v2,e4,i2,j2,e5,e6,b,e7,q⟩
       exact⟨v,e,v2,e4,i2,j2,e5,e6,b,e7,hQ _ _ q⟩
   rintro σ H3 ⟨rfl,L,h1,h2,rfl⟩
   exact⟨_,rfl,k L h1 h2⟩
end
noncomputable abbrev C2e:Stmt:=(G6 (top 6) 2)
noncomputable abbrev A3d:Stmt:=(G6 (top 6) 1)
section
variable{P:Program}{w:World}{K:Frag}{mg:Str ->Option Value}{base:Heap}
theorem scRAt:FnScope ["self","power","shift","top","bottom","whole"] ["self","power"] (A1 C2e):=scK
theorem Z4f{f f1 f2 CR CE:Addr}(F:Fun K "at" "Ratio.at" C2e f fd)(dA:Def K mg "ten_to" ["count"] A3f f1 fd1)(dB:FnOk P w K mg base (CX1 P w) 2 f1 fd1 ["count"] B5g)
   (dC:Def K mg "part_of" ["size","middle"] A5q f2 fd2) (dD:FnOk P w K mg base (CX1 P w) 1 f2 fd2 ["size","middle"] G2n) (R:RatC K mg CR CE) (O:Own mg):FnOk P w K mg base (CX1 P w) 3 f fd ["self","power"] (U9r CR):=by
 refine FnOk.up (F.ok scRAt (fun vs H Q E h=>?_) (fun cdv A outer s H vs Q E hr h=>?_))
 . obtain⟨x,t,b,n,p,rfl,_⟩:=h
   rfl
 . obtain⟨x,t,b,n,p,rfl,⟨dx,e⟩,ht,hb,h1,h2,k⟩:=h
   have hx:G7 (Z9 CX0 P w K mg base ["self","power","shift","top","bottom","whole"] "Ratio.at" (A1 C2e) f cdv A outer s H E).nox EKF:=Y8
   refine⟨_,(B0 (G0 (i:=2) scRAt.nd rfl (Or.inl rfl) (B9 U8 (G8 (pv 0) rfl) (pv 1)))
     (B0 (G0 (i:=3) scRAt.nd rfl (Or.inl rfl) (B9 U3 (G8 (pv 0) rfl) (D8 dA dB hr hx (A0 (V3 (Z0 rfl) (by rfl) O.max_ boot_max (A0 (pv 2) (A0 A3 A7))) A7))))
     (B0 (G0 (i:=4) scRAt.nd rfl (Or.inl rfl) (B9 U3 (G8 (pv 0) rfl) (D8 dA dB hr hx (A0 (V3 (Z0 rfl) (by rfl) O.max_ boot_max (A0 (D0p B6m (pv 2)) (A0 A3 A7))) A7))))
     (B0 (G0 (i:=5) scRAt.nd rfl (Or.inl rfl) (B9 J1 (pv 3) (pv 4)))
     (B5 (C7 (V4 (A0 (pv 5) (A0 (D8 dC dD hr hx (A0 (B9 U3 A3 (B9 U8 (pv 3) (B9 U3 (pv 5) (pv 4)))) (A0 (pv 4) A7))) A7))))))))),?_⟩
   have z2:2<=sizeLine:=D6 (by decide)
   have mC':∀z n:Int, -(2^64)<n ->n<2^64 ->IntMulOk n z:=fun z n a b=>CMul.ok (.inl ⟨a,b⟩)
   have hb0:0<b:=by have:=hb.1;omega
   refine⟨_,rfl,x,CR,dx,_,_,rfl,e,R.cl,R.n_power,D0v _ _ _,_,rfl,_,_,rfl,rfl,?_⟩
   refine⟨_,rfl,x,CR,dx,_,_,rfl,e,R.cl,R.n_top,J7v _ _ _,_,rfl,_,_,rfl,(n-p).toNat,congrArg (fun z=>[V.int z]) (Z3u (n-p)),by omega,_,_,rfl,rfl,B6e ht h2,?_⟩
   refine⟨_,rfl,x,CR,dx,_,_,rfl,e,R.cl,R.n_bottom,C2u _ _ _,_,rfl,_,rfl,_,_,rfl,(-(n-p)).toNat,congrArg (fun z=>[V.int z]) (Z3u (-(n-p))),by omega,_,_,rfl,rfl,B6e hb (by omega),?_⟩
   have lp:0<b*B7 (-(n-p)):=Int.mul_pos hb0 (G5 _)
   have ll:(b*B7 (-(n-p))).natAbs.log2<9000:=U7h hb (by omega)
   refine⟨_,rfl,_,rfl,_,_,rfl,rfl,⟨lp,ll⟩,?_⟩
   have lf:=D1x (t:=t) (s:=n-p) hb0
   refine⟨_,rfl,_,rfl,_,rfl,_,rfl,_,_,rfl,rfl,Z1m ht hb h1 h2,_,_,rfl,rfl,_,_,rfl,rfl,mC' _ _ (by decide) (by decide),_,rfl,_,_,rfl,lf.1,lp,z2,fun q nq=>k q _ (Same.upd nq) nq A9⟩
end
theorem Z3z{t b L M u v:Nat}(h:L+u=M+v)(t2:t<10^(L+1))(b1:10^M<=b):t*10^u<10*(b*10^v):=by
 have p:0<10^u:=Nat.pow_pos (by decide)
 calc t*10^u<10^(L+1)*10^u:=Nat.mul_lt_mul_of_pos_right t2 p
   _=10*(10^M*10^v):=by rw[<-Nat.pow_add, <-Nat.pow_add, <-h,show L+1+u=(L+u)+1 by omega,Nat.pow_succ,Nat.mul_comm]
   _<=10*(b*10^v):=Nat.mul_le_mul_left 10 (Nat.mul_le_mul_right _ b1)
theorem Z3r{t b L M u v:Nat}(h:L+u=M+1+v)(t1:10^L<=t)(b2:b<10^(M+1)):b*10^v<=t*10^u:=by
 calc b*10^v<=10^(M+1)*10^v:=Nat.mul_le_mul_right _ (Nat.le_of_lt b2)
   _=10^L*10^u:=by rw[<-Nat.pow_add, <-Nat.pow_add,h]
   _<=t*10^u:=Nat.mul_le_mul_right _ t1
theorem C9z{t b L M:Nat}(t1:10^L<=t)(t2:t<10^(L+1))(b1:10^M<=b)(b2:b<10^(M+1))(h:(b:Int)*B7 (-((M:Int)-L))<=(t:Int)*B7 ((M:Int)-L)):A3n t b ((M:Int)-L):=by
 refine⟨h,?_⟩
 unfold B7
 have:=Z3z (t:=t) (b:=b) (L:=L) (M:=M) (u:=((M:Int)-L).toNat) (v:=(-((M:Int)-L)).toNat) (by omega) t2 b1
 exact Int.ofNat_lt.mpr this
theorem C2r{t b L M:Nat}(t1:10^L<=t)(t2:t<10^(L+1))(b1:10^M<=b)(b2:b<10^(M+1))(h:(t:Int)*B7 ((M:Int)-L)<(b:Int)*B7 (-((M:Int)-L))):A3n t b ((M:Int)-L+1):=by
 refine⟨?_,?_⟩
 . unfold B7
   have:=Z3r (t:=t) (b:=b) (L:=L) (M:=M) (u:=((M:Int)-L+1).toNat) (v:=(-((M:Int)-L+1)).toNat) (by omega) t1 b2
   exact Int.ofNat_le.mpr this
 . have hb:0<(b:Int):=by
     have:0<10^M:=Nat.pow_pos (by decide)
     omega
   generalize (M:Int)-L=s at h
   have c:=C2m (s:=s) (r:=s+1) (by omega)
   have e1:B7 (s+1-s)=10:=by rw[show s+1-s=1 by omega];rfl
   rw[e1] at c
   have l:=Int.mul_pos hb (G5 (-s))
   have l':=Int.mul_pos hb (G5 (-(s+1)))
   have e:(t:Int)*B7 (s+1)*((b:Int)*B7 (-s))=(t:Int)*B7 s*((b:Int)*B7 (-(s+1)))*10:=by
     calc (t:Int)*B7 (s+1)*((b:Int)*B7 (-s))=t*b*(B7 (s+1)*B7 (-s)):=by ac_rfl
       _=t*b*(B7 s*B7 (-(s+1))*10):=by rw[c]
       _=(t:Int)*B7 s*((b:Int)*B7 (-(s+1)))*10:=by ac_rfl
   have a:(t:Int)*B7 s*((b:Int)*B7 (-(s+1)))<(b:Int)*B7 (-s)*((b:Int)*B7 (-(s+1))):=Int.mul_lt_mul_of_pos_right h l'
   have a2:(t:Int)*B7 (s+1)*((b:Int)*B7 (-s))<10*((b:Int)*B7 (-(s+1)))*((b:Int)*B7 (-s)):=by
     rw[e,show 10*((b:Int)*B7 (-(s+1)))*((b:Int)*B7 (-s))=(b:Int)*B7 (-s)*((b:Int)*B7 (-(s+1)))*10 by ac_rfl]
     exact Int.mul_lt_mul_of_pos_right a (by decide)
   exact Int.lt_of_mul_lt_mul_right a2 (Int.le_of_lt l)
section
variable{P:Program}{w:World}{K:Frag}{mg:Str ->Option Value}{base:Heap}
theorem scRFirst:FnScope ["self","guess"] ["self"] (A1 A3d):=scK
theorem U2h{f f1 f2 CR CE:Addr}(F:Fun K "first" "Ratio.first" A3d f fd)(dA:Def K mg "whole_lead" ["whole"] A8u f1 fd1)(dB:FnOk P w K mg base (CX1 P w) 3 f1 fd1 ["whole"] J9k)
   (MA:Meth K CR "at" f2) (GA:FnOk P w K mg base (CX1 P w) 3 f2 fd2 ["self","power"] (U9r CR)) (BA:Binds K fd2 ["self","power"] []) (R:RatC K mg CR CE):FnOk P w K mg base (CX1 P w) 4 f fd ["self"] (G2g CR):=by
 refine FnOk.up (F.ok scRFirst (fun vs H Q E h=>?_) (fun cdv A outer s H vs Q E hr h=>?_))
 . obtain⟨x,t,b,n,rfl,_⟩:=h
   rfl
 . obtain⟨x,t,b,n,rfl,ra,ht,hb,k⟩:=h
   have hx:G7 (Z9 CX0 P w K mg base ["self","guess"] "Ratio.first" (A1 A3d) f cdv A outer s H E).nox EKF:=Y8
   refine⟨_,(B0 (G0 (i:=1) scRFirst.nd rfl (Or.inl rfl) (B9 V2 (B9 U8 (D8 dA dB hr hx (A0 (G8 (pv 0) rfl) A7)) (D8 dA dB hr hx (A0 (G8 (pv 0) rfl) A7))) (G8 (pv 0) rfl)))
     (B5 (C7 (A4n (D5 C2x (U6 U7 (C0q (pv 0) R.cl MA GA hr BA .nil hx (A0 (pv 1) A7)) A3 (fun _ _=>rfl)) A3 (D4 _)) (pv 1) (B9 U8 (pv 1) A3))))),?_⟩
   obtain⟨tn,rfl,ta,tb⟩:=ht.nat
   obtain⟨bn,rfl,ba,bb⟩:=hb.nat
   obtain⟨dx,e⟩:=id ra
   have p30:(10:Nat)^1000<10^3000:=Nat.pow_lt_pow_right (by decide) (by decide)
   have p30':∀{L m:Nat},10^L<=m ->m<10^1000 ->L<1000:=fun h1 h2=>(Nat.pow_lt_pow_iff_right (by decide:1<10)).mp (Nat.lt_of_le_of_lt h1 h2)
   refine⟨_,rfl,x,CR,dx,_,_,rfl,e,R.cl,R.n_top,J7v _ _ _,tn,rfl,ta,Nat.lt_trans tb p30,fun L L1 L2=>?_⟩
   refine⟨_,rfl,x,CR,dx,_,_,rfl,e,R.cl,R.n_bottom,C2u _ _ _,bn,rfl,ba,Nat.lt_trans bb p30,fun M' M1 M2=>?_⟩
   have l30:=p30' L1 tb
   have m30:=p30' M1 bb
   refine⟨_,_,rfl,rfl,_,rfl,x,CR,dx,_,_,rfl,e,R.cl,R.n_power,D0v _ _ _,_,_,rfl,rfl,?_⟩
   have es:n-((L:Int)-M'+n)=(M':Int)-L:=by omega
   refine⟨_,rfl,x,dx,_,rfl,e,D0m _ _ _,_,rfl,x,tn,bn,n,_,rfl,ra,ht,hb,by omega,by omega,fun q H1 s1 nq hq=>?_⟩
   rw[es] at hq
   refine⟨q,_,0,_,rfl,rfl,SqT.of hq,D9 (j:=0) rfl,_,_,rfl,rfl,_,rfl,?_⟩
   have lp:0<(bn:Int)*B7 (-((M':Int)-L)):=Int.mul_pos (by omega) (G5 _)
   refine Y5 (fun hg=>?_) (fun hg=>?_)
   . have hle:(bn:Int)*B7 (-((M':Int)-L))<=(tn:Int)*B7 ((M':Int)-L):=by
       have:=(Int.le_ediv_iff_mul_le lp).mp (show(1:Int)<=(tn:Int)*B7 ((M':Int)-L)/((bn:Int)*B7 (-((M':Int)-L))) from hg)
       omega
     refine⟨_,rfl,k _ H1 s1 ?_⟩
     rw[es]
     exact C9z L1 L2 M1 M2 hle
   . have hlt:(tn:Int)*B7 ((M':Int)-L)<(bn:Int)*B7 (-((M':Int)-L)):=by
       apply Classical.byContradiction
       intro z
       exact hg ((Int.le_ediv_iff_mul_le lp).mpr (by omega))
     refine⟨_,rfl,_,_,rfl,rfl,k _ H1 s1 ?_⟩
     rw[show n-((L:Int)-M'+n-1)=(M':Int)-L+1 by omega]
     exact C2r L1 L2 M1 M2 hlt
end
inductive Wy where
 |down
 |up
 |floor
 |ceiling
 |halfUp
 |halfDown
 |halfEven
 |fiveUp
noncomputable def Wy.name:Wy ->Str
 | .down=>"down"
 | .up=>"up"
 | .floor=>"floor"
 | .ceiling=>"ceiling"
 | .halfUp=>"half up"
 | .halfDown=>"half down"
 | .halfEven=>"half even"
 | .fiveUp=>"five up"
noncomputable def Wy.cls:Wy ->Str
 | .down=>"Down"
 | .up=>"Up"
 | .floor=>"Floor"
 | .ceiling=>"Ceiling"
 | .halfUp=>"HalfUp"
 | .halfDown=>"HalfDown"
 | .halfEven=>"HalfEven"
 | .fiveUp=>"FiveUp"
theorem Wy.inj{a b:Wy}(h:a.name=b.name):a=b:=by
 cases a<;>cases b<;>first|rfl|exact absurd h (by decide+kernel)
structure WayC(K:Frag)(mg:Str ->Option Value)(x:Str)(C CW:Addr):Prop where
 g:mg x=some (.ref C)
 cl:Cls K C
 mk0:Mk0 K C
 ca:findIn K (.ref C) "__class__"=some (some (.builtin "object.__class__"))
 sn:specialIn K (.builtin "object.__class__") "__get__"=some (some (.builtin "getset_descriptor.__get__"))
 tk:takesIn K (.builtin "object.__class__")=some true
 ob:mroIn K C (.type "object")=some true
 up:kitOne K (.ref C) (.ref CW)=some true
section
variable{P:Program}{w:World}{K:Frag}{mg:Str ->Option Value}{base:Heap}
noncomputable def A5k (s:Str):Sp:=fun vs H Q _=>∃p,vs=[.ref p]/\Q (.str s) H
noncomputable def Z8m (P:Program) (w:World) (K:Frag) (mg:Str ->Option Value) (base:Heap) (C:Addr) (s:Str):Prop:=Has P w K mg base C "name" 1 ["self"] (A5k s)
noncomputable abbrev sN0:Stmt:=(G6 (top 42) 0)
theorem scN0:FnScope ["self"] ["self"] (A1 sN0):=scK
theorem A0br(F:Fun K "name" "Down.name" sN0 f fd):FnOk P w K mg base (CX1 P w) 1 f fd ["self"] (A5k "down"):=by
 refine FnOk.up (F.ok scN0 (fun vs H Q E h=>?_) (fun cdv A outer s H vs Q E hr h=>?_))
 . obtain⟨p,rfl,_⟩:=h
   rfl
 . obtain⟨p,rfl,k⟩:=h
   exact⟨_,B5 (C7 C9),k⟩
noncomputable abbrev sN1:Stmt:=(G6 (top 43) 0)
theorem scN1:FnScope ["self"] ["self"] (A1 sN1):=scK
theorem A0ak(F:Fun K "name" "Up.name" sN1 f fd):FnOk P w K mg base (CX1 P w) 1 f fd ["self"] (A5k "up"):=by
 refine FnOk.up (F.ok scN1 (fun vs H Q E h=>?_) (fun cdv A outer s H vs Q E hr h=>?_))
 . obtain⟨p,rfl,_⟩:=h
   rfl
 . obtain⟨p,rfl,k⟩:=h
   exact⟨_,B5 (C7 C9),k⟩
noncomputable abbrev sN2:Stmt:=(G6 (top 44) 0)
theorem scN2:FnScope ["self"] ["self"] (A1 sN2):=scK
theorem A0bn(F:Fun K "name" "Floor.name" sN2 f fd):FnOk P w K mg base (CX1 P w) 1 f fd ["self"] (A5k "floor"):=by
 refine FnOk.up (F.ok scN2 (fun vs H Q E h=>?_) (fun cdv A outer s H vs Q E hr h=>?_))
 . obtain⟨p,rfl,_⟩:=h
   rfl
 . obtain⟨p,rfl,k⟩:=h
   exact⟨_,B5 (C7 C9),k⟩
noncomputable abbrev sN3:Stmt:=(G6 (top 45) 0)
theorem scN3:FnScope ["self"] ["self"] (A1 sN3):=scK
theorem A0ac(F:Fun K "name" "Ceiling.name" sN3 f fd):FnOk P w K mg base (CX1 P w) 1 f fd ["self"] (A5k "ceiling"):=by
 refine FnOk.up (F.ok scN3 (fun vs H Q E h=>?_) (fun cdv A outer s H vs Q E hr h=>?_))
 . obtain⟨p,rfl,_⟩:=h
   rfl
 . obtain⟨p,rfl,k⟩:=h
   exact⟨_,B5 (C7 C9),k⟩
noncomputable abbrev sN4:Stmt:=(G6 (top 46) 0)
theorem scN4:FnScope ["self"] ["self"] (A1 sN4):=scK
theorem A0am(F:Fun K "name" "HalfUp.name" sN4 f fd):FnOk P w K mg base (CX1 P w) 1 f fd ["self"] (A5k "half up"):=by
 refine FnOk.up (F.ok scN4 (fun vs H Q E h=>?_) (fun cdv A outer s H vs Q E hr h=>?_))
 . obtain⟨p,rfl,_⟩:=h
   rfl
 . obtain⟨p,rfl,k⟩:=h
   exact⟨_,B5 (C7 C9),k⟩
noncomputable abbrev sN5:Stmt:=(G6 (top 47) 0)
theorem scN5:FnScope ["self"] ["self"] (A1 sN5):=scK
theorem A0av(F:Fun K "name" "HalfDown.name" sN5 f fd):FnOk P w K mg base (CX1 P w) 1 f fd ["self"] (A5k "half down"):=by
 refine FnOk.up (F.ok scN5 (fun vs H Q E h=>?_) (fun cdv A outer s H vs Q E hr h=>?_))
 . obtain⟨p,rfl,_⟩:=h
   rfl
 . obtain⟨p,rfl,k⟩:=h
   exact⟨_,B5 (C7 C9),k⟩
noncomputable abbrev sN6:Stmt:=(G6 (top 48) 0)
theorem scN6:FnScope ["self"] ["self"] (A1 sN6):=scK
theorem A0ad(F:Fun K "name" "HalfEven.name" sN6 f fd):FnOk P w K mg base (CX1 P w) 1 f fd ["self"] (A5k "half even"):=by
 refine FnOk.up (F.ok scN6 (fun vs H Q E h=>?_) (fun cdv A outer s H vs Q E hr h=>?_))
 . obtain⟨p,rfl,_⟩:=h
   rfl
 . obtain⟨p,rfl,k⟩:=h
   exact⟨_,B5 (C7 C9),k⟩
noncomputable abbrev sN7:Stmt:=(G6 (top 49) 0)
theorem scN7:FnScope ["self"] ["self"] (A1 sN7):=scK
theorem A0ab(F:Fun K "name" "FiveUp.name" sN7 f fd):FnOk P w K mg base (CX1 P w) 1 f fd ["self"] (A5k "five up"):=by
 refine FnOk.up (F.ok scN7 (fun vs H Q E h=>?_) (fun cdv A outer s H vs Q E hr h=>?_))
 . obtain⟨p,rfl,_⟩:=h
   rfl
 . obtain⟨p,rfl,k⟩:=h
   exact⟨_,B5 (C7 C9),k⟩
noncomputable def Z1w (K:Frag) (H:Hp) (v:V):Prop:=∃t b,TyE K H v t/\kitOne K t (.type "str")=some b/\(b=false\/∃z,v= .str z/\∀y:Wy,z≠y.name)
theorem A8b{C:Addr}{σ:L2.St}{H:Hp}{Q:VK}(k:∀p dx H',H p=none ->Same H H' ->H' p=some (.ins C dx []) ->Q (.ref p) H'):Z4g C σ H Q:=fun x dx n1 n2 ne=>
 k x dx _ n1 ((Same.upd n2).trans (Same.upd (by rw[D3 (Ne.symm ne)];exact n1))) A9
noncomputable abbrev A8s:Stmt:=(top 50)
noncomputable def D3a (K:Frag) (CB:Addr) (cw:Wy ->Addr):Sp:=fun vs H Q E=>∃v,vs=[v]/\((∃y:Wy,v= .str y.name/\∀p dx H',H p=none ->Same H H' ->H' p=some (.ins (cw y) dx []) ->Q (.ref p) H')\/(Z1w K H v/\E (.ref CB) none H))
theorem Y5r:FnScope ["name"] ["name"] (A1 A8s):=scK
theorem U6t{f CB CW:Addr}{cw:Wy ->Addr}(D:Def K mg "way_of" ["name"] A8s f fd)(O:Own mg)(T:Kit K)(B:Err K mg "BadContext" CB)(W:∀y:Wy,WayC K mg y.cls (cw y) CW):
   FnOk P w K mg base (CX1 P w) 1 f fd ["name"] (D3a K CB cw):=by
 refine D.F.okE Y5r (fun vs H Q E h=>?_) (fun X cdv A outer s H vs Q E hX hr hx h=>?_)
 . obtain⟨v,rfl,_⟩:=h
   rfl
 . subst hX
   obtain⟨v,rfl,h⟩:=h
   refine⟨_,(B0 (J0 (A2e (Y6 (B3b O.isi (pv 0) (pty O.str_ boot_str)))) (B5 (A3b (by rfl) B.g B.q PySem.F.excBase_ValueError hr.hd hx (A0 C9 A7))) D7)
     (B0 (J0 (D5 U2 (pv 0) C9 (D4 _)) (B5 (C7 (A8h (W .down).mk0 rfl (W .down).g))) D7)
     (B0 (J0 (D5 U2 (pv 0) C9 (D4 _)) (B5 (C7 (A8h (W .up).mk0 rfl (W .up).g))) D7)
     (B0 (J0 (D5 U2 (pv 0) C9 (D4 _)) (B5 (C7 (A8h (W .floor).mk0 rfl (W .floor).g))) D7)
     (B0 (J0 (D5 U2 (pv 0) C9 (D4 _)) (B5 (C7 (A8h (W .ceiling).mk0 rfl (W .ceiling).g))) D7)
     (B0 (J0 (D5 U2 (pv 0) C9 (D4 _)) (B5 (C7 (A8h (W .halfUp).mk0 rfl (W .halfUp).g))) D7)
     (B0 (J0 (D5 U2 (pv 0) C9 (D4 _)) (B5 (C7 (A8h (W .halfDown).mk0 rfl (W .halfDown).g))) D7)
     (B0 (J0 (D5 U2 (pv 0) C9 (D4 _)) (B5 (C7 (A8h (W .halfEven).mk0 rfl (W .halfEven).g))) D7)
     (B0 (J0 (D5 U2 (pv 0) C9 (D4 _)) (B5 (C7 (A8h (W .fiveUp).mk0 rfl (W .fiveUp).g))) D7)
     (B5 (A3b (by rfl) B.g B.q PySem.F.excBase_ValueError hr.hd hx (A0 C9 A7)))))))))))),?_⟩
   have z1:1<=sizeLine:=D6 (by decide)
   rcases h with⟨y,rfl,k⟩|⟨⟨t,b,ty,kk,bad⟩,k⟩
   . refine⟨_,rfl,_,_,_,_,true,rfl,rfl,C9t _,T.str_str,_,rfl,U5 ?_⟩
     refine⟨_,rfl,rfl,_,rfl,Y5 (fun e=>?_) (fun n0=>?_)⟩
     . have q:y= .down:=Wy.inj (V.str.inj (e:V.str y.name=V.str (Wy.name .down)))
       subst q
       exact A8b k
     refine⟨_,rfl,rfl,_,rfl,Y5 (fun e=>?_) (fun n1=>?_)⟩
     . have q:y= .up:=Wy.inj (V.str.inj (e:V.str y.name=V.str (Wy.name .up)))
       subst q
       exact A8b k
     refine⟨_,rfl,rfl,_,rfl,Y5 (fun e=>?_) (fun n2=>?_)⟩
     . have q:y= .floor:=Wy.inj (V.str.inj (e:V.str y.name=V.str (Wy.name .floor)))
       subst q
       exact A8b k
     refine⟨_,rfl,rfl,_,rfl,Y5 (fun e=>?_) (fun n3=>?_)⟩
     . have q:y= .ceiling:=Wy.inj (V.str.inj (e:V.str y.name=V.str (Wy.name .ceiling)))
       subst q
       exact A8b k
     refine⟨_,rfl,rfl,_,rfl,Y5 (fun e=>?_) (fun n4=>?_)⟩
     . have q:y= .halfUp:=Wy.inj (V.str.inj (e:V.str y.name=V.str (Wy.name .halfUp)))
       subst q
       exact A8b k
     refine⟨_,rfl,rfl,_,rfl,Y5 (fun e=>?_) (fun n5=>?_)⟩
     . have q:y= .halfDown:=Wy.inj (V.str.inj (e:V.str y.name=V.str (Wy.name .halfDown)))
       subst q
       exact A8b k
     refine⟨_,rfl,rfl,_,rfl,Y5 (fun e=>?_) (fun n6=>?_)⟩
     . have q:y= .halfEven:=Wy.inj (V.str.inj (e:V.str y.name=V.str (Wy.name .halfEven)))
       subst q
       exact A8b k
     refine⟨_,rfl,rfl,_,rfl,Y5 (fun e=>?_) (fun n7=>?_)⟩
     . have q:y= .fiveUp:=Wy.inj (V.str.inj (e:V.str y.name=V.str (Wy.name .fiveUp)))
       subst q
       exact A8b k
     cases y with
     |down=>exact absurd rfl n0
     |up=>exact absurd rfl n1
     |floor=>exact absurd rfl n2
     |ceiling=>exact absurd rfl n3
     |halfUp=>exact absurd rfl n4
     |halfDown=>exact absurd rfl n5
     |halfEven=>exact absurd rfl n6
     |fiveUp=>exact absurd rfl n7
   . refine⟨_,rfl,_,_,_,_,b,rfl,rfl,ty,kk,_,rfl,?_⟩
     cases b with
     |false=>exact Z2 ⟨z1,k⟩
     | true=>
       obtain⟨z,rfl,nz⟩:=bad.resolve_left (by decide)
       refine U5 ?_
       refine⟨_,rfl,rfl,_,rfl,Y5 (fun e=>absurd (V.str.inj e) (nz .down)) (fun n0=>?_)⟩
       refine⟨_,rfl,rfl,_,rfl,Y5 (fun e=>absurd (V.str.inj e) (nz .up)) (fun n1=>?_)⟩
       refine⟨_,rfl,rfl,_,rfl,Y5 (fun e=>absurd (V.str.inj e) (nz .floor)) (fun n2=>?_)⟩
       refine⟨_,rfl,rfl,_,rfl,Y5 (fun e=>absurd (V.str.inj e) (nz .ceiling)) (fun n3=>?_)⟩
       refine⟨_,rfl,rfl,_,rfl,Y5 (fun e=>absurd (V.str.inj e) (nz .halfUp)) (fun n4=>?_)⟩
       refine⟨_,rfl,rfl,_,rfl,Y5 (fun e=>absurd (V.str.inj e) (nz .halfDown)) (fun n5=>?_)⟩
       refine⟨_,rfl,rfl,_,rfl,Y5 (fun e=>absurd (V.str.inj e) (nz .halfEven)) (fun n6=>?_)⟩
       refine⟨_,rfl,rfl,_,rfl,Y5 (fun e=>absurd (V.str.inj e) (nz .fiveUp)) (fun n7=>?_)⟩
       exact⟨z1,k⟩
end
noncomputable def sigS:List Str:=["void","split","burst","sunk","faint","off","cut"]
noncomputable def G8c:List V:=sigS.map V.str
structure SigK(K:Frag)(mg:Str ->Option Value)(aS:Addr):Prop where
 g:mg "SIGNALS"=some (.ref aS)
 ty:∃o,K.lookup aS=some o/\o.cls= .type "tuple"
 sq:∀H,SqT K H aS G8c
noncomputable abbrev A8e:Stmt:=(top 55)
section
variable{P:Program}{w:World}{K:Frag}{mg:Str ->Option Value}{base:Heap}
noncomputable def BadS (K:Frag) (H:Hp) (x:V):Prop:=∃t b,TyE K H x t/\kitOne K t (.type "str")=some b/\(b=false\/∃z,x= .str z/\z ∉ sigS)
noncomputable def G6h (K:Frag) (H:Hp) (v:V):Prop:=(∃t,TyE K H v t/\kitOne K t (.type "list")=some false)\/(∃(p:Addr) (zs:List Str) (x:V) (r:List V),v= .ref p/\H p=some (.lst (zs.map V.str++x::r))/\(∀z∈zs,z∈sigS)/\BadS K H x)
noncomputable def D1v (K:Frag) (CB:Addr):Sp:=fun vs H Q E=>∃v,vs=[v]/\((∃(p:Addr) (zs:List Str),v= .ref p/\H p=some (.lst (zs.map V.str))/\(∀z∈zs,z∈sigS)/\Q .non H)\/(G6h K H v/\E (.ref CB) none H))
theorem scNeedS:FnScope ["names","name"] ["names"] (A1 A8e):=scK
theorem V0q{f CB aS:Addr}(D:Def K mg "need_signals" ["names"] A8e f fd)(O:Own mg)(T:Kit K)(B:Err K mg "BadContext" CB)(SG:SigK K mg aS):FnOk P w K mg base (CX1 P w) 1 f fd ["names"] (D1v K CB):=by
 refine D.F.okE scNeedS (fun vs H Q E h=>?_) (fun X cdv A outer s H vs Q E hX hr hx h=>?_)
 . obtain⟨v,rfl,_⟩:=h
   rfl
 . subst hX
   obtain⟨v,rfl,h⟩:=h
   refine⟨_,(B0 (J0 (A2e (Y6 (B3b O.isi (pv 0) (pty O.list_ boot_list)))) (B5 (A3b (by rfl) B.g B.q PySem.F.excBase_ValueError hr.hd hx (A0 C9 A7))) D7)
     (B5 (G6y PassesOwn.leaving rfl (C1d (pv 0)) (Y3 (i:=1) scNeedS.nd rfl (Or.inl rfl)) (B5 (J0 (PW.pt (B5b (A2e (Y6 (B3b O.isi (pv 1) (pty O.str_ boot_str)))) (A8c (D5 B4w (pv 1) (D2k SG.g) (by rfl))))) (B5 (A3b (by rfl) B.g B.q PySem.F.excBase_ValueError hr.hd hx (A0 C9 A7))) D7))))),?_⟩
   have z1:1<=sizeLine:=D6 (by decide)
   rcases h with⟨p,zs,rfl,hp,hz,k⟩|⟨(⟨t,ty,kk⟩|⟨p,zs,x,r,rfl,hp,hz,t,b,ty,kk,bad⟩),k⟩
   . refine⟨_,rfl,_,_,_,_,true,rfl,rfl,U8k hp,T.list_list,_,rfl,U5 ?_⟩
     refine⟨_,rfl,p,rfl,⟨_,SqL.of hp⟩,C2z (xs:=zs.map V.str) (fun i σ H'=>H'=H/\∃v,σ=[some (.ref p),v]) ⟨rfl,none,rfl⟩ ?_ ?_ ?_⟩
     . rintro i σ H' _ ⟨rfl,_⟩
       exact SqL.of hp
     . rintro i x σ H' hi ⟨rfl,v,rfl⟩
       obtain⟨z,hzm,rfl⟩:=List.mem_map.mp (List.mem_of_getElem? hi)
       refine⟨_,rfl,_,_,_,_,true,rfl,rfl,C9t _,T.str_str,_,rfl,U5 ?_⟩
       refine⟨_,rfl,aS,G8c,rfl,.inr (SG.sq _),rfl,flat_strs _,_,rfl,?_⟩
       have e:inV (.str z) G8c=true:=by
         show inV (.str z) (sigS.map V.str)=true
         rw[A2n]
         simpa using hz z hzm
       rw[e]
       exact U5 ⟨rfl,_,rfl⟩
     . rintro σ H' ⟨rfl,v,rfl⟩
       exact k
   . exact⟨_,rfl,_,_,_,_,false,rfl,rfl,ty,kk,_,rfl,Z2 ⟨z1,k⟩⟩
   . refine ⟨_,rfl,_,_,_,_,true,rfl,rfl,U8k hp,T.list_list,_,rfl,U5 ?_⟩
     refine⟨_,rfl,p,rfl,⟨_,SqL.of hp⟩,C2z (xs:=zs.map V.str++x::r) (fun i σ H'=>H'=H/\i<=zs.length/\∃v,σ=[some (.ref p),v]) ⟨rfl,Nat.zero_le _,none,rfl⟩ ?_ ?_ ?_⟩
     . rintro i σ H' _ ⟨rfl,_⟩
       exact SqL.of hp
     . rintro i y σ H' hi ⟨rfl,hl,v,rfl⟩
       by_cases hlt:i<zs.length
       . rw[List.getElem?_append_left (by simpa using hlt)] at hi
         obtain⟨z,hzm,rfl⟩:=List.mem_map.mp (List.mem_of_getElem? hi)
         refine⟨_,rfl,_,_,_,_,true,rfl,rfl,C9t _,T.str_str,_,rfl,U5 ?_⟩
         refine⟨_,rfl,aS,G8c,rfl,.inr (SG.sq _),rfl,flat_strs _,_,rfl,?_⟩
         have e:inV (.str z) G8c=true:=by
           show inV (.str z) (sigS.map V.str)=true
           rw[A2n]
           simpa using hz z hzm
         rw[e]
         exact U5 ⟨rfl,by omega,_,rfl⟩
       . have e:i=zs.length:=by omega
         subst e
         rw[List.getElem?_append_right (by simp)] at hi
         simp at hi
         subst hi
         refine⟨_,rfl,_,_,_,_,b,rfl,rfl,ty,kk,_,rfl,?_⟩
         cases b with
         |false=>exact Z2 (Z2 ⟨z1,k⟩)
         | true=>
           obtain⟨z,rfl,nz⟩:=bad.resolve_left (by decide)
           refine U5 ⟨_,rfl,aS,G8c,rfl,.inr (SG.sq _),rfl,flat_strs _,_,rfl,?_⟩
           have e:inV (.str z) G8c=false:=by
             show inV (.str z) (sigS.map V.str)=false
             rw[A2n]
             simpa using nz
           rw[e]
           exact Z2 ⟨z1,k⟩
     . rintro σ H' ⟨rfl,hl,_⟩
       exfalso
       rw[List.length_append,List.length_map,List.length_cons] at hl
       omega
end
noncomputable abbrev A8k:Stmt:=(top 56)
section
variable{P:Program}{w:World}{K:Frag}{mg:Str ->Option Value}{base:Heap}
noncomputable def V1 (zs:List Str):List Str:=sigS.filter fun z=>zs.contains z
noncomputable def D2v (K:Frag):Sp:=fun vs H Q _=>∃(p:Addr) (zs:List Str),vs=[.ref p]/\SqL K H p (zs.map V.str)/\∀l H',Same H H' ->H l=none ->H' l=some (.lst ((V1 zs).map V.str)) ->Q (.ref l) H'
theorem Y4t:FnScope ["names"] ["names"] (A1 A8k):=scK
theorem V0b{f aS:Addr}(D:Def K mg "in_order" ["names"] A8k f fd)(SG:SigK K mg aS):FnOk P w K mg base (CX1 P w) 1 f fd ["names"] (D2v K):=by
 refine FnOk.up (D.F.ok Y4t (fun vs H Q E h=>?_) (fun cdv A outer s H vs Q E hr h=>?_))
 . obtain⟨p,zs,rfl,_⟩:=h
   rfl
 . obtain⟨p,zs,rfl,hp,k⟩:=h
   refine⟨_,(B5 (C7 (C2t (N:=["name"]) (F:=["names"]) (js:=[0]) (CompScopeF.of1 ⟨rfl,by decide+kernel,by decide+kernel,by decide+kernel,by decide+kernel⟩ (by rfl) (by rfl) ⟨_,by rfl⟩ (by rfl) (by rfl)) (.inl hr.hd) rfl (U9k (D2k SG.g)) rfl (fun C s₀ H₀ ex pn h=>Y3 (i:=0) (by decide+kernel:(["name","names"]:List Str).Nodup) rfl (Or.inl rfl)) (fun C s₀ H₀ ex pn h=>(D5 (B3d (K:=K) rfl) (pv 0) (pv 1) (by rfl))) (fun C s₀ H₀ ex pn h=>(pv 0))))),?_⟩
   refine U8s (zs:=sigS) (f:=fun z=>zs.contains z) (σf:=[some (.ref p)]) SG.sq (by decide) (fun z H' Qb sm q=>?_) (fun z H' Qv q=>⟨_,rfl,q⟩) (fun D H' sm nd e=>k D H' sm nd e) rfl
   refine⟨_,rfl,_,rfl,p,_,rfl,.inl (sm.seq hp),rfl,flat_strs _,_,rfl,?_⟩
   show Qb (inV (.str z) (zs.map V.str)) H'
   rw[A2n]
   exact q
end
structure CtxC(K:Frag)(mg:Str ->Option Value)(CC:Addr):Prop where
 g:mg "Context"=some (.ref CC)
 cl:Cls K CC
 n_room:NoAttr K CC "room"
 n_rule:NoAttr K CC "rule"
 n_least:NoAttr K CC "least"
 n_most:NoAttr K CC "most"
 n_risen:NoAttr K CC "risen"
 n_trapped:NoAttr K CC "trapped"
noncomputable def A1s (r s l m a b:V):List (Str×V):=V9 "trapped" b (V9 "risen" a (V9 "most" m (V9 "least" l (V9 "rule" s (V9 "room" r [])))))
theorem A2g(r s l m a b:V)(n:Str):(A1s r s l m a b).lookup n=if n="trapped" then some b else if n="risen" then some a else if n="most" then some m else if n="least" then some l else if n="rule" then some s else if n="room" then some r else none:=by
 unfold A1s
 rw[G4,G4,G4,G4,G4,G4]
 rfl
theorem A8r(r s l m a b:V):(A1s r s l m a b).lookup ("room":Str)=some r:=by rw[A2g,if_neg (by decide+kernel),if_neg (by decide+kernel),if_neg (by decide+kernel),if_neg (by decide+kernel),if_neg (by decide+kernel),if_pos rfl]
theorem U7s(r s l m a b:V):(A1s r s l m a b).lookup ("rule":Str)=some s:=by rw[A2g,if_neg (by decide+kernel),if_neg (by decide+kernel),if_neg (by decide+kernel),if_neg (by decide+kernel),if_pos rfl]
theorem D0h(r s l m a b:V):(A1s r s l m a b).lookup ("least":Str)=some l:=by rw[A2g,if_neg (by decide+kernel),if_neg (by decide+kernel),if_neg (by decide+kernel),if_pos rfl]
theorem C3b(r s l m a b:V):(A1s r s l m a b).lookup ("most":Str)=some m:=by rw[A2g,if_neg (by decide+kernel),if_neg (by decide+kernel),if_pos rfl]
theorem D0d(r s l m a b:V):(A1s r s l m a b).lookup ("risen":Str)=some a:=by rw[A2g,if_neg (by decide+kernel),if_pos rfl]
theorem C0n(r s l m a b:V):(A1s r s l m a b).lookup ("trapped":Str)=some b:=by rw[A2g,if_pos rfl]
theorem C2g(r s l m a b:V):(A1s r s l m a b).lookup ("way":Str)=none:=by rw[A2g,if_neg (by decide+kernel),if_neg (by decide+kernel),if_neg (by decide+kernel),if_neg (by decide+kernel),if_neg (by decide+kernel),if_neg (by decide+kernel)]
theorem B2q(r s l m a b:V):(A1s r s l m a b).lookup ("lowest":Str)=none:=by rw[A2g,if_neg (by decide+kernel),if_neg (by decide+kernel),if_neg (by decide+kernel),if_neg (by decide+kernel),if_neg (by decide+kernel),if_neg (by decide+kernel)]
theorem A5j(r s l m a b:V):(A1s r s l m a b).lookup ("flags":Str)=none:=by rw[A2g,if_neg (by decide+kernel),if_neg (by decide+kernel),if_neg (by decide+kernel),if_neg (by decide+kernel),if_neg (by decide+kernel),if_neg (by decide+kernel)]
theorem G2u(r s l m a b:V):(A1s r s l m a b).lookup ("trap":Str)=none:=by rw[A2g,if_neg (by decide+kernel),if_neg (by decide+kernel),if_neg (by decide+kernel),if_neg (by decide+kernel),if_neg (by decide+kernel),if_neg (by decide+kernel)]
theorem D1y(r s l m a b:V):(A1s r s l m a b).lookup ("traps":Str)=none:=by rw[A2g,if_neg (by decide+kernel),if_neg (by decide+kernel),if_neg (by decide+kernel),if_neg (by decide+kernel),if_neg (by decide+kernel),if_neg (by decide+kernel)]
theorem A4c(r s l m a b:V):(A1s r s l m a b).lookup ("raised":Str)=none:=by rw[A2g,if_neg (by decide+kernel),if_neg (by decide+kernel),if_neg (by decide+kernel),if_neg (by decide+kernel),if_neg (by decide+kernel),if_neg (by decide+kernel)]
structure CtxAt(CC:Addr)(H:Hp)(c:Addr)(r:Int)(y:Wy)(l m:Int)(a b:Addr)(xs ys:List V):Prop where
 ins:∃dx,H c=some (.ins CC dx (A1s (.int r) (.str y.name) (.int l) (.int m) (.ref a) (.ref b)))
 ha:H a=some (.lst xs)
 hb:H b=some (.lst ys)
theorem CtxAt.same{CC:Addr}{H H':Hp}{c:Addr}{r:Int}{y:Wy}{l m:Int}{a b:Addr}{xs ys:List V}(h:CtxAt CC H c r y l m a b xs ys)(e:Same H H'):CtxAt CC H' c r y l m a b xs ys:=by
 obtain⟨⟨dx,z⟩,z1,z2⟩:=h
 exact⟨⟨dx,e _ _ z⟩,e _ _ z1,e _ _ z2⟩
section
variable{P:Program}{w:World}{K:Frag}{mg:Str ->Option Value}{base:Heap}
noncomputable abbrev A0g:Stmt:=(G6 (top 53) 0)
noncomputable abbrev B1u:Stmt:=(G6 (top 53) 1)
noncomputable abbrev B2a:Stmt:=(G6 (top 53) 2)
noncomputable abbrev A2x:Stmt:=(G6 (top 53) 3)
noncomputable abbrev A2y:Stmt:=(G6 (top 53) 6)
noncomputable def G6v (l:Int) (v:V):Prop:=(v= .non/\l= -60)\/(v= .int l/\ -60<=l/\l<=0)
noncomputable def Z3x (K:Frag) (S:Hp ->Prop) (v1 v2 v3 v4:V):Prop:=(∀H',S H' ->C6n K H' 1 24 v1)\/(A4q 1 24 v1/\((∀H',S H' ->Z1w K H' v2)\/((∃y:Wy,v2= .str y.name)/\((v3≠ .non/\∀H',S H' ->C6n K H' (-60) 0 v3)\/((∃l,G6v l v3)/\∀H',S H' ->C6n K H' 0 60 v4)))))
theorem Exc.none{p a:Addr}{H H':Hp}{o:HO}(x:Exc p H H')(hp:H' p=some o)(n:H' a=none):H a=none:=by
 cases q:H a with
 |none=>rfl
 | some u=>
   have:=x a u q (fun e=>by rw[e,hp] at n;cases n)
   rw[n] at this
   cases this
noncomputable def B6n (K:Frag) (CC CB:Addr):Sp:=fun vs H Q E=>∃p dx v1 v2 v3 v4,vs=[.ref p,v1,v2,v3,v4]/\H p=some (.ins CC dx [])/\
 ((∃r y l m,v1= .int r/\1<=r/\r<=24/\v2= .str (Wy.name y)/\G6v l v3/\v4= .int m/\0<=m/\m<=60/\∀a b H',Exc p H H' ->H a=none ->H b=none ->CtxAt CC H' p r y l m a b [] [] ->Q .non H')\/
  (Z3x K (Exc p H) v1 v2 v3 v4/\∀H',Exc p H H' ->E (.ref CB) none H'))
theorem U0s:FnScope ["self","room","way","least","most"] ["self","room","way","least","most"] (A1 A0g):=scK
theorem U7n:B4u 1 24:=by unfold B4u;decide+kernel
theorem G8k:B4u (-60) 0:=by unfold B4u;decide+kernel
theorem U9a:B4u 0 60:=by unfold B4u;decide+kernel
theorem G7w{f fB fW CC CB CW:Addr}{dV:Value}{cw:Wy ->Addr}{fd fdB fdW:FuncData}(F:FunD K "__init__" "Context.__init__" A0g dV f fd)(dA:Def K mg "bounded" ["thing","least","most"] A3g fB fdB)(dC:Def K mg "way_of" ["name"] A8s fW fdW)
   (dB:FnOk P w K mg base (CX1 P w) 2 fB fdB ["thing","least","most"] (D0e K CB)) (dD:FnOk P w K mg base (CX1 P w) 1 fW fdW ["name"] (D3a K CB cw)) (C:CtxC K mg CC)
   (W:∀y:Wy,WayC K mg y.cls (cw y) CW) (N:∀y:Wy,Z8m P w K mg base (cw y) y.name):FnOk P w K mg base (CX1 P w) 3 f fd ["self","room","way","least","most"] (B6n K CC CB):=by
 refine F.okE U0s (fun vs H Q E h=>?_) (fun X cdv A outer s H vs Q E hX hr hx h=>?_)
 . obtain⟨p,dx,v1,v2,v3,v4,rfl,_⟩:=h
   rfl
 . subst hX
   obtain⟨p,dx,v1,v2,v3,v4,rfl,hp,h⟩:=h
   obtain⟨y,hy⟩:∃y:Wy,∀z:Wy,v2= .str z.name ->z=y:=by
     by_cases q:∃z:Wy,v2= .str z.name
     . obtain⟨z,rfl⟩:=q
       exact⟨z,fun u e=>Wy.inj (V.str.inj e.symm)⟩
     . exact⟨.down,fun z e=>absurd ⟨z,e⟩ q⟩
   obtain⟨fN,fdN,mN,gN,bN⟩:=N y
   refine⟨_,(B0 (A0a (pv 0) (D8 dA dB hr hx (A0 (pv 1) (A0 A3 (A0 A3 A7)))) rfl)
     (B0 (A0a (pv 0) (A3e (D8 dC dD hr hx (A0 (pv 2) A7)) (W y).cl mN gN hr bN .nil hx) rfl)
     (B0 (D0 (A0a (pv 0) (A4n (D5 Z4j (pv 3) U9t (D4 _)) (D0p B6m A3) (D8 dA dB hr hx (A0 (pv 3) (A0 (D0p B6m A3) (A0 A3 A7))))) rfl))
     (B0 (A0a (pv 0) (D8 dA dB hr hx (A0 (pv 4) (A0 A3 (A0 A3 A7)))) rfl)
     (B0 (A0a (pv 0) (U1 A7) rfl)
     (B5 (A0a (pv 0) (U1 A7) rfl))))))),?_⟩
   have lz:∀(fs:List (Str×V)) (f:Str) (v:V) (n:Nat),fs.length<=n ->(V9 f v fs).length<=n+1:=fun fs f v n h=>Nat.le_trans (A1r f v fs) (Nat.succ_le_succ h)
   have q0:(([]:List (Str×V))).length<=0:=Nat.le_refl _
   have z0:0<=sizeLine:=Nat.zero_le _
   rcases h with⟨r,y',l,m,rfl,r1,r2,rfl,hl,rfl,m1,m2,k⟩|⟨bad,k⟩
   . obtain rfl:=hy _ rfl
     refine⟨_,rfl,_,_,_,rfl,U7n,.inl ⟨⟨r,rfl,r1,r2⟩,?_⟩⟩
     refine⟨_,rfl,p,CC,dx,[],rfl,hp,C.cl,C.n_room,by show 0<1000;decide,?_⟩
     refine⟨_,rfl,_,rfl,.inl ⟨_,rfl,fun q dq H2 nq s2 eq=>⟨q,dq,[],rfl,eq,rfl,_,rfl,?_⟩⟩⟩
     have hp2:=s2 _ _ (A9 (H:=H) (a:=p) (o:= .ins CC dx (V9 "room" (.int r) [])))
     have x2:Exc p H H2:=(Exc.upd (H:=H) (o:= .ins CC dx (V9 "room" (.int r) []))).trans (.of s2)
     refine⟨_,rfl,p,CC,dx,_,rfl,hp2,C.cl,C.n_rule,Nat.lt_of_le_of_lt (lz _ _ _ 0 q0) (by decide),?_⟩
     refine⟨fun σ' H'=>σ'=[some (.ref p),some (.int r),some (.str y'.name),some v3,some (.int m)]/\Exc p H H'/\H' p=some (.ins CC dx (V9 "least" (.int l) (V9 "rule" (.str y'.name) (V9 "room" (.int r) [])))),?_,?_⟩
     . refine⟨_,rfl,rfl,_,rfl,?_⟩
       rcases hl with⟨rfl,rfl⟩|⟨rfl,l1,l2⟩
       . refine A1p rfl ⟨_,rfl,?_⟩
         exact⟨_,rfl,p,CC,dx,_,rfl,A9,C.cl,C.n_least,Nat.lt_of_le_of_lt (lz _ _ _ 1 (lz _ _ _ 0 q0)) (by decide),rfl,(x2.trans Exc.upd).trans Exc.upd,A9⟩
       . refine V8 (by intro z;cases z) ⟨_,rfl,_,rfl,_,_,_,rfl,G8k,.inl ⟨⟨l,rfl,l1,l2⟩,?_⟩⟩
         exact⟨_,rfl,p,CC,dx,_,rfl,A9,C.cl,C.n_least,Nat.lt_of_le_of_lt (lz _ _ _ 1 (lz _ _ _ 0 q0)) (by decide),rfl,(x2.trans Exc.upd).trans Exc.upd,A9⟩
     rintro σ' H4 ⟨rfl,x4,hp4⟩
     refine⟨_,rfl,_,_,_,rfl,U9a,.inl ⟨⟨m,rfl,m1,m2⟩,?_⟩⟩
     refine⟨_,rfl,p,CC,dx,_,rfl,hp4,C.cl,C.n_most,Nat.lt_of_le_of_lt (lz _ _ _ 2 (lz _ _ _ 1 (lz _ _ _ 0 q0))) (by decide),?_⟩
     refine⟨z0,fun a na=>?_⟩
     refine⟨_,rfl,p,CC,dx,_,rfl,Same.upd na _ _ A9,C.cl,C.n_risen,Nat.lt_of_le_of_lt (lz _ _ _ 3 (lz _ _ _ 2 (lz _ _ _ 1 (lz _ _ _ 0 q0)))) (by decide),?_⟩
     refine⟨z0,fun b nb=>?_⟩
     refine⟨_,rfl,p,CC,dx,_,rfl,Same.upd nb _ _ A9,C.cl,C.n_trapped,Nat.lt_of_le_of_lt (lz _ _ _ 4 (lz _ _ _ 3 (lz _ _ _ 2 (lz _ _ _ 1 (lz _ _ _ 0 q0))))) (by decide),?_⟩
     have x5:=x4.trans (Exc.upd (H:=H4) (o:= .ins CC dx (V9 "most" (.int m) (V9 "least" (.int l) (V9 "rule" (.str y'.name) (V9 "room" (.int r) []))))))
     have nap:a≠p:=fun e=>by rw[e,A9] at na;cases na
     have nbp:b≠p:=fun e=>by rw[e,A9] at nb;cases nb
     have x6:=(x5.trans (.of (Same.upd (o:= .lst []) na))).trans (Exc.upd (o:= .ins CC dx (V9 "risen" (.ref a) (V9 "most" (.int m) (V9 "least" (.int l) (V9 "rule" (.str y'.name) (V9 "room" (.int r) [])))))))
     have x7:=(x6.trans (.of (Same.upd (o:= .lst []) nb))).trans (Exc.upd (o:= .ins CC dx (A1s (.int r) (.str y'.name) (.int l) (.int m) (.ref a) (.ref b))))
     refine k a b _ x7 (x5.none A9 na) (x6.none A9 nb) ⟨⟨dx,A9⟩,?_,?_⟩
     . rw[D3 nap]
       refine Same.upd nb _ _ ?_
       rw[D3 nap]
       exact A9
     . rw[D3 nbp]
       exact A9
   . rcases bad with b1|⟨⟨r,rfl,r1,r2⟩,bad⟩
     . exact⟨_,rfl,_,_,_,rfl,U7n,.inr ⟨b1 _ (Exc.refl p H),k _ (Exc.refl p H)⟩⟩
     refine⟨_,rfl,_,_,_,rfl,U7n,.inl ⟨⟨r,rfl,r1,r2⟩,?_⟩⟩
     refine⟨_,rfl,p,CC,dx,[],rfl,hp,C.cl,C.n_room,by show 0<1000;decide,?_⟩
     have x1:Exc p H (upd H p (.ins CC dx (V9 "room" (.int r) []))):=Exc.upd
     rcases bad with b2|⟨⟨y',rfl⟩,bad⟩
     . exact⟨_,rfl,_,rfl,.inr ⟨b2 _ x1,k _ x1⟩⟩
     obtain rfl:=hy _ rfl
     refine⟨_,rfl,_,rfl,.inl ⟨_,rfl,fun q dq H2 nq s2 eq=>⟨q,dq,[],rfl,eq,rfl,_,rfl,?_⟩⟩⟩
     have hp2:=s2 _ _ (A9 (H:=H) (a:=p) (o:= .ins CC dx (V9 "room" (.int r) [])))
     have x2:Exc p H H2:=x1.trans (.of s2)
     refine⟨_,rfl,p,CC,dx,_,rfl,hp2,C.cl,C.n_rule,Nat.lt_of_le_of_lt (lz _ _ _ 0 q0) (by decide),?_⟩
     rcases bad with⟨n3,b3⟩|⟨⟨l,hl⟩,b4⟩
     . refine⟨fun _ _=>False,?_,fun _ _ z=>z.elim⟩
       refine⟨_,rfl,rfl,_,rfl,V8 n3 ?_⟩
       exact⟨_,rfl,_,rfl,_,_,_,rfl,G8k,.inr ⟨b3 _ (x2.trans Exc.upd),k _ (x2.trans Exc.upd)⟩⟩
     refine⟨fun σ' H'=>σ'=[some (.ref p),some (.int r),some (.str y'.name),some v3,some v4]/\Exc p H H',?_,?_⟩
     . refine⟨_,rfl,rfl,_,rfl,?_⟩
       rcases hl with⟨rfl,rfl⟩|⟨rfl,l1,l2⟩
       . refine A1p rfl ⟨_,rfl,?_⟩
         exact⟨_,rfl,p,CC,dx,_,rfl,A9,C.cl,C.n_least,Nat.lt_of_le_of_lt (lz _ _ _ 1 (lz _ _ _ 0 q0)) (by decide),rfl,(x2.trans Exc.upd).trans Exc.upd⟩
       . refine V8 (by intro z;cases z) ⟨_,rfl,_,rfl,_,_,_,rfl,G8k,.inl ⟨⟨l,rfl,l1,l2⟩,?_⟩⟩
         exact⟨_,rfl,p,CC,dx,_,rfl,A9,C.cl,C.n_least,Nat.lt_of_le_of_lt (lz _ _ _ 1 (lz _ _ _ 0 q0)) (by decide),rfl,(x2.trans Exc.upd).trans Exc.upd⟩
     rintro σ' H4 ⟨rfl,x4⟩
     exact⟨_,rfl,_,_,_,rfl,U9a,.inr ⟨b4 _ x4,k _ x4⟩⟩
end
section
variable{P:Program}{w:World}{K:Frag}{mg:Str ->Option Value}{base:Heap}
noncomputable def C2n (CC:Addr) (cw:Wy ->Addr):Sp:=fun vs H Q _=>∃c r y l m a b xs ys,vs=[.ref c]/\CtxAt CC H c r y l m a b xs ys/\∀p dx H',H p=none ->Same H H' ->H' p=some (.ins (cw y) dx []) ->Q (.ref p) H'
theorem V0r:FnScope ["self"] ["self"] (A1 B1u):=scK
theorem U2q{f fW CC CB:Addr}{cw:Wy ->Addr}{fd fdW:FuncData}(F:Fun K "way" "Context.way" B1u f fd)(dA:Def K mg "way_of" ["name"] A8s fW fdW)(dB:FnOk P w K mg base (CX1 P w) 1 fW fdW ["name"] (D3a K CB cw))(C:CtxC K mg CC):
   FnOk P w K mg base (CX1 P w) 2 f fd ["self"] (C2n CC cw):=by
 refine F.okE V0r (fun vs H Q E h=>?_) (fun X cdv A outer s H vs Q E hX hr hx h=>?_)
 . obtain⟨c,r,y,l,m,a,b,xs,ys,rfl,_⟩:=h
   rfl
 . subst hX
   obtain⟨c,r,y,l,m,a,b,xs,ys,rfl,⟨⟨dx,e⟩,_,_⟩,k⟩:=h
   refine⟨_,(B5 (C7 (D8 dA dB hr hx (A0 (G8 (pv 0) rfl) A7)))),?_⟩
   exact⟨_,rfl,c,CC,dx,_,_,rfl,e,C.cl,C.n_rule,U7s _ _ _ _ _ _,_,rfl,.inl ⟨y,rfl,k⟩⟩
noncomputable def C1m (CC:Addr):Sp:=fun vs H Q _=>∃c r y l m a b xs ys,vs=[.ref c]/\CtxAt CC H c r y l m a b xs ys/\Q (.int (l-r+1)) H
theorem U7u:FnScope ["self"] ["self"] (A1 B2a):=scK
theorem U1s{f CC:Addr}(F:Fun K "lowest" "Context.lowest" B2a f fd)(C:CtxC K mg CC):FnOk P w K mg base (CX1 P w) 1 f fd ["self"] (C1m CC):=by
 refine FnOk.up (F.ok U7u (fun vs H Q E h=>?_) (fun cdv A outer s H vs Q E hr h=>?_))
 . obtain⟨c,r,y,l,m,a,b,xs,ys,rfl,_⟩:=h
   rfl
 . obtain⟨c,r,y,l,m,a,b,xs,ys,rfl,⟨⟨dx,e⟩,_,_⟩,k⟩:=h
   refine⟨_,(B5 (C7 (B9 V2 (B9 U8 (G8 (pv 0) rfl) (G8 (pv 0) rfl)) A3))),?_⟩
   exact⟨_,rfl,c,CC,dx,_,_,rfl,e,C.cl,C.n_least,D0h _ _ _ _ _ _,_,rfl,c,CC,dx,_,_,rfl,e,C.cl,C.n_room,A8r _ _ _ _ _ _,_,_,rfl,rfl,_,_,rfl,rfl,k⟩
noncomputable def B3p (CC:Addr):Sp:=fun vs H Q _=>∃c r y l m a b xs ys,vs=[.ref c]/\CtxAt CC H c r y l m a b xs ys/\∀p,H p=none ->Q (.ref p) (upd H p (.lst xs))
theorem G8b:FnScope ["self"] ["self"] (A1 A2x):=scK
theorem G2x{f CC:Addr}(F:Fun K "flags" "Context.flags" A2x f fd)(C:CtxC K mg CC)(O:Own mg):FnOk P w K mg base (CX1 P w) 1 f fd ["self"] (B3p CC):=by
 refine FnOk.up (F.ok G8b (fun vs H Q E h=>?_) (fun cdv A outer s H vs Q E hr h=>?_))
 . obtain⟨c,r,y,l,m,a,b,xs,ys,rfl,_⟩:=h
   rfl
 . obtain⟨c,r,y,l,m,a,b,xs,ys,rfl,⟨⟨dx,e⟩,ha,_⟩,k⟩:=h
   refine⟨_,(B5 (C7 (J9 B4y (by rfl) O.list_ boot_list (A0 (G8 (pv 0) rfl) A7)))),?_⟩
   exact⟨_,rfl,c,CC,dx,_,_,rfl,e,C.cl,C.n_risen,D0d _ _ _ _ _ _,a,xs,rfl,.inl (SqL.of ha),k⟩
structure MakeC(P:Program)(w:World)(K:Frag)(mg:Str ->Option Value)(base:Heap)(CC CB fI:Addr)(fdI:FuncData):Prop where
 m:Mk K CC fI
 g:FnOk P w K mg base (CX1 P w) 3 fI fdI ["self","room","way","least","most"] (B6n K CC CB)
theorem Y4v{C x dx:Addr}{H H':Hp}(n1:H x=none)(n2:H dx=none)(ne:dx≠x)(e:Exc x (upd (upd H dx (.own x)) x (.ins C dx [])) H'):Same H H':=fun b o h=>
 e b o (by rw[D3 (G2 h n1),D3 (G2 h n2)];exact h) (G2 h n1)
theorem Z8z{CC CB x dx:Addr}{H:Hp}{Q:VK}{E:XK}{v1 v2 v3 v4:V}{r:Int}{y:Wy}{l m:Int}(n1:H x=none)(n2:H dx=none)(ne:dx≠x)(h1:v1= .int r)(r1:1<=r)(r2:r<=24)(h2:v2= .str y.name)(h3:G6v l v3)(h4:v4= .int m)(m1:0<=m)(m2:m<=60)
   (k:∀a b H',Same H H' ->CtxAt CC H' x r y l m a b [] [] ->Q .non H'):B6n K CC CB [.ref x,v1,v2,v3,v4] (upd (upd H dx (.own x)) x (.ins CC dx [])) Q E:=
 ⟨x,dx,v1,v2,v3,v4,rfl,A9,.inl ⟨r,y,l,m,h1,r1,r2,h2,h3,h4,m1,m2,fun a b H' e _ _ c=>k a b H' (Y4v n1 n2 ne e) c⟩⟩
end
noncomputable abbrev A4j:Stmt:=(G6 (top 53) 5)
noncomputable abbrev A0z:Stmt:=(G6 (top 53) 7)
theorem G1r(r s l m a b:V):(A1s r s l m a b).length=6:=rfl
theorem D2j(r s l m a b v:V):V9 "trapped" v (A1s r s l m a b)=A1s r s l m a v:=rfl
theorem G8e(r s l m a b v:V):V9 "risen" v (A1s r s l m a b)=A1s r s l m v b:=rfl
section
variable{P:Program}{w:World}{K:Frag}{mg:Str ->Option Value}{base:Heap}
noncomputable def G7k (K:Frag) (CC CB:Addr):Sp:=fun vs H Q E=>∃c r y l m a b xs ys v,vs=[.ref c,v]/\CtxAt CC H c r y l m a b xs ys/\
 ((∃(p:Addr) (zs:List Str),v= .ref p/\H p=some (.lst (zs.map V.str))/\(∀z∈zs,z∈sigS)/\∀b' H',Exc c H H' ->H b'=none ->CtxAt CC H' c r y l m a b' xs ((V1 zs).map V.str) ->Q .non H')\/(G6h K H v/\E (.ref CB) none H))
theorem Z2x:FnScope ["self","names"] ["self","names"] (A1 A4j):=scK
theorem Y7e{f f1 f2 CC CB:Addr}(F:Fun K "trap" "Context.trap" A4j f fd)(dA:Def K mg "need_signals" ["names"] A8e f1 fd1)(dB:FnOk P w K mg base (CX1 P w) 1 f1 fd1 ["names"] (D1v K CB))
   (dC:Def K mg "in_order" ["names"] A8k f2 fd2) (dD:FnOk P w K mg base (CX1 P w) 1 f2 fd2 ["names"] (D2v K)) (C:CtxC K mg CC):FnOk P w K mg base (CX1 P w) 2 f fd ["self","names"] (G7k K CC CB):=by
 refine F.okE Z2x (fun vs H Q E h=>?_) (fun X cdv A outer s H vs Q E hX hr hx h=>?_)
 . obtain⟨c,r,y,l,m,a,b,xs,ys,v,rfl,_⟩:=h
   rfl
 . subst hX
   obtain⟨c,r,y,l,m,a,b,xs,ys,v,rfl,⟨⟨dx,e⟩,ha,hb⟩,h⟩:=h
   refine⟨_,(B0 (Y2 (D8 dA dB hr hx (A0 (pv 1) A7)))
     (B5 (A0a (pv 0) (D8 dC dD hr hx (A0 (pv 1) A7)) rfl))),?_⟩
   rcases h with⟨p,zs,rfl,hp,hz,k⟩|⟨bad,k⟩
   . refine⟨_,rfl,_,rfl,.inl ⟨p,zs,rfl,hp,hz,?_⟩⟩
     refine⟨_,rfl,p,zs,rfl,SqL.of hp,fun b' H1 s1 n1 e1=>?_⟩
     refine⟨_,rfl,c,CC,dx,_,rfl,s1 _ _ e,C.cl,C.n_trapped,by rw[G1r];decide,?_⟩
     rw[D2j]
     have nac:a≠c:=A4r ha e (by intro z;cases z)
     have nbc:b'≠c:=A4r e1 (s1 _ _ e) (by intro z;cases z)
     exact k b' _ ((Exc.of s1).trans Exc.upd) n1 ⟨⟨dx,A9⟩,by rw[D3 nac];exact s1 _ _ ha,by rw[D3 nbc];exact e1⟩
   . exact⟨_,rfl,_,rfl,.inr ⟨bad,k⟩⟩
noncomputable def hit (ys zs:List Str):Option Str:=ys.find? fun t=>zs.contains t
noncomputable def C1j (K:Frag) (CC CB CT:Addr):Sp:=fun vs H Q E=>∃c r y l m a b,∃(xs ys:List Str) (v:V),vs=[.ref c,v]/\CtxAt CC H c r y l m a b (xs.map V.str) (ys.map V.str)/\xs.length+100<=1000/\
 ((∃ (p:Addr) (zs:List Str),v= .ref p/\H p=some (.lst (zs.map V.str))/\zs.length<=100/\(∀z∈zs,z∈sigS)/\
     (hit ys zs=none ->∀a' H',Exc c H H' ->H a'=none ->CtxAt CC H' c r y l m a' b ((V1 (xs++zs)).map V.str) (ys.map V.str) ->Q .non H')/\
     (∀t,hit ys zs=some t ->∀a' d H',Exc c H H' ->H a'=none ->CtxAt CC H' c r y l m a' b ((V1 (xs++zs)).map V.str) (ys.map V.str) ->H d=none ->H' d=some (.xd [("signal",.str t)]) ->E (.ref CT) (some d) H'))\/
  (G6h K H v/\E (.ref CB) none H))
theorem scRaised:FnScope ["self","names","name"] ["self","names"] (A1 A0z):=scK
theorem U0p{f f1 f2 fX CC CB CT:Addr}{fd fd1 fd2 fdX:FuncData}(F:Fun K "raised" "Context.raised" A0z f fd)(dA:Def K mg "need_signals" ["names"] A8e f1 fd1)(dB:FnOk P w K mg base (CX1 P w) 1 f1 fd1 ["names"] (D1v K CB))
   (dC:Def K mg "in_order" ["names"] A8k f2 fd2) (dD:FnOk P w K mg base (CX1 P w) 1 f2 fd2 ["names"] (D2v K)) (C:CtxC K mg CC)
   (gT:mg "Trapped"=some (.ref CT)) (XI:ExcI K CT fX) (GX:FnOk P w K mg base CX0 1 fX fdX ["self","signal"] (D3f CT "signal")) (BX:Binds K fdX ["self","signal"] []):FnOk P w K mg base (CX1 P w) 3 f fd ["self","names"] (C1j K CC CB CT):=by
 refine F.okE scRaised (fun vs H Q E h=>?_) (fun X cdv A outer s H vs Q E hX hr hx h=>?_)
 . obtain⟨c,r,y,l,m,a,b,xs,ys,v,rfl,_⟩:=h
   rfl
 . subst hX
   obtain⟨c,r,y,l,m,a,b,xs,ys,v,rfl,⟨⟨dx,e⟩,ha,hb⟩,lx,h⟩:=h
   refine⟨_,(B0 (Y2 (D8 dA dB hr hx (A0 (pv 1) A7)))
     (B0 (A0a (pv 0) (D8 dC dD hr hx (A0 (B9 A8q (G8 (pv 0) rfl) (pv 1)) A7)) rfl)
     (B5 (G6y PassesOwn.leaving rfl (C1d (G8 (pv 0) rfl)) (Y3 (i:=2) scRaised.nd rfl (Or.inl rfl)) (B5 (J0 (D5 A4k (pv 2) (pv 1) (by rfl)) (B5 (U0v gT XI GX BX hr hx (A0 (pv 2) A7))) D7)))))),?_⟩
   rcases h with⟨p,zs,rfl,hp,lz,hz,k1,k2⟩|⟨bad,k⟩
   . refine⟨_,rfl,_,rfl,.inl ⟨p,zs,rfl,hp,hz,?_⟩⟩
     refine⟨_,rfl,c,CC,dx,_,_,rfl,e,C.cl,C.n_risen,D0d _ _ _ _ _ _,_,rfl,a,p,_,_,rfl,rfl,ha,hp,D6 (by rw[List.length_map,List.length_map];omega),fun q nq=>?_⟩
     have u1:=Same.upd (o:= .lst (xs.map V.str++zs.map V.str)) nq
     refine⟨q,xs++zs,rfl,SqL.of (by rw[A9,List.map_append]),fun a' H1 s1 n1 e1=>?_⟩
     have s2:=u1.trans s1
     refine⟨_,rfl,c,CC,dx,_,rfl,s2 _ _ e,C.cl,C.n_risen,by rw[G1r];decide,?_⟩
     rw[G8e]
     have nbc:b≠c:=A4r hb e (by intro z;cases z)
     have npc:p≠c:=A4r hp e (by intro z;cases z)
     have nac:a'≠c:=A4r e1 (s2 _ _ e) (by intro z;cases z)
     have x2:Exc c H (upd H1 c (.ins CC dx (A1s (.int r) (.str y.name) (.int l) (.int m) (.ref a') (.ref b)))):=(Exc.of s2).trans Exc.upd
     have hb2:(upd H1 c (.ins CC dx (A1s (.int r) (.str y.name) (.int l) (.int m) (.ref a') (.ref b)))) b=some (.lst (ys.map V.str)):=by rw[D3 nbc];exact s2 _ _ hb
     have hp2:(upd H1 c (.ins CC dx (A1s (.int r) (.str y.name) (.int l) (.int m) (.ref a') (.ref b)))) p=some (.lst (zs.map V.str)):=by rw[D3 npc];exact s2 _ _ hp
     have ct:CtxAt CC (upd H1 c (.ins CC dx (A1s (.int r) (.str y.name) (.int l) (.int m) (.ref a') (.ref b)))) c r y l m a' b ((V1 (xs++zs)).map V.str) (ys.map V.str):=⟨⟨dx,A9⟩,by rw[D3 nac];exact e1,hb2⟩
     refine⟨_,rfl,c,CC,dx,_,_,rfl,A9,C.cl,C.n_trapped,C0n _ _ _ _ _ _,b,rfl,⟨_,SqL.of hb2⟩,?_⟩
     generalize upd H1 c (.ins CC dx (A1s (.int r) (.str y.name) (.int l) (.int m) (.ref a') (.ref b)))=H3 at x2 hb2 hp2 ct ⊢
     refine C2z (xs:=ys.map V.str) (fun i σ H'=>H'=H3/\(∀t∈ys.take i,zs.contains t=false)/\∃v,σ=[some (.ref c),some (.ref p),v]) ⟨rfl,by simp,none,rfl⟩ ?_ ?_ ?_
     . rintro i σ H' _ ⟨rfl,_⟩
       exact SqL.of hb2
     . rintro i x σ H' hi ⟨rfl,ht,v,rfl⟩
       rw[List.getElem?_map] at hi
       obtain⟨t,hti,rfl⟩:=Option.map_eq_some_iff.mp hi
       refine⟨_,rfl,_,rfl,p,_,rfl,.inl (SqL.of hp2),rfl,flat_strs _,_,rfl,?_⟩
       have hlt:i<ys.length:=(List.getElem?_eq_some_iff.mp hti).1
       have et:ys.take (i+1)=ys.take i++ [t]:=by
         rw[List.take_succ_eq_append_getElem hlt,(List.getElem?_eq_some_iff.mp hti).2]
       cases hc:zs.contains t with
       | false=>
         rw[show(if false=true then !inV (V.str t) (zs.map V.str) else inV (V.str t) (zs.map V.str))=false by rw[if_neg Bool.false_ne_true,A2n,hc]]
         refine U5 ⟨rfl,fun t' h'=>?_,_,rfl⟩
         rw[et] at h'
         rcases List.mem_append.mp h' with h'|h'
         . exact ht t' h'
         . rw[List.mem_singleton.mp h'];exact hc
       | true=>
         rw[show(if false=true then !inV (V.str t) (zs.map V.str) else inV (V.str t) (zs.map V.str))=true by rw[if_neg Bool.false_ne_true,A2n,hc]]
         obtain⟨dx',hc3⟩:=ct.ins
         refine Z2 ⟨_,rfl,_,rfl,fun d H4 s4 nd e4=>?_⟩
         refine k2 t ?_ a' d H4 (x2.trans (.of s4)) ((u1.free n1)) (ct.same s4) (x2.none hc3 nd) e4
         unfold hit
         rw[List.find?_eq_some_iff_append]
         refine⟨hc,ys.take i,ys.drop (i+1),?_,fun t' h'=>by rw[ht t' h'];rfl⟩
         have:=List.take_append_drop (i+1) ys
         rw[et] at this
         rw[List.append_assoc] at this
         exact this.symm
     . rintro σ H' ⟨rfl,ht,v,rfl⟩
       refine k1 ?_ a' _ x2 (u1.free n1) ct
       unfold hit
       rw[List.find?_eq_none]
       rw[List.length_map,List.take_length] at ht
       intro t hm
       rw[ht t hm]
       exact Bool.false_ne_true
   . exact⟨_,rfl,_,rfl,.inr ⟨bad,k⟩⟩
end
section
variable{P:Program}{w:World}{K:Frag}{mg:Str ->Option Value}{base:Heap}
noncomputable def B3m (CC:Addr):Sp:=fun vs H Q _=>∃c r y l m a b xs ys,vs=[.ref c]/\CtxAt CC H c r y l m a b xs ys/\∀p,H p=none ->Q (.ref p) (upd H p (.lst ys))
theorem G6k:FnScope ["self"] ["self"] (A1 A2y):=scK
theorem G2h{f CC:Addr}(F:Fun K "traps" "Context.traps" A2y f fd)(C:CtxC K mg CC)(O:Own mg):FnOk P w K mg base (CX1 P w) 1 f fd ["self"] (B3m CC):=by
 refine FnOk.up (F.ok G6k (fun vs H Q E h=>?_) (fun cdv A outer s H vs Q E hr h=>?_))
 . obtain⟨c,r,y,l,m,a,b,xs,ys,rfl,_⟩:=h
   rfl
 . obtain⟨c,r,y,l,m,a,b,xs,ys,rfl,⟨⟨dx,e⟩,_,hb⟩,k⟩:=h
   refine⟨_,(B5 (C7 (J9 B4y (by rfl) O.list_ boot_list (A0 (G8 (pv 0) rfl) A7)))),?_⟩
   exact⟨_,rfl,c,CC,dx,_,_,rfl,e,C.cl,C.n_trapped,C0n _ _ _ _ _ _,b,ys,rfl,.inl (SqL.of hb),k⟩
end
noncomputable abbrev B1y:Stmt:=(G6 (top 15) 0)
section
variable{P:Program}{w:World}{K:Frag}{mg:Str ->Option Value}{base:Heap}
theorem V0a:FnScope ["self","signal"] ["self","signal"] (A1 B1y):=scK
theorem U0r{f CT fI:Addr}(F:Fun K "__init__" "Trapped.__init__" B1y f fd)(XI:ExcI K CT fI)(hn:findIn K (.ref CT) "signal"=some none):FnOk P w K mg base CX0 1 f fd ["self","signal"] (D3f CT "signal"):=by
 refine F.ok V0a (fun vs H Q E h=>?_) (fun cdv A outer s H vs Q E hr h=>?_)
 . obtain⟨e,t,v,rfl,_⟩:=h
   rfl
 . obtain⟨e,t,v,rfl,he,k⟩:=h
   refine⟨_,(B5 (Y4y XI hn (pv 0) (pv 1) rfl)),?_⟩
   exact⟨_,rfl,_,rfl,e,t,rfl,he,fun d nd ne=>k d nd ne⟩
end
section
variable{P:Program}{w:World}{K:Frag}{mg:Str ->Option Value}{base:Heap}
end
noncomputable def Wy.goes (y:Wy) (s last part:Int):Bool:=match y with
 | .down=>false
 | .up=>true
 | .floor=>decide (V.int s=V.int 1)
 | .ceiling=>decide (V.int s=V.int 0)
 | .halfUp=>decide (part>=2)
 | .halfDown=>decide (V.int part=V.int 3)
 | .halfEven=>if decide (V.int part=V.int 3)=true then true else if decide (V.int part=V.int 2)=true then decide (V.int (last % 2)=V.int 1) else false
 | .fiveUp=>inV (.int last) [.int 0,.int 5]
noncomputable def Wy.toEnd (y:Wy) (s:Int):Bool:=match y with
 | .down=>false
 | .up=>true
 | .floor=>decide (V.int s=V.int 1)
 | .ceiling=>decide (V.int s=V.int 0)
 | .halfUp=>true
 | .halfDown=>true
 | .halfEven=>true
 | .fiveUp=>false
section
variable{P:Program}{w:World}{K:Frag}{mg:Str ->Option Value}{base:Heap}
noncomputable def A5f (y:Wy):Sp:=fun vs H Q _=>∃p s l t,vs=[.ref p,.int s,.int l,.int t]/\∀H',Same H H' ->Q (.bl (y.goes s l t)) H'
noncomputable def A2m (y:Wy):Sp:=fun vs H Q _=>∃p s,vs=[.ref p,.int s]/\∀H',Same H H' ->Q (.bl (y.toEnd s)) H'
noncomputable def Z9h (P:Program) (w:World) (K:Frag) (mg:Str ->Option Value) (base:Heap) (C:Addr) (y:Wy):Prop:=Has P w K mg base C "goes_up" 1 ["self","sign","last","part"] (A5f y)
noncomputable def WayE (P:Program) (w:World) (K:Frag) (mg:Str ->Option Value) (base:Heap) (C:Addr) (y:Wy):Prop:=Has P w K mg base C "to_end" 1 ["self","sign"] (A2m y)
noncomputable abbrev sU0:Stmt:=(G6 (top 42) 1)
theorem scU0:FnScope ["self","sign","last","part"] ["self","sign","last","part"] (A1 sU0):=scK
theorem Z8k(F:Fun K "goes_up" "Down.goes_up" sU0 f fd):FnOk P w K mg base (CX1 P w) 1 f fd ["self","sign","last","part"] (A5f .down):=by
 refine FnOk.up (F.ok scU0 (fun vs H Q E h=>?_) (fun cdv A outer s H vs Q E hr h=>?_))
 . obtain⟨p,z,l,t,rfl,_⟩:=h
   rfl
 . obtain⟨p,z,l,t,rfl,k⟩:=h
   refine⟨_,(B5 (C7 A0j)),?_⟩
   exact k H (Same.refl H)
noncomputable abbrev sT0:Stmt:=(G6 (top 42) 2)
theorem scT0:FnScope ["self","sign"] ["self","sign"] (A1 sT0):=scK
theorem A0bb(F:Fun K "to_end" "Down.to_end" sT0 f fd):FnOk P w K mg base (CX1 P w) 1 f fd ["self","sign"] (A2m .down):=by
 refine FnOk.up (F.ok scT0 (fun vs H Q E h=>?_) (fun cdv A outer s H vs Q E hr h=>?_))
 . obtain⟨p,z,rfl,_⟩:=h
   rfl
 . obtain⟨p,z,rfl,k⟩:=h
   refine⟨_,(B5 (C7 A0j)),?_⟩
   exact k H (Same.refl H)
noncomputable abbrev sU1:Stmt:=(G6 (top 43) 1)
theorem scU1:FnScope ["self","sign","last","part"] ["self","sign","last","part"] (A1 sU1):=scK
theorem Z8u(F:Fun K "goes_up" "Up.goes_up" sU1 f fd):FnOk P w K mg base (CX1 P w) 1 f fd ["self","sign","last","part"] (A5f .up):=by
 refine FnOk.up (F.ok scU1 (fun vs H Q E h=>?_) (fun cdv A outer s H vs Q E hr h=>?_))
 . obtain⟨p,z,l,t,rfl,_⟩:=h
   rfl
 . obtain⟨p,z,l,t,rfl,k⟩:=h
   refine⟨_,(B5 (C7 A0j)),?_⟩
   exact k H (Same.refl H)
noncomputable abbrev sT1:Stmt:=(G6 (top 43) 2)
theorem scT1:FnScope ["self","sign"] ["self","sign"] (A1 sT1):=scK
theorem A0bk(F:Fun K "to_end" "Up.to_end" sT1 f fd):FnOk P w K mg base (CX1 P w) 1 f fd ["self","sign"] (A2m .up):=by
 refine FnOk.up (F.ok scT1 (fun vs H Q E h=>?_) (fun cdv A outer s H vs Q E hr h=>?_))
 . obtain⟨p,z,rfl,_⟩:=h
   rfl
 . obtain⟨p,z,rfl,k⟩:=h
   refine⟨_,(B5 (C7 A0j)),?_⟩
   exact k H (Same.refl H)
noncomputable abbrev sU2:Stmt:=(G6 (top 44) 1)
theorem scU2:FnScope ["self","sign","last","part"] ["self","sign","last","part"] (A1 sU2):=scK
theorem Z8w(F:Fun K "goes_up" "Floor.goes_up" sU2 f fd):FnOk P w K mg base (CX1 P w) 1 f fd ["self","sign","last","part"] (A5f .floor):=by
 refine FnOk.up (F.ok scU2 (fun vs H Q E h=>?_) (fun cdv A outer s H vs Q E hr h=>?_))
 . obtain⟨p,z,l,t,rfl,_⟩:=h
   rfl
 . obtain⟨p,z,l,t,rfl,k⟩:=h
   refine⟨_,(B5 (C7 (G9 U2 (pv 1) A3 (D4 _)))),?_⟩
   exact⟨_,rfl,rfl,k H (Same.refl H)⟩
noncomputable abbrev sT2:Stmt:=(G6 (top 44) 2)
theorem scT2:FnScope ["self","sign"] ["self","sign"] (A1 sT2):=scK
theorem Z8t(F:Fun K "to_end" "Floor.to_end" sT2 f fd):FnOk P w K mg base (CX1 P w) 1 f fd ["self","sign"] (A2m .floor):=by
 refine FnOk.up (F.ok scT2 (fun vs H Q E h=>?_) (fun cdv A outer s H vs Q E hr h=>?_))
 . obtain⟨p,z,rfl,_⟩:=h
   rfl
 . obtain⟨p,z,rfl,k⟩:=h
   refine⟨_,(B5 (C7 (G9 U2 (pv 1) A3 (D4 _)))),?_⟩
   exact⟨_,rfl,rfl,k H (Same.refl H)⟩
noncomputable abbrev sU3:Stmt:=(G6 (top 45) 1)
theorem scU3:FnScope ["self","sign","last","part"] ["self","sign","last","part"] (A1 sU3):=scK
theorem A0ba(F:Fun K "goes_up" "Ceiling.goes_up" sU3 f fd):FnOk P w K mg base (CX1 P w) 1 f fd ["self","sign","last","part"] (A5f .ceiling):=by
 refine FnOk.up (F.ok scU3 (fun vs H Q E h=>?_) (fun cdv A outer s H vs Q E hr h=>?_))
 . obtain⟨p,z,l,t,rfl,_⟩:=h
   rfl
 . obtain⟨p,z,l,t,rfl,k⟩:=h
   refine⟨_,(B5 (C7 (G9 U2 (pv 1) A3 (D4 _)))),?_⟩
   exact⟨_,rfl,rfl,k H (Same.refl H)⟩
noncomputable abbrev sT3:Stmt:=(G6 (top 45) 2)
theorem scT3:FnScope ["self","sign"] ["self","sign"] (A1 sT3):=scK
theorem Z9q(F:Fun K "to_end" "Ceiling.to_end" sT3 f fd):FnOk P w K mg base (CX1 P w) 1 f fd ["self","sign"] (A2m .ceiling):=by
 refine FnOk.up (F.ok scT3 (fun vs H Q E h=>?_) (fun cdv A outer s H vs Q E hr h=>?_))
 . obtain⟨p,z,rfl,_⟩:=h
   rfl
 . obtain⟨p,z,rfl,k⟩:=h
   refine⟨_,(B5 (C7 (G9 U2 (pv 1) A3 (D4 _)))),?_⟩
   exact⟨_,rfl,rfl,k H (Same.refl H)⟩
noncomputable abbrev sU4:Stmt:=(G6 (top 46) 1)
theorem scU4:FnScope ["self","sign","last","part"] ["self","sign","last","part"] (A1 sU4):=scK
theorem Z9n(F:Fun K "goes_up" "HalfUp.goes_up" sU4 f fd):FnOk P w K mg base (CX1 P w) 1 f fd ["self","sign","last","part"] (A5f .halfUp):=by
 refine FnOk.up (F.ok scU4 (fun vs H Q E h=>?_) (fun cdv A outer s H vs Q E hr h=>?_))
 . obtain⟨p,z,l,t,rfl,_⟩:=h
   rfl
 . obtain⟨p,z,l,t,rfl,k⟩:=h
   refine⟨_,(B5 (C7 (G9 J9e (pv 3) A3 (D4 _)))),?_⟩
   exact⟨_,rfl,_,_,rfl,rfl,k H (Same.refl H)⟩
noncomputable abbrev sT4:Stmt:=(G6 (top 46) 2)
theorem scT4:FnScope ["self","sign"] ["self","sign"] (A1 sT4):=scK
theorem A0be(F:Fun K "to_end" "HalfUp.to_end" sT4 f fd):FnOk P w K mg base (CX1 P w) 1 f fd ["self","sign"] (A2m .halfUp):=by
 refine FnOk.up (F.ok scT4 (fun vs H Q E h=>?_) (fun cdv A outer s H vs Q E hr h=>?_))
 . obtain⟨p,z,rfl,_⟩:=h
   rfl
 . obtain⟨p,z,rfl,k⟩:=h
   refine⟨_,(B5 (C7 A0j)),?_⟩
   exact k H (Same.refl H)
noncomputable abbrev sU5:Stmt:=(G6 (top 47) 1)
theorem scU5:FnScope ["self","sign","last","part"] ["self","sign","last","part"] (A1 sU5):=scK
theorem Z9u(F:Fun K "goes_up" "HalfDown.goes_up" sU5 f fd):FnOk P w K mg base (CX1 P w) 1 f fd ["self","sign","last","part"] (A5f .halfDown):=by
 refine FnOk.up (F.ok scU5 (fun vs H Q E h=>?_) (fun cdv A outer s H vs Q E hr h=>?_))
 . obtain⟨p,z,l,t,rfl,_⟩:=h
   rfl
 . obtain⟨p,z,l,t,rfl,k⟩:=h
   refine⟨_,(B5 (C7 (G9 U2 (pv 3) A3 (D4 _)))),?_⟩
   exact⟨_,rfl,rfl,k H (Same.refl H)⟩
noncomputable abbrev sT5:Stmt:=(G6 (top 47) 2)
theorem scT5:FnScope ["self","sign"] ["self","sign"] (A1 sT5):=scK
theorem A0as(F:Fun K "to_end" "HalfDown.to_end" sT5 f fd):FnOk P w K mg base (CX1 P w) 1 f fd ["self","sign"] (A2m .halfDown):=by
 refine FnOk.up (F.ok scT5 (fun vs H Q E h=>?_) (fun cdv A outer s H vs Q E hr h=>?_))
 . obtain⟨p,z,rfl,_⟩:=h
   rfl
 . obtain⟨p,z,rfl,k⟩:=h
   refine⟨_,(B5 (C7 A0j)),?_⟩
   exact k H (Same.refl H)
noncomputable abbrev sU6:Stmt:=(G6 (top 48) 1)
theorem scU6:FnScope ["self","sign","last","part"] ["self","sign","last","part"] (A1 sU6):=scK
theorem A0aw(F:Fun K "goes_up" "HalfEven.goes_up" sU6 f fd):FnOk P w K mg base (CX1 P w) 1 f fd ["self","sign","last","part"] (A5f .halfEven):=by
 refine FnOk.up (F.ok scU6 (fun vs H Q E h=>?_) (fun cdv A outer s H vs Q E hr h=>?_))
 . obtain⟨p,z,l,t,rfl,_⟩:=h
   rfl
 . obtain⟨p,z,l,t,rfl,k⟩:=h
   refine⟨_,(B5 (C7 (U7v (G9 U2 (pv 3) A3 (D4 _)) (A0y (A8n (G9 U2 (pv 3) A3 (D4 _)) (A0y (G9 U2 (B9 U0 (pv 2) A3) A3 (D4 _)))))))),?_⟩
   have k:=k H (Same.refl H)
   unfold Wy.goes at k
   refine⟨_,rfl,rfl,_,rfl,?_⟩
   cases e:decide (V.int t=V.int 3) with
   |true=>rw[e] at k;exact Z2 k
   | false=>
     rw[e] at k
     refine U5 ⟨_,rfl,rfl,_,rfl,?_⟩
     cases e2:decide (V.int t=V.int 2) with
     |true=>rw[e2] at k;exact Z2 ⟨_,rfl,_,_,rfl,rfl,(by decide:(0:Int)<2),rfl,k⟩
     |false=>rw[e2] at k;exact U5 k
noncomputable abbrev sT6:Stmt:=(G6 (top 48) 2)
theorem scT6:FnScope ["self","sign"] ["self","sign"] (A1 sT6):=scK
theorem A0aa(F:Fun K "to_end" "HalfEven.to_end" sT6 f fd):FnOk P w K mg base (CX1 P w) 1 f fd ["self","sign"] (A2m .halfEven):=by
 refine FnOk.up (F.ok scT6 (fun vs H Q E h=>?_) (fun cdv A outer s H vs Q E hr h=>?_))
 . obtain⟨p,z,rfl,_⟩:=h
   rfl
 . obtain⟨p,z,rfl,k⟩:=h
   refine⟨_,(B5 (C7 A0j)),?_⟩
   exact k H (Same.refl H)
noncomputable abbrev sU7:Stmt:=(G6 (top 49) 1)
theorem scU7:FnScope ["self","sign","last","part"] ["self","sign","last","part"] (A1 sU7):=scK
theorem Z8y(F:Fun K "goes_up" "FiveUp.goes_up" sU7 f fd):FnOk P w K mg base (CX1 P w) 1 f fd ["self","sign","last","part"] (A5f .fiveUp):=by
 refine FnOk.up (F.ok scU7 (fun vs H Q E h=>?_) (fun cdv A outer s H vs Q E hr h=>?_))
 . obtain⟨p,z,l,t,rfl,_⟩:=h
   rfl
 . obtain⟨p,z,l,t,rfl,k⟩:=h
   refine⟨_,(B5 (C7 (G9 A4k (pv 2) (V4 (A0 A3 (A0 A3 A7))) (by rfl)))),?_⟩
   exact⟨_,rfl,D6 (by decide),fun q nq=>⟨q,_,rfl,.inr (SqT.of A9),rfl,rfl,k _ (Same.upd nq)⟩⟩
noncomputable abbrev sT7:Stmt:=(G6 (top 49) 2)
theorem scT7:FnScope ["self","sign"] ["self","sign"] (A1 sT7):=scK
theorem Z8x(F:Fun K "to_end" "FiveUp.to_end" sT7 f fd):FnOk P w K mg base (CX1 P w) 1 f fd ["self","sign"] (A2m .fiveUp):=by
 refine FnOk.up (F.ok scT7 (fun vs H Q E h=>?_) (fun cdv A outer s H vs Q E hr h=>?_))
 . obtain⟨p,z,rfl,_⟩:=h
   rfl
 . obtain⟨p,z,rfl,k⟩:=h
   refine⟨_,(B5 (C7 A0j)),?_⟩
   exact k H (Same.refl H)
end
noncomputable abbrev A3r:Stmt:=(top 28)
noncomputable abbrev A1q:Stmt:=(top 29)
noncomputable abbrev Z3:Stmt:=(top 30)
noncomputable abbrev A3m:Stmt:=(top 31)
noncomputable abbrev A3p:Stmt:=(top 32)
noncomputable abbrev A8m:Stmt:=(top 33)
noncomputable abbrev A8w:Stmt:=(top 34)
noncomputable abbrev A3c:Stmt:=(top 35)
noncomputable abbrev A3a:Stmt:=(top 36)
noncomputable abbrev A1j:Stmt:=(top 37)
structure Cv where
 r:Int
 y:Wy
 l:Int
 m:Int
structure Cv.Ok(c:Cv):Prop where
 r1:1<=c.r
 r2:c.r<=24
 l1: -60<=c.l
 l2:c.l<=0
 m1:0<=c.m
 m2:c.m<=60
noncomputable def Y9 (ideal:Int):Nat ->Int ->Int ->Int×Int
 |0,f,p=>(f,p)
 |n+1,f,p=>if f % 10=0 then Y9 ideal n (f/10) (p+1) else(f,p)
noncomputable def Z7 (ideal f p:Int):Int×Int:=Y9 ideal (ideal-p).toNat f p
theorem C2d{ideal f p:Int}(h:p<ideal)(z:f % 10=0):Z7 ideal f p=Z7 ideal (f/10) (p+1):=by
 unfold Z7
 obtain⟨n,hn⟩:∃n,(ideal-p).toNat=n+1:=⟨(ideal-p).toNat-1,by omega⟩
 rw[hn,show(ideal-(p+1)).toNat=n by omega]
 show(if f % 10=0 then Y9 ideal n (f/10) (p+1) else(f,p))=_
 rw[if_pos z]
theorem C1p{ideal f p:Int}(h:¬(p<ideal/\f % 10=0)):Z7 ideal f p=(f,p):=by
 unfold Z7
 by_cases q:p<ideal
 . obtain⟨n,hn⟩:∃n,(ideal-p).toNat=n+1:=⟨(ideal-p).toNat-1,by omega⟩
   rw[hn]
   show(if f % 10=0 then Y9 ideal n (f/10) (p+1) else(f,p))=_
   rw[if_neg fun z=>h ⟨q,z⟩]
 . rw[show(ideal-p).toNat=0 by omega]
   rfl
noncomputable def U9 (f:Int):Int:=((Str.ofString (toString f)).length:Nat)
noncomputable def upI (y:Wy) (s wh pt:Int):Int:=if(if pt=0 then false else y.goes s (wh % 10) pt)=true then wh+1 else wh
noncomputable def B5c (r f q:Int):Int×Int:=if f=B7 r then(f/10,q+1) else(f,q)
noncomputable def Z5 (c:Cv) (s wh pt q ideal:Int):Int×Int:=if pt=0 then Z7 ideal wh q else B5c c.r (upI c.y s wh pt) q
noncomputable def A2k (m f p:Int):Bool:=if f=0 then false else decide (p+U9 f-1>m)
noncomputable def B6j (c:Cv) (s:Int):Nm:=if c.y.toEnd s=true then⟨.end_,s,0,0⟩ else⟨.plain,s,B7 c.r-1,c.m-c.r+1⟩
noncomputable def A0v (pt:Int) (cut:Bool):List Str:=if pt=0 then(if cut=true then ["cut"] else []) else ["off","cut"]
noncomputable def A0x (l L pt:Int):List Str:=if L>=l then [] else if pt=0 then ["faint"] else ["sunk","faint"]
noncomputable def D2q (c:Cv) (s wh pt L q ideal:Int):Nm×List Str:=
 if A2k c.m (Z5 c s wh pt q ideal).1 (Z5 c s wh pt q ideal).2=true then(B6j c s,["burst","off","cut"])
 else(⟨.plain,s,(Z5 c s wh pt q ideal).1,(Z5 c s wh pt q ideal).2⟩,A0v pt (decide ((Z5 c s wh pt q ideal).2>ideal))++A0x c.l L pt)
noncomputable def A7z (a b:Int):Int:=if b>a then b else a
noncomputable def C2b (a b:Int):Int:=if b<a then b else a
noncomputable def CtxV (CC:Addr) (H:Hp) (c:Addr) (v:Cv) (a b:Addr) (xs ys:List Str):Prop:=CtxAt CC H c v.r v.y v.l v.m a b (xs.map V.str) (ys.map V.str)
theorem CtxV.same{CC:Addr}{H H':Hp}{c:Addr}{v:Cv}{a b:Addr}{xs ys:List Str}(h:CtxV CC H c v a b xs ys)(e:Same H H'):CtxV CC H' c v a b xs ys:=CtxAt.same h e
theorem D0u{CN:Addr}{H:Hp}{Q:VK}{E:XK}{k s f p:V}(h:∀n H',H n=none ->Same H H' ->NumAt CN H' n k s f p ->Q (.ref n) H'):
   ∀x dx,H x=none ->H dx=none ->dx≠x ->D2x CN (.ref x::([k,s,f,p]++ [])) (upd (upd H dx (.own x)) x (.ins CN dx [])) (fun v H2=>v= .non/\Q (.ref x) H2) E:=by
 intro x dx nx nd ne
 refine⟨x,dx,k,s,f,p,rfl,A9,fun H' e kp=>⟨rfl,h x H' nx (fun b o z=>?_) ⟨dx,e⟩⟩⟩
 refine kp b o ?_ (G2 z nx)
 rw[D3 (G2 z nx),D3 (G2 z nd)]
 exact z
section
variable{P:Program}{w:World}{K:Frag}{mg:Str ->Option Value}{base:Heap}
structure CtxM(P:Program)(w:World)(K:Frag)(mg:Str ->Option Value)(base:Heap)(CC CB CT CW:Addr)(cw:Wy ->Addr):Prop where
 c:CtxC K mg CC
 way:Has P w K mg base CC "way" 2 ["self"] (C2n CC cw)
 low:Has P w K mg base CC "lowest" 1 ["self"] (C1m CC)
 raised:Has P w K mg base CC "raised" 3 ["self","names"] (C1j K CC CB CT)
 wc:∀y:Wy,WayC K mg y.cls (cw y) CW
 u:∀y:Wy,Z9h P w K mg base (cw y) y
 e:∀y:Wy,WayE P w K mg base (cw y) y
noncomputable def D0n (CN:Addr):Sp:=fun vs H Q _=>∃i s f p:Int,vs=[.int i,.int s,.int f,.int p]/\∀n H',H n=none ->Same H H' ->NumIs CN H' n ⟨.plain,s,(Z7 i f p).1,(Z7 i f p).2⟩ ->Q (.ref n) H'
theorem scNearest:FnScope ["ideal","sign","figures","power"] ["ideal","sign","figures","power"] (A1 A1q):=scK
theorem G8j{f fI CN:Addr}{fd fdI:FuncData}(D:Def K mg "nearest_to" ["ideal","sign","figures","power"] A1q f fd)(N:Num K mg CN)(M:MakeN P w K mg base CN fI fdI):FnOk P w K mg base (CX1 P w) 3 f fd ["ideal","sign","figures","power"] (D0n CN):=by
 refine FnOk.up (D.F.ok scNearest (fun vs H Q E h=>?_) (fun cdv A outer s H vs Q E hr h=>?_))
 . obtain⟨i,s,f,p,rfl,_⟩:=h
   rfl
 . obtain⟨i,sg,fg,pw,rfl,k⟩:=h
   have hx:G7 (Z9 CX0 P w K mg base ["ideal","sign","figures","power"] "nearest_to" (A1 A1q) f cdv A outer s H E).nox EKF:=Y8
   refine⟨_,(B0 (B5e PassesOwn.never (PW.pt (D1s (D5 C1z (pv 3) (pv 0) (D4 _)) (C1c (D5 U2 (B9 U0 (pv 2) A3) A3 (D4 _))))) (B0 (G0 (i:=2) scNearest.nd rfl (Or.inl rfl) (B9 J1 (pv 2) A3))
     (B5 (G0 (i:=3) scNearest.nd rfl (Or.inl rfl) (B9 V2 (pv 3) A3)))))
     (B5 (C7 (C0k M.m (FnOk.up M.g) hr N.g M.b .nil hx (A0 C9 (A0 (pv 1) (A0 (pv 2) (A0 (pv 3) A7)))))))),?_⟩
   have d10:(0:Int)<10/\(10:Int).natAbs.log2<9000:=⟨by decide,by decide+kernel⟩
   refine B5a (fun σ H2=>H2=H/\∃f p:Int,Z7 i f p=Z7 i fg pw/\σ=[some (.int i),some (.int sg),some (.int f),some (.int p)]) (fun σ _=>match σ with| [_,_,_,some (.int p)]=>(i-p).toNat|_=>0) ?_ ?_ ?_
   . exact⟨rfl,fg,pw,rfl,rfl⟩
   . rintro σ H2 ⟨rfl,f,p,e,rfl⟩
     have stop:¬(p<i/\f % 10=0) ->∀n H',H2 n=none ->Same H2 H' ->NumAt CN H' n (.str "plain") (.int sg) (.int f) (.int p) ->Q (.ref n) H':=fun h n H' nn sm num=>by
       refine k n H' nn sm ?_
       rw[<-e,C1p h]
       exact num
     refine⟨_,rfl,_,rfl,_,_,rfl,rfl,_,rfl,Y5 (fun h1=>?_) (fun h1=>U5 ⟨_,rfl,_,rfl,_,rfl,D0u (stop fun q=>h1 q.1)⟩)⟩
     refine⟨_,rfl,_,_,rfl,rfl,d10.1,rfl,_,rfl,Y5 (fun h2=>?_) (fun h2=>⟨_,rfl,_,rfl,_,rfl,D0u (stop fun q=>h2 (congrArg V.int q.2))⟩)⟩
     have h1:p<i:=h1
     have h2:f % 10=0:=by injection h2
     refine⟨_,rfl,_,_,rfl,rfl,d10,_,rfl,_,_,rfl,rfl,⟨rfl,f/10,p+1,(C2d h1 h2).symm.trans e,rfl⟩,?_⟩
     show(i-(p+1)).toNat<(i-p).toNat
     omega
   . rintro σ H2 Q1 Q2 hQ ⟨v,e,v2,e2,a,b,e3,e4,c,e5,q⟩
     refine⟨v,e,v2,e2,a,b,e3,e4,c,e5,?_⟩
     cases c with
     |false=>exact U5 (hQ _ _ (by simpa using q))
     | true=>
       have q:_:=q
       rw[if_pos rfl] at q ⊢
       obtain⟨v3,e6,a2,b2,e7,e8,e9,e10,e11,e12,q⟩:=q
       exact⟨v3,e6,a2,b2,e7,e8,e9,e10,e11,e12,hQ _ _ q⟩
noncomputable def C0p (CC:Addr):Sp:=fun vs H Q _=>∃c v a b xs ys p,∃s wh pt:Int,vs=[.ref c,.int s,.ref p]/\CtxV CC H c v a b xs ys/\H p=some (.tup [.int wh,.int pt])/\∀H',Same H H' ->Q (.int (upI v.y s wh pt)) H'
theorem G1y:FnScope ["context","sign","pair"] ["context","sign","pair"] (A1 Z3):=scK
theorem D2t{f CC CB CT CW:Addr}{cw:Wy ->Addr}(D:Def K mg "neighbour" ["context","sign","pair"] Z3 f fd)(C:CtxM P w K mg base CC CB CT CW cw):FnOk P w K mg base (CX1 P w) 3 f fd ["context","sign","pair"] (C0p CC):=by
 refine FnOk.up (D.F.ok G1y (fun vs H Q E h=>?_) (fun cdv A outer s H vs Q E hr h=>?_))
 . obtain⟨c,v,a,b,xs,ys,p,sg,wh,pt,rfl,_⟩:=h
   rfl
 . obtain⟨c,v,a,b,xs,ys,p,sg,wh,pt,rfl,hc,hp,k⟩:=h
   have hx:G7 (Z9 CX0 P w K mg base ["context","sign","pair"] "neighbour" (A1 Z3) f cdv A outer s H E).nox EKF:=Y8
   obtain⟨fW,fdW,mW,gW,bW⟩:=C.way
   obtain⟨fU,fdU,mU,gU,bU⟩:=C.u v.y
   refine⟨_,(B0 (J0 (PW.pt (D1s (D5 C1k (U6 U7 (pv 2) A3 (fun _ _=>rfl)) A3 (D4 _)) (C1c (Y6 (C0q (A3e (pv 0) C.c.cl mW gW hr bW .nil hx) (C.wc v.y).cl mU gU hr bU .nil hx (A0 (pv 1) (A0 (B9 U0 (U6 U7 (pv 2) A3 (fun _ _=>rfl)) A3) (A0 (U6 U7 (pv 2) A3 (fun _ _=>rfl)) A7)))))))) (B5 (C7 (B9 V2 (U6 U7 (pv 2) A3 (fun _ _=>rfl)) A3))) D7)
     (B5 (C7 (U6 U7 (pv 2) A3 (fun _ _=>rfl))))),?_⟩
   obtain⟨⟨dx,e⟩,_,_⟩:=id hc
   unfold upI at k
   refine⟨_,rfl,p,_,_,_,rfl,rfl,SqT.of hp,D9 (j:=1) rfl,rfl,_,rfl,?_⟩
   by_cases h0:pt=0
   . subst h0
     rw[if_pos rfl,if_neg Bool.false_ne_true] at k
     exact J9j rfl (U5 ⟨_,rfl,p,_,_,_,rfl,rfl,SqT.of hp,D9 (j:=0) rfl,k H (Same.refl H)⟩)
   . rw[if_neg h0] at k
     rw[decide_eq_false (fun q=>h0 (by injection q):¬V.int pt=V.int 0)]
     refine Z2 ⟨_,rfl,c,dx,_,rfl,e,C2g _ _ _ _ _ _,c,v.r,v.y,v.l,v.m,a,b,_,_,rfl,hc,fun q dq H1 nq s1 eq=>?_⟩
     refine⟨q,dq,_,rfl,eq,rfl,_,rfl,_,rfl,p,_,_,_,rfl,rfl,SqT.of (s1 _ _ hp),D9 (j:=0) rfl,_,_,rfl,rfl,(by decide:(0:Int)<10),_,rfl,p,_,_,_,rfl,rfl,SqT.of (s1 _ _ hp),D9 (j:=1) rfl,q,sg,wh % 10,pt,rfl,fun H2 s2=>⟨_,rfl,?_⟩⟩
     have s3:=s1.trans s2
     cases g:v.y.goes sg (wh % 10) pt with
     | true=>
       rw[g,if_pos rfl] at k
       exact Z2 ⟨_,rfl,p,_,_,_,rfl,rfl,SqT.of (s3 _ _ hp),D9 (j:=0) rfl,_,_,rfl,rfl,k H2 s3⟩
     | false=>
       rw[g,if_neg Bool.false_ne_true] at k
       exact U5 ⟨_,rfl,p,_,_,_,rfl,rfl,SqT.of (s3 _ _ hp),D9 (j:=0) rfl,k H2 s3⟩
noncomputable def G2m (CN CC:Addr):Sp:=fun vs H Q _=>∃c v a b xs ys,∃s f q:Int,vs=[.ref c,.int s,.int f,.int q]/\CtxV CC H c v a b xs ys/\v.Ok/\∀n H',H n=none ->Same H H' ->NumIs CN H' n ⟨.plain,s,(B5c v.r f q).1,(B5c v.r f q).2⟩ ->Q (.ref n) H'
theorem U8g:FnScope ["context","sign","figures","power"] ["context","sign","figures","power"] (A1 A3m):=scK
theorem U2d{f f1 fI CN CC CB CT CW:Addr}{cw:Wy ->Addr}{fd fd1 fdI:FuncData}(D:Def K mg "within_room" ["context","sign","figures","power"] A3m f fd)(dA:Def K mg "ten_to" ["count"] A3f f1 fd1)(dB:FnOk P w K mg base (CX1 P w) 2 f1 fd1 ["count"] B5g)(C:CtxM P w K mg base CC CB CT CW cw)(N:Num K mg CN)(M:MakeN P w K mg base CN fI fdI):
   FnOk P w K mg base (CX1 P w) 3 f fd ["context","sign","figures","power"] (G2m CN CC):=by
 refine FnOk.up (D.F.ok U8g (fun vs H Q E h=>?_) (fun cdv A outer s H vs Q E hr h=>?_))
 . obtain⟨c,v,a,b,xs,ys,sg,f,q,rfl,_⟩:=h
   rfl
 . obtain⟨c,v,a,b,xs,ys,sg,fg,q,rfl,hc,ok,k⟩:=h
   have hx:G7 (Z9 CX0 P w K mg base ["context","sign","figures","power"] "within_room" (A1 A3m) f cdv A outer s H E).nox EKF:=Y8
   refine⟨_,(B0 (J0 (D5 U2 (pv 2) (D8 dA dB hr hx (A0 (G8 (pv 0) rfl) A7)) (D4 _)) (B5 (C7 (C0k M.m (FnOk.up M.g) hr N.g M.b .nil hx (A0 C9 (A0 (pv 1) (A0 (B9 J1 (pv 2) A3) (A0 (B9 V2 (pv 3) A3) A7))))))) D7)
     (B5 (C7 (C0k M.m (FnOk.up M.g) hr N.g M.b .nil hx (A0 C9 (A0 (pv 1) (A0 (pv 2) (A0 (pv 3) A7)))))))),?_⟩
   have d10:(0:Int)<10/\(10:Int).natAbs.log2<9000:=⟨by decide,by decide+kernel⟩
   obtain⟨⟨dx,e⟩,_,_⟩:=id hc
   have r1:=ok.r1;have r2:=ok.r2
   refine⟨_,rfl,_,rfl,c,CC,dx,_,_,rfl,e,C.c.cl,C.c.n_room,A8r _ _ _ _ _ _,v.r.toNat,(by rw[Int.toNat_of_nonneg (by omega)];rfl),by omega,rfl,_,rfl,?_⟩
   unfold B5c at k
   refine Y5 (fun h=>?_) (fun h=>?_)
   . have h:fg=B7 v.r:=by injection h
     rw[if_pos h] at k
     exact⟨_,rfl,_,rfl,_,_,rfl,rfl,d10,_,rfl,_,_,rfl,rfl,D0u k⟩
   . have h:¬fg=B7 v.r:=fun z=>h (congrArg V.int z)
     rw[if_neg h] at k
     exact⟨_,rfl,_,rfl,_,rfl,D0u k⟩
noncomputable def G2w (CN CC:Addr):Sp:=fun vs H Q _=>∃c v a b xs ys n x,vs=[.ref c,.ref n]/\CtxV CC H c v a b xs ys/\NumIs CN H n x/\x.f.natAbs<2^300/\Q (.bl (A2k v.m x.f x.p)) H
theorem U6v:FnScope ["context","number"] ["context","number"] (A1 A3p):=scK
theorem U0u{f f1 CN CC CB CT CW:Addr}{cw:Wy ->Addr}(D:Def K mg "is_beyond" ["context","number"] A3p f fd)(dA:Def K mg "lead_of" ["number"] C1h f1 fd1)(dB:FnOk P w K mg base (CX1 P w) 1 f1 fd1 ["number"] (U9h CN))(C:CtxM P w K mg base CC CB CT CW cw)(N:Num K mg CN):
   FnOk P w K mg base (CX1 P w) 2 f fd ["context","number"] (G2w CN CC):=by
 refine FnOk.up (D.F.ok U6v (fun vs H Q E h=>?_) (fun cdv A outer s H vs Q E hr h=>?_))
 . obtain⟨c,v,a,b,xs,ys,n,x,rfl,_⟩:=h
   rfl
 . obtain⟨c,v,a,b,xs,ys,n,x,rfl,hc,hn,hf,k⟩:=h
   have hx:G7 (Z9 CX0 P w K mg base ["context","number"] "is_beyond" (A1 A3p) f cdv A outer s H E).nox EKF:=Y8
   refine⟨_,(B5 (C7 (A8n (G9 C1k (G8 (pv 1) rfl) A3 (D4 _)) (A0y (G9 C2x (D8 dA dB hr hx (A0 (pv 1) A7)) (G8 (pv 0) rfl) (D4 _)))))),?_⟩
   obtain⟨⟨dx,e⟩,_,_⟩:=id hc
   obtain⟨dn,en⟩:=id hn
   unfold A2k at k
   refine⟨_,rfl,n,CN,dn,_,_,rfl,en,N.cl,N.n3,U8c _ _ _ _,rfl,_,rfl,?_⟩
   by_cases h0:x.f=0
   . rw[if_pos h0] at k
     rw[decide_eq_true (congrArg V.int h0)]
     exact U5 k
   . rw[if_neg h0] at k
     rw[decide_eq_false (fun q=>h0 (by injection q):¬V.int x.f=V.int 0)]
     exact Z2 ⟨_,rfl,n,_,_,_,_,rfl,hn,hf,_,rfl,c,CC,dx,_,_,rfl,e,C.c.cl,C.c.n_most,C3b _ _ _ _ _ _,_,_,rfl,rfl,k⟩
noncomputable def J8e (CN CC:Addr):Sp:=fun vs H Q _=>∃c v a b xs ys,∃s:Int,vs=[.ref c,.int s]/\CtxV CC H c v a b xs ys/\v.Ok/\∀n H',H n=none ->Same H H' ->NumIs CN H' n ⟨.plain,s,B7 v.r-1,v.m-v.r+1⟩ ->Q (.ref n) H'
theorem Y5n:FnScope ["context","sign"] ["context","sign"] (A1 A8w):=scK
theorem V1d{f f1 fI CN CC CB CT CW:Addr}{cw:Wy ->Addr}{fd fd1 fdI:FuncData}(D:Def K mg "nines" ["context","sign"] A8w f fd)(dA:Def K mg "ten_to" ["count"] A3f f1 fd1)(dB:FnOk P w K mg base (CX1 P w) 2 f1 fd1 ["count"] B5g)(C:CtxM P w K mg base CC CB CT CW cw)(N:Num K mg CN)(M:MakeN P w K mg base CN fI fdI):
   FnOk P w K mg base (CX1 P w) 3 f fd ["context","sign"] (J8e CN CC):=by
 refine FnOk.up (D.F.ok Y5n (fun vs H Q E h=>?_) (fun cdv A outer s H vs Q E hr h=>?_))
 . obtain⟨c,v,a,b,xs,ys,sg,rfl,_⟩:=h
   rfl
 . obtain⟨c,v,a,b,xs,ys,sg,rfl,hc,ok,k⟩:=h
   have hx:G7 (Z9 CX0 P w K mg base ["context","sign"] "nines" (A1 A8w) f cdv A outer s H E).nox EKF:=Y8
   refine⟨_,(B5 (C7 (C0k M.m (FnOk.up M.g) hr N.g M.b .nil hx (A0 C9 (A0 (pv 1) (A0 (B9 U8 (D8 dA dB hr hx (A0 (G8 (pv 0) rfl) A7)) A3) (A0 (B9 V2 (B9 U8 (G8 (pv 0) rfl) (G8 (pv 0) rfl)) A3) A7))))))),?_⟩
   obtain⟨⟨dx,e⟩,_,_⟩:=id hc
   have r1:=ok.r1;have r2:=ok.r2
   exact⟨_,rfl,_,rfl,c,CC,dx,_,_,rfl,e,C.c.cl,C.c.n_room,A8r _ _ _ _ _ _,v.r.toNat,(by rw[Int.toNat_of_nonneg (by omega)];rfl),by omega,_,_,rfl,rfl,_,rfl,c,CC,dx,_,_,rfl,e,C.c.cl,C.c.n_most,C3b _ _ _ _ _ _,_,rfl,c,CC,dx,_,_,rfl,e,C.c.cl,C.c.n_room,A8r _ _ _ _ _ _,_,_,rfl,rfl,_,_,rfl,rfl,D0u k⟩
noncomputable def J8t (CN CC:Addr):Sp:=fun vs H Q _=>∃c v a b xs ys,∃s:Int,vs=[.ref c,.int s]/\CtxV CC H c v a b xs ys/\v.Ok/\0<=s/\s<=1/\∀n H',Same H H' ->NumIs CN H' n (B6j v s) ->Q (.ref n) H'
theorem Y4s:FnScope ["context","sign"] ["context","sign"] (A1 A8m):=scK
theorem U8r{f f1 f2 CN CN' CC CB CT CW:Addr}{cw:Wy ->Addr}(D:Def K mg "burst" ["context","sign"] A8m f fd)(dA:Def K mg "nines" ["context","sign"] A8w f1 fd1)(dB:FnOk P w K mg base (CX1 P w) 3 f1 fd1 ["context","sign"] (J8e CN CC))(dC:Def K mg "end" ["sign"] G1v f2 fd2)(dD:FnOk P w K mg base (CX1 P w) 3 f2 fd2 ["sign"] (U7x K CN CN'))(C:CtxM P w K mg base CC CB CT CW cw):
   FnOk P w K mg base (CX1 P w) 4 f fd ["context","sign"] (J8t CN CC):=by
 refine FnOk.up (D.F.ok Y4s (fun vs H Q E h=>?_) (fun cdv A outer s H vs Q E hr h=>?_))
 . obtain⟨c,v,a,b,xs,ys,sg,rfl,_⟩:=h
   rfl
 . obtain⟨c,v,a,b,xs,ys,sg,rfl,hc,ok,s0,s1,k⟩:=h
   have hx:G7 (Z9 CX0 P w K mg base ["context","sign"] "burst" (A1 A8m) f cdv A outer s H E).nox EKF:=Y8
   obtain⟨fW,fdW,mW,gW,bW⟩:=C.way
   obtain⟨fU,fdU,mU,gU,bU⟩:=C.e v.y
   refine⟨_,(B5 (C7 (A4n (Y6 (C0q (A3e (pv 0) C.c.cl mW gW hr bW .nil hx) (C.wc v.y).cl mU gU hr bU .nil hx (A0 (pv 1) A7))) (D8 dC dD hr hx (A0 (pv 1) A7)) (D8 dA dB hr hx (A0 (pv 0) (A0 (pv 1) A7)))))),?_⟩
   obtain⟨⟨dx,e⟩,_,_⟩:=id hc
   unfold B6j at k
   refine⟨_,rfl,c,dx,_,rfl,e,C2g _ _ _ _ _ _,c,v.r,v.y,v.l,v.m,a,b,_,_,rfl,hc,fun q dq H1 nq t1 eq=>?_⟩
   refine⟨q,dq,_,rfl,eq,rfl,_,rfl,q,sg,rfl,fun H2 t2=>⟨_,rfl,?_⟩⟩
   have t3:=t1.trans t2
   cases g:v.y.toEnd sg with
   | true=>
     rw[g,if_pos rfl] at k
     exact Z2 ⟨_,rfl,_,rfl,.inl ⟨⟨sg,rfl,s0,s1⟩,fun n H' _ sm num=>k n H' (t3.trans sm) num⟩⟩
   | false=>
     rw[g,if_neg Bool.false_ne_true] at k
     exact U5 ⟨_,rfl,_,rfl,c,v,a,b,xs,ys,sg,rfl,hc.same t3,ok,fun n H' _ sm num=>k n H' (t3.trans sm) num⟩
noncomputable def D0t:Sp:=fun vs H Q _=>∃(pt:Int) (cut:Bool),vs=[.int pt,.bl cut]/\∀l,H l=none ->Q (.ref l) (upd H l (.lst ((A0v pt cut).map V.str)))
theorem U2c:FnScope ["part","is_cut"] ["part","is_cut"] (A1 A3c):=scK
theorem G7q(D:Def K mg "signals_of_rest" ["part","is_cut"] A3c f fd):FnOk P w K mg base (CX1 P w) 1 f fd ["part","is_cut"] D0t:=by
 refine FnOk.up (D.F.ok U2c (fun vs H Q E h=>?_) (fun cdv A outer s H vs Q E hr h=>?_))
 . obtain⟨pt,cut,rfl,_⟩:=h
   rfl
 . obtain⟨pt,cut,rfl,k⟩:=h
   refine⟨_,(B0 (J0 (D5 C1k (pv 0) A3 (D4 _)) (B5 (C7 (U1 (A0 C9 (A0 C9 A7))))) D7)
     (B5 (C7 (A4n (Y6 (pv 1)) (U1 (A0 C9 A7)) (U1 A7))))),?_⟩
   unfold A0v at k
   refine⟨_,rfl,rfl,_,rfl,?_⟩
   by_cases h0:pt=0
   . subst h0
     rw[if_pos rfl] at k
     refine J9j rfl ⟨_,rfl,_,rfl,?_⟩
     cases cut with
     |true=>exact Z2 ⟨D6 (by decide),k⟩
     |false=>exact U5 ⟨D6 (by decide),k⟩
   . rw[if_neg h0] at k
     rw[decide_eq_false (fun q=>h0 (by injection q):¬V.int pt=V.int 0)]
     exact Z2 ⟨D6 (by decide),k⟩
noncomputable def D0q (CC:Addr):Sp:=fun vs H Q _=>∃c v a b xs ys,∃L pt:Int,vs=[.ref c,.int L,.int pt]/\CtxV CC H c v a b xs ys/\∀l,H l=none ->Q (.ref l) (upd H l (.lst ((A0x v.l L pt).map V.str)))
theorem U1n:FnScope ["context","lead","part"] ["context","lead","part"] (A1 A3a):=scK
theorem G7f{f CC CB CT CW:Addr}{cw:Wy ->Addr}(D:Def K mg "signals_of_lead" ["context","lead","part"] A3a f fd)(C:CtxM P w K mg base CC CB CT CW cw):FnOk P w K mg base (CX1 P w) 1 f fd ["context","lead","part"] (D0q CC):=by
 refine FnOk.up (D.F.ok U1n (fun vs H Q E h=>?_) (fun cdv A outer s H vs Q E hr h=>?_))
 . obtain⟨c,v,a,b,xs,ys,L,pt,rfl,_⟩:=h
   rfl
 . obtain⟨c,v,a,b,xs,ys,L,pt,rfl,hc,k⟩:=h
   refine⟨_,(B0 (J0 (D5 J9e (pv 1) (G8 (pv 0) rfl) (D4 _)) (B5 (C7 (U1 A7))) D7)
     (B5 (C7 (A4n (D5 U2 (pv 2) A3 (D4 _)) (U1 (A0 C9 A7)) (U1 (A0 C9 (A0 C9 A7))))))),?_⟩
   obtain⟨⟨dx,e⟩,_,_⟩:=id hc
   unfold A0x at k
   refine⟨_,rfl,_,rfl,c,CC,dx,_,_,rfl,e,C.c.cl,C.c.n_least,D0h _ _ _ _ _ _,_,_,rfl,rfl,_,rfl,Y5 (fun h=>?_) (fun h=>?_)⟩
   . rw[if_pos h] at k
     exact⟨D6 (by decide),k⟩
   . rw[if_neg h] at k
     refine⟨_,rfl,rfl,_,rfl,Y5 (fun h=>?_) (fun h=>?_)⟩
     . rw[if_pos (by injection h)] at k
       exact⟨D6 (by decide),k⟩
     . rw[if_neg fun q=>h (congrArg V.int q)] at k
       exact⟨D6 (by decide),k⟩
noncomputable def B5h (CN CC:Addr):Sp:=fun vs H Q _=>∃c v a b xs ys,∃s i:Int,vs=[.ref c,.int s,.int i]/\CtxV CC H c v a b xs ys/\∀n H',H n=none ->Same H H' ->NumIs CN H' n ⟨.plain,s,0,C2b (A7z i (v.l-v.r+1)) v.m⟩ ->Q (.ref n) H'
theorem U7k:FnScope ["context","sign","ideal"] ["context","sign","ideal"] (A1 A1j):=scK
theorem U1x{f fI CN CC CB CT CW:Addr}{cw:Wy ->Addr}{fd fdI:FuncData}(D:Def K mg "nought" ["context","sign","ideal"] A1j f fd)(C:CtxM P w K mg base CC CB CT CW cw)(N:Num K mg CN)(M:MakeN P w K mg base CN fI fdI)(O:Own mg):FnOk P w K mg base (CX1 P w) 3 f fd ["context","sign","ideal"] (B5h CN CC):=by
 refine FnOk.up (D.F.ok U7k (fun vs H Q E h=>?_) (fun cdv A outer s H vs Q E hr h=>?_))
 . obtain⟨c,v,a,b,xs,ys,sg,i,rfl,_⟩:=h
   rfl
 . obtain⟨c,v,a,b,xs,ys,sg,i,rfl,hc,k⟩:=h
   have hx:G7 (Z9 CX0 P w K mg base ["context","sign","ideal"] "nought" (A1 A1j) f cdv A outer s H E).nox EKF:=Y8
   obtain⟨fL,fdL,mL,gL,bL⟩:=C.low
   refine⟨_,(B5 (C7 (C0k M.m (FnOk.up M.g) hr N.g M.b .nil hx (A0 C9 (A0 (pv 1) (A0 A3 (A0 (V3 (D0b rfl) (by rfl) O.min_ boot_min (A0 (V3 (Z0 rfl) (by rfl) O.max_ boot_max (A0 (pv 2) (A0 (A3e (pv 0) C.c.cl mL gL hr bL .nil hx) A7))) (A0 (G8 (pv 0) rfl) A7))) A7))))))),?_⟩
   obtain⟨⟨dx,e⟩,_,_⟩:=id hc
   exact⟨_,rfl,_,rfl,_,rfl,c,dx,_,rfl,e,B2q _ _ _ _ _ _,c,v.r,v.y,v.l,v.m,a,b,_,_,rfl,hc,_,_,rfl,_,rfl,c,CC,dx,_,_,rfl,e,C.c.cl,C.c.n_most,C3b _ _ _ _ _ _,_,_,rfl,D0u k⟩
end
noncomputable abbrev A1m:Stmt:=(top 27)
noncomputable abbrev A0d:Stmt:=(top 39)
theorem G2b(i:Int):∀(n:Nat) (f p:Int),0<=f ->0<=(Y9 i n f p).1/\(Y9 i n f p).1<=f
 |0,f,p,h=>⟨h,Int.le_refl _⟩
 | n +1,f,p,h=>by
   show 0<=(if f % 10=0 then Y9 i n (f/10) (p+1) else(f,p)).1/\(if f % 10=0 then Y9 i n (f/10) (p+1) else(f,p)).1<=f
   by_cases z:f % 10=0
   . rw[if_pos z]
     have:=G2b i n (f/10) (p+1) (by omega)
     omega
   . rw[if_neg z]
     exact⟨h,Int.le_refl _⟩
theorem U9j{t b u1 v1 u2 v2 d:Nat}(h:t*10^u1<10*(b*10^v1))(e:u2+v1<=u1+v2+d):t*10^u2<10^(d+1)*(b*10^v2):=by
 have p:0<10^v1:=Nat.pow_pos (by decide)
 apply Nat.lt_of_mul_lt_mul_right (a:=10^v1)
 calc t*10^u2*10^v1=t*10^(u2+v1):=by rw[Nat.mul_assoc, <-Nat.pow_add]
   _<=t*10^(u1+v2+d):=Nat.mul_le_mul_left t (Nat.pow_le_pow_right (by decide) e)
   _=t*10^u1*(10^v2*10^d):=by rw[Nat.mul_assoc, <-Nat.pow_add, <-Nat.pow_add,Nat.add_assoc]
   _<10*(b*10^v1)*(10^v2*10^d):=Nat.mul_lt_mul_of_pos_right h (Nat.mul_pos (Nat.pow_pos (by decide)) (Nat.pow_pos (by decide)))
   _=10^(d+1)*(b*10^v2)*10^v1:=by rw[Nat.pow_succ];ac_rfl
theorem J8r{t b s1 s2 r:Int}(ht:Sz t)(hb:Sz b)(h:A3n t b s1)(hr:1<=r)(e:s2<=s1+(r-1)):0<=whI t b s2/\whI t b s2<B7 r:=by
 obtain⟨tn,rfl,_,_⟩:=ht.nat
 obtain⟨bn,rfl,b1,_⟩:=hb.nat
 have lp:0<(bn:Int)*B7 (-s2):=Int.mul_pos (by omega) (G5 _)
 refine⟨Int.ediv_nonneg (Int.mul_nonneg (by omega) (Int.le_of_lt (G5 _))) (Int.le_of_lt lp),?_⟩
 refine Int.ediv_lt_of_lt_mul lp ?_
 have a:tn*10^s1.toNat<10*(bn*10^(-s1).toNat):=Int.ofNat_lt.mp h.2
 have c:=U9j (u2:=s2.toNat) (v2:=(-s2).toNat) (d:=(r-1).toNat) a (by
   have x1:=Int.toNat_sub_toNat_neg s1
   have x2:=Int.toNat_sub_toNat_neg s2
   have x3:=Int.toNat_of_nonneg (show 0<=r-1 by omega)
   clear a lp h
   generalize s1.toNat=A at*
   generalize (-s1).toNat=B at*
   generalize s2.toNat=C at*
   generalize (-s2).toNat=D at*
   generalize (r-1).toNat=E at*
   omega)
 rw[show(r-1).toNat+1=r.toNat by omega] at c
 exact Int.ofNat_lt.mpr c
theorem Y6u{r:Int}(h:r<=24):B7 r<=10^24:=by
 unfold B7
 have:10^r.toNat<=10^24:=Nat.pow_le_pow_right (by decide) (by omega)
 exact Int.ofNat_le.mpr this
theorem G8a{c:Cv}{s wh pt q i:Int}(ok:c.Ok)(h0:0<=wh)(h1:wh<B7 c.r):(Z5 c s wh pt q i).1.natAbs<2^300:=by
 have t:=Y6u ok.r2
 have big:((10^24:Nat):Int)=10^24:=by decide+kernel
 have lt:∀z:Int,0<=z ->z<=10^24 ->z.natAbs<2^300:=fun z a b=>Nat.lt_of_le_of_lt (show z.natAbs<=10^24 by omega) (by decide+kernel)
 unfold Z5
 split
 . have:=G2b i (i-q).toNat wh q h0
   exact lt _ this.1 (by unfold Z7;omega)
 . have hu:0<=upI c.y s wh pt/\upI c.y s wh pt<=B7 c.r:=by
     have e:upI c.y s wh pt=wh+1\/upI c.y s wh pt=wh:=by
       unfold upI
       generalize (if pt=0 then false else c.y.goes s (wh % 10) pt)=g
       cases g with
       |true=>exact .inl rfl
       |false=>exact .inr rfl
     omega
   generalize upI c.y s wh pt=u at hu
   unfold B5c
   split
   . exact lt (u/10) (by omega) (by omega)
   . exact lt u (by omega) (by omega)
section
variable{P:Program}{w:World}{K:Frag}{mg:Str ->Option Value}{base:Heap}
noncomputable def G3a (CC CR:Addr):Sp:=fun vs H Q _=>∃c v a b xs ys x,∃t bo n L:Int,vs=[.ref c,.ref x]/\CtxV CC H c v a b xs ys/\RatAt CR H x t bo n/\Sz t/\Sz bo/\A3n t bo (n-L)/\∀H',Same H H' ->Q (.int (A7z (L-v.r+1) (v.l-v.r+1))) H'
theorem V0c:FnScope ["context","exact"] ["context","exact"] (A1 A3r):=scK
theorem U1t{f CC CB CT CW CR CE g1 g2:Addr}{cw:Wy ->Addr}(D:Def K mg "finest_power" ["context","exact"] A3r f fd)(C:CtxM P w K mg base CC CB CT CW cw)(RM:RatM P w K mg base CR g1 g2 gd1 gd2)(R:RatC K mg CR CE)(O:Own mg):FnOk P w K mg base (CX1 P w) 5 f fd ["context","exact"] (G3a CC CR):=by
 refine FnOk.up (D.F.ok V0c (fun vs H Q E h=>?_) (fun cdv A outer s H vs Q E hr h=>?_))
 . obtain⟨c,v,a,b,xs,ys,x,t,bo,n,L,rfl,_⟩:=h
   rfl
 . obtain⟨c,v,a,b,xs,ys,x,t,bo,n,L,rfl,hc,ra,ht,hb,hL,k⟩:=h
   have hx:G7 (Z9 CX0 P w K mg base ["context","exact"] "finest_power" (A1 A3r) f cdv A outer s H E).nox EKF:=Y8
   obtain⟨fL,fdL,mL,gL,bL⟩:=C.low
   refine⟨_,(B5 (C7 (V3 (Z0 rfl) (by rfl) O.max_ boot_max (A0 (B9 V2 (B9 U8 (A3e (pv 1) R.cl RM.m1 RM.g1 hr RM.b1 .nil hx) (G8 (pv 0) rfl)) A3) (A0 (A3e (pv 0) C.c.cl mL gL hr bL .nil hx) A7))))),?_⟩
   obtain⟨dr,er⟩:=id ra
   refine⟨_,rfl,x,dr,_,rfl,er,B4x _ _ _,x,t,bo,n,rfl,ra,ht,hb,fun f H1 s1 ld=>?_⟩
   have ef:f=L:=by
     have:=J9t (show 0<bo by have:=hb.1;omega) ld hL
     omega
   subst ef
   have hc1:=hc.same s1
   obtain⟨⟨dx,e⟩,_,_⟩:=id hc1
   exact⟨_,rfl,c,CC,dx,_,_,rfl,e,C.c.cl,C.c.n_room,A8r _ _ _ _ _ _,_,_,rfl,rfl,_,_,rfl,rfl,_,rfl,c,dx,_,rfl,e,B2q _ _ _ _ _ _,c,v.r,v.y,v.l,v.m,a,b,_,_,rfl,hc1,_,_,rfl,k H1 s1⟩
noncomputable def Cv.fin (v:Cv) (L:Int):Int:=A7z (L-v.r+1) (v.l-v.r+1)
noncomputable def C0z (v:Cv) (s t bo n L i:Int):Nm×List Str:=D2q v s (whI t bo (n-v.fin L)) (ptI t bo (n-v.fin L)) L (v.fin L) i
noncomputable def Ends2 (CN CC CT:Addr) (H:Hp) (c:Addr) (v:Cv) (b:Addr) (xs ys:List Str) (res:Nm×List Str) (Q:VK) (E:XK):Prop:=
 (hit ys res.2=none ->∀m a' H',Exc c H H' ->CtxV CC H' c v a' b (V1 (xs++res.2)) ys ->NumIs CN H' m res.1 ->Q (.ref m) H')/\
 (∀z,hit ys res.2=some z ->∀a' d H',Exc c H H' ->CtxV CC H' c v a' b (V1 (xs++res.2)) ys ->H' d=some (.xd [("signal",.str z)]) ->E (.ref CT) (some d) H')
noncomputable def B6p (CN CC CT CR:Addr):Sp:=fun vs H Q E=>∃c v a b xs ys x,∃t bo n L s i:Int,vs=[.ref c,.int s,.ref x,.int i]/\CtxV CC H c v a b xs ys/\v.Ok/\xs.length<=900/\RatAt CR H x t bo n/\Sz t/\Sz bo/\A3n t bo (n-L)/\ -1500<=n-v.fin L/\n-v.fin L<=1500/\0<=s/\s<=1/\
 Ends2 CN CC CT H c v b xs ys (C0z v s t bo n L i) Q E
theorem scSettled:FnScope ["context","sign","exact","ideal","finest","pair","number","names"] ["context","sign","exact","ideal"] (A1 A1m):=scK
theorem U0t:∀z∈(["burst","off","cut"]:List Str),z∈sigS:=by decide+kernel
theorem U6r{pt:Int}{cut:Bool}{l L:Int}:∀z∈A0v pt cut++A0x l L pt,z∈sigS:=by
 have r:∀z∈A0v pt cut,z∈sigS:=by
   unfold A0v
   split
   . split
     . decide+kernel
     . decide+kernel
   . decide+kernel
 have d:∀z∈A0x l L pt,z∈sigS:=by
   unfold A0x
   split
   . decide+kernel
   . split
     . decide+kernel
     . decide+kernel
 intro z hz
 rcases List.mem_append.mp hz with h|h
 . exact r z h
 . exact d z h
theorem U6y{pt:Int}{cut:Bool}{l L:Int}:(A0v pt cut++A0x l L pt).length<=4:=by
 have r:(A0v pt cut).length<=2:=by
   unfold A0v
   split
   . split<;>decide
   . decide
 have d:(A0x l L pt).length<=2:=by
   unfold A0x
   split
   . decide
   . split<;>decide
 rw[List.length_append]
 omega
theorem G6t{f f1 f2 f3 f4 f5 f6 f7 f8 CN CC CB CT CW CR CE g1 g2:Addr}{cw:Wy ->Addr}(D:Def K mg "settled" ["context","sign","exact","ideal"] A1m f fd)
   (dA:Def K mg "finest_power" ["context","exact"] A3r f1 fd1) (dB:FnOk P w K mg base (CX1 P w) 5 f1 fd1 ["context","exact"] (G3a CC CR)) (dC:Def K mg "nearest_to" ["ideal","sign","figures","power"] A1q f2 fd2) (dD:FnOk P w K mg base (CX1 P w) 3 f2 fd2 ["ideal","sign","figures","power"] (D0n CN))
   (dE:Def K mg "neighbour" ["context","sign","pair"] Z3 f3 fd3) (dF:FnOk P w K mg base (CX1 P w) 3 f3 fd3 ["context","sign","pair"] (C0p CC)) (dG:Def K mg "within_room" ["context","sign","figures","power"] A3m f4 fd4) (dH:FnOk P w K mg base (CX1 P w) 3 f4 fd4 ["context","sign","figures","power"] (G2m CN CC))
   (dJ:Def K mg "is_beyond" ["context","number"] A3p f5 fd5) (dL:FnOk P w K mg base (CX1 P w) 2 f5 fd5 ["context","number"] (G2w CN CC)) (dM:Def K mg "burst" ["context","sign"] A8m f6 fd6) (dN:FnOk P w K mg base (CX1 P w) 4 f6 fd6 ["context","sign"] (J8t CN CC))
   (dP:Def K mg "signals_of_rest" ["part","is_cut"] A3c f7 fd7) (dQ:FnOk P w K mg base (CX1 P w) 1 f7 fd7 ["part","is_cut"] D0t) (dS:Def K mg "signals_of_lead" ["context","lead","part"] A3a f8 fd8) (dU:FnOk P w K mg base (CX1 P w) 1 f8 fd8 ["context","lead","part"] (D0q CC))
   (C:CtxM P w K mg base CC CB CT CW cw) (RM:RatM P w K mg base CR g1 g2 gd1 gd2) (R:RatC K mg CR CE) (N:Num K mg CN):FnOk P w K mg base (CX1 P w) 6 f fd ["context","sign","exact","ideal"] (B6p CN CC CT CR):=by
 refine D.F.okE scSettled (fun vs H Q E h=>?_) (fun X cdv A outer s H vs Q E hX hr hx h=>?_)
 . obtain⟨c,v,a,b,xs,ys,x,t,bo,n,L,sg,i,rfl,_⟩:=h
   rfl
 . subst hX
   obtain⟨c,v,a,b,xs,ys,x,t,bo,n,L,sg,i,rfl,hc,ok,lx,ra,ht,hb,hL,q0,q1,s0,s1,k⟩:=h
   obtain⟨fR,fdR,mR,gR,bR⟩:=C.raised
   refine⟨_,(B0 (D0 (G0 (i:=4) scSettled.nd rfl (Or.inl rfl) (D8 dA dB hr hx (A0 (pv 0) (A0 (pv 2) A7)))))
     (B0 (D0 (G0 (i:=5) scSettled.nd rfl (Or.inl rfl) (C0q (pv 2) R.cl RM.m2 RM.g2 hr RM.b2 .nil hx (A0 (pv 4) A7))))
     (B0 (D0 (J0 (D5 U2 (U6 U7 (pv 5) A3 (fun _ _=>rfl)) A3 (D4 _)) (B5 (G0 (i:=6) scSettled.nd rfl (Or.inl rfl) (D8 dC dD hr hx (A0 (pv 3) (A0 (pv 1) (A0 (U6 U7 (pv 5) A3 (fun _ _=>rfl)) (A0 (pv 4) A7))))))) (B5 (G0 (i:=6) scSettled.nd rfl (Or.inl rfl) (D8 dG dH hr hx (A0 (pv 0) (A0 (pv 1) (A0 (D8 dE dF hr hx (A0 (pv 0) (A0 (pv 1) (A0 (pv 5) A7)))) (A0 (pv 4) A7)))))))))
     (B0 (D0 (J0 (Y6 (D8 dJ dL hr hx (A0 (pv 0) (A0 (pv 6) A7)))) (B0 (Y2 (C0q (pv 0) C.c.cl mR gR hr bR .nil hx (A0 (U1 (A0 C9 (A0 C9 (A0 C9 A7)))) A7)))
     (B5 (C7 (D8 dM dN hr hx (A0 (pv 0) (A0 (pv 1) A7)))))) D7))
     (B0 (D0 (G0 (i:=7) scSettled.nd rfl (Or.inl rfl) (D8 dP dQ hr hx (A0 (U6 U7 (pv 5) A3 (fun _ _=>rfl)) (A0 (G9 C2x (G8 (pv 6) rfl) (pv 3) (D4 _)) A7)))))
     (B0 (D0 (Y2 (C0q (pv 0) C.c.cl mR gR hr bR .nil hx (A0 (B9 A8q (pv 7) (D8 dS dU hr hx (A0 (pv 0) (A0 (A3e (pv 2) R.cl RM.m1 RM.g1 hr RM.b1 .nil hx) (A0 (U6 U7 (pv 5) A3 (fun _ _=>rfl)) A7))))) A7))))
     (B5 (C7 (pv 6))))))))),?_⟩
   have b0:0<bo:=by have:=hb.1;omega
   have wr:=J8r (s2:=n-v.fin L) ht hb hL ok.r1 (by
     unfold Cv.fin A7z
     split<;>omega)
   unfold C0z D2q at k
   refine⟨fun σ' H'=>Same H H'/\σ'=[some (.ref c),some (.int sg),some (.ref x),some (.int i),some (.int (v.fin L)),none,none,none],?_,?_⟩
   . exact⟨_,rfl,_,rfl,c,v,a,b,xs,ys,x,t,bo,n,L,rfl,hc,ra,ht,hb,hL,fun H' s'=>⟨s',rfl⟩⟩
   rintro σ' H1 ⟨t1,rfl⟩
   have hc1:=hc.same t1
   have ra1:=ra.same t1
   generalize v.fin L=q at*
   generalize hwh:whI t bo (n-q)=wh at*
   generalize hpt:ptI t bo (n-q)=pt at*
   refine⟨fun σ' H'=>∃p,Same H1 H'/\H' p=some (.tup [.int wh,.int pt])/\σ'=[some (.ref c),some (.int sg),some (.ref x),some (.int i),some (.int q),some (.ref p),none,none],?_,?_⟩
   . obtain⟨dr,er⟩:=id ra1
     refine⟨_,rfl,x,dr,_,rfl,er,D0m _ _ _,_,rfl,x,t,bo,n,q,rfl,ra1,ht,hb,q0,q1,fun p H' s' np ep=>⟨p,s',?_,rfl⟩⟩
     rw[hwh,hpt] at ep
     exact ep
   rintro σ' H2 ⟨p,t2,hp,rfl⟩
   have hc2:=hc1.same t2
   have sm:=G8a (s:=sg) (pt:=pt) (q:=q) (i:=i) ok wr.1 wr.2
   refine⟨fun σ' H'=>∃m,Same H2 H'/\H2 m=none/\NumIs CN H' m ⟨.plain,sg,(Z5 v sg wh pt q i).1,(Z5 v sg wh pt q i).2⟩/\σ'=[some (.ref c),some (.int sg),some (.ref x),some (.int i),some (.int q),some (.ref p),some (.ref m),none],?_,?_⟩
   . refine⟨_,rfl,p,_,_,_,rfl,rfl,SqT.of hp,D9 (j:=1) rfl,rfl,_,rfl,Y5 (fun h=>?_) (fun h=>?_)⟩
     . have h:pt=0:=by injection h
       refine⟨_,rfl,_,rfl,_,rfl,p,_,_,_,rfl,rfl,SqT.of hp,D9 (j:=0) rfl,_,rfl,i,sg,wh,q,rfl,fun m H' nm s' num=>⟨m,s',nm,?_,rfl⟩⟩
       unfold Z5
       rw[if_pos h]
       exact num
     . have h:¬pt=0:=fun z=>h (congrArg V.int z)
       refine⟨_,rfl,_,rfl,_,rfl,_,rfl,_,rfl,c,v,a,b,xs,ys,p,sg,wh,pt,rfl,hc2,hp,fun H3 s3=>?_⟩
       refine⟨_,rfl,c,v,a,b,xs,ys,sg,_,q,rfl,hc2.same s3,ok,fun m H' nm s' num=>⟨m,s3.trans s',s3.free nm,?_,rfl⟩⟩
       unfold Z5
       rw[if_neg h]
       exact num
   rintro σ' H3 ⟨m,t3,nm,num,rfl⟩
   have hc3:=hc2.same t3
   have tA:=(t1.trans t2).trans t3
   have nmc:m≠c:=fun z=>by
     obtain⟨⟨dx,e⟩,_,_⟩:=hc2
     rw[z,e] at nm
     cases nm
   obtain⟨⟨dx,e3⟩,_,_⟩:=id hc3
   generalize hf:(Z5 v sg wh pt q i).1=fg at*
   generalize hg:(Z5 v sg wh pt q i).2=pw at*
   refine⟨fun σ' H'=>H'=H3/\A2k v.m fg pw=false/\σ'=[some (.ref c),some (.int sg),some (.ref x),some (.int i),some (.int q),some (.ref p),some (.ref m),none],?_,?_⟩
   . refine⟨_,rfl,_,rfl,c,v,a,b,xs,ys,m,_,rfl,hc3,num,sm,_,rfl,?_⟩
     cases e:A2k v.m fg pw with
     |false=>exact U5 ⟨rfl,rfl,rfl⟩
     | true=>
       rw[e,if_pos rfl] at k
       refine Z2 ⟨_,rfl,c,dx,_,rfl,e3,A4c _ _ _ _ _ _,D6 (by decide),fun l nl=>?_⟩
       have u:=Same.upd (o:= .lst [.str "burst",.str "off",.str "cut"]) nl
       refine⟨c,v.r,v.y,v.l,v.m,a,b,xs,ys,.ref l,rfl,hc3.same u,by omega,.inl ⟨l,["burst","off","cut"],rfl,A9,by decide,U0t,fun hn a' H4 x4 na ct=>?_,fun z hz a' d H4 x4 na ct nd ed=>?_⟩⟩
       . refine⟨_,rfl,_,rfl,c,v,a',b,_,ys,sg,rfl,ct,ok,s0,s1,fun m' H5 s5 num5=>k.1 hn m' a' H5 (((Exc.of (tA.trans u)).trans x4).trans (.of s5)) (CtxV.same ct s5) num5⟩
       . exact k.2 z hz a' d H4 ((Exc.of (tA.trans u)).trans x4) ct ed
   rintro σ' H4 ⟨rfl,e,rfl⟩
   rw[e,if_neg Bool.false_ne_true] at k
   refine⟨fun σ' H'=>∃l,Same H4 H'/\H' l=some (.lst ((A0v pt (decide (pw>i))).map V.str))/\σ'=[some (.ref c),some (.int sg),some (.ref x),some (.int i),some (.int q),some (.ref p),some (.ref m),some (.ref l)],?_,?_⟩
   . obtain⟨dn,en⟩:=id num
     exact⟨_,rfl,p,_,_,_,rfl,rfl,SqT.of (t3 _ _ hp),D9 (j:=1) rfl,_,rfl,m,CN,dn,_,_,rfl,en,N.cl,N.n4,U0z _ _ _ _,_,rfl,_,_,rfl,rfl,pt,_,rfl,fun l nl=>⟨l,Same.upd nl,A9,rfl⟩⟩
   rintro σ' H5 ⟨l,t5,hl,rfl⟩
   refine⟨fun σ' H'=>hit ys (A0v pt (decide (pw>i))++A0x v.l L pt)=none/\∃a',Exc c H H'/\CtxV CC H' c v a' b (V1 (xs++(A0v pt (decide (pw>i))++A0x v.l L pt))) ys/\NumIs CN H' m ⟨.plain,sg,fg,pw⟩/\σ'=[some (.ref c),some (.int sg),some (.ref x),some (.int i),some (.int q),some (.ref p),some (.ref m),some (.ref l)],?_,?_⟩
   . have ra5:=((ra1.same t2).same t3).same t5
     obtain⟨dr,er⟩:=id ra5
     have hc5:=hc3.same t5
     refine⟨_,rfl,c,dx,_,rfl,t5 _ _ e3,A4c _ _ _ _ _ _,_,rfl,_,rfl,_,rfl,x,dr,_,rfl,er,B4x _ _ _,x,t,bo,n,rfl,ra5,ht,hb,fun f H6 t6 ld=>?_⟩
     have ef:f=L:=by
       have:=J9t b0 ld hL
       omega
     subst ef
     refine⟨_,rfl,p,_,_,_,rfl,rfl,SqT.of ((t5.trans t6) _ _ (t3 _ _ hp)),D9 (j:=1) rfl,c,v,a,b,xs,ys,f,pt,rfl,hc5.same t6,fun l2 nl2=>?_⟩
     have u2:=Same.upd (o:= .lst ((A0x v.l f pt).map V.str)) nl2
     have rl:=U6y (pt:=pt) (cut:=decide (pw>i)) (l:=v.l) (L:=f)
     rw[List.length_append] at rl
     refine⟨l,l2,_,_,rfl,rfl,(t6.trans u2) _ _ hl,A9,D6 (by rw[List.length_map,List.length_map];omega),fun l3 nl3=>?_⟩
     have u3:=Same.upd (o:= .lst ((A0v pt (decide (pw>i))).map V.str++(A0x v.l f pt).map V.str)) nl3
     have tB:=(t6.trans u2).trans u3
     have num7:=(num.same t5).same tB
     obtain⟨dn7,en7⟩:=id num7
     have keep:∀{H':Hp},Exc c _ H' ->NumIs CN H' m ⟨.plain,sg,fg,pw⟩:=fun x7=>⟨dn7,x7 _ _ en7 nmc⟩
     refine⟨c,v.r,v.y,v.l,v.m,a,b,xs,ys,.ref l3,rfl,(hc5.same tB),by omega,.inl ⟨l3,A0v pt (decide (pw>i))++A0x v.l f pt,rfl,by rw[A9,List.map_append],by rw[List.length_append];omega,U6r,fun hn a' H8 x8 na ct=>?_,fun z hz a' d H8 x8 na ct nd ed=>?_⟩⟩
     . exact⟨hn,a',(Exc.of (tA.trans (t5.trans tB))).trans x8,ct,keep x8,rfl⟩
     . exact k.2 z hz a' d H8 ((Exc.of (tA.trans (t5.trans tB))).trans x8) ct ed
   rintro σ' H6 ⟨hn,a',x6,ct,num6,rfl⟩
   exact⟨_,rfl,k.1 hn m a' H6 x6 ct num6⟩
noncomputable def B3k (v:Cv) (x:Nm) (L:Int):Nm×List Str:=match x.k with
 | .plain=>if x.f=0 then(⟨.plain,x.s,0,C2b (A7z x.p (v.l-v.r+1)) v.m⟩,[]) else C0z v x.s x.f 1 x.p L x.p
 |_=>(x,[])
end
section
variable{P:Program}{w:World}{K:Frag}{mg:Str ->Option Value}{base:Heap}
end
noncomputable def G7m (t s wh:Int):Prop:=0<=wh/\wh*wh*B7 (-s)<=t*B7 s/\t*B7 s<(wh+1)*(wh+1)*B7 (-s)
noncomputable def Z9f (t s wh:Int):Int:=if wh*wh*B7 (-s)=t*B7 s then 0 else 1+(if decide ((2*wh+1)*(2*wh+1)*B7 (-s)<=4*(t*B7 s))=true then 1 else 0)+(if decide ((2*wh+1)*(2*wh+1)*B7 (-s)<4*(t*B7 s))=true then 1 else 0)
theorem G8q{s:Int}(h:s<=0):B7 s=1:=by unfold B7;rw[show s.toNat=0 by omega];rfl
section
variable{P:Program}{w:World}{K:Frag}{mg:Str ->Option Value}{base:Heap}
end
section
variable{P:Program}{w:World}{K:Frag}{mg:Str ->Option Value}{base:Heap}
end
section
variable{P:Program}{w:World}{K:Frag}{mg:Str ->Option Value}{base:Heap}
end
theorem J7x:∀n:Nat,∃r:Nat,r*r<=n/\n<(r+1)*(r+1)
 |0=>⟨0,by decide,by decide⟩
 | n + 1=>by
   obtain⟨r,h1,h2⟩:=J7x n
   by_cases h:n+1<(r+1)*(r+1)
   . exact⟨r,by omega,h⟩
   . refine⟨r+1,by omega,?_⟩
     have:(r+1+1)*(r+1+1)=(r+1)*(r+1)+2*(r+1)+1:=by
       simp only[Nat.add_mul,Nat.mul_add]
       omega
     omega
theorem Y4w{t s:Int}(ht:1<=t):∃w,G7m t s w:=by
 obtain⟨hi,ehi⟩:=Int.eq_ofNat_of_zero_le (Int.le_of_lt (Int.mul_pos (show 0<t by omega) (G5 s)))
 obtain⟨lo,elo⟩:=Int.eq_ofNat_of_zero_le (Int.le_of_lt (G5 (-s)))
 have lo0:0<lo:=by have:=G5 (-s);omega
 obtain⟨r,r1,r2⟩:=J7x (hi/lo)
 refine⟨r,by omega,?_,?_⟩
 . rw[ehi,elo]
   exact Int.ofNat_le.mpr ((Nat.le_div_iff_mul_le lo0).mp r1)
 . rw[ehi,elo]
   exact Int.ofNat_lt.mpr ((Nat.div_lt_iff_lt_mul lo0).mp r2)
noncomputable def whQ (t s:Int):Int:=by
 classical exact if h:∃w,G7m t s w then Classical.choose h else 0
theorem U7d{t s:Int}(ht:1<=t):G7m t s (whQ t s):=by
 have h:=Y4w (s:=s) ht
 unfold whQ
 rw[dif_pos h]
 exact Classical.choose_spec h
section
variable{P:Program}{w:World}{K:Frag}{mg:Str ->Option Value}{base:Heap}
end
section
variable{P:Program}{w:World}{K:Frag}{mg:Str ->Option Value}{base:Heap}
end
section
variable{P:Program}{w:World}{K:Frag}{mg:Str ->Option Value}{base:Heap}
theorem U9g{v:Cv}{L n:Int}(ok:v.Ok)(h1: -1000<=n-L)(h2:n-L<=1000)(n1: -400<=n)(n2:n<=400): -1500<=n-v.fin L/\n-v.fin L<=1500:=by
 have:=ok.r1;have:=ok.r2;have:=ok.l1;have:=ok.l2
 unfold Cv.fin A7z
 split<;>omega
theorem G6p{t b s:Int}(ht:Sz t)(hb:Sz b)(h:A3n t b s): -1000<=s/\s<=1000:=by
 have e:=G5 1000
 refine⟨?_,?_⟩
 . apply Classical.byContradiction
   intro hs
   have z:B7 s=1:=by unfold B7;rw[show s.toNat=0 by omega];rfl
   have g:B7 1000<=B7 (-s):=V5 (by omega)
   have a:=h.1
   rw[z,Int.mul_one] at a
   have:1*B7 (-s)<=b*B7 (-s):=Int.mul_le_mul_of_nonneg_right hb.1 (Int.le_of_lt (G5 _))
   have:=ht.2
   omega
 . apply Classical.byContradiction
   intro hs
   have z:B7 (-s)=1:=by unfold B7;rw[show(-s).toNat=0 by omega];rfl
   have g:B7 1001<=B7 s:=V5 (by omega)
   have e1:B7 1001=10*B7 1000:=by
     unfold B7
     rw[show(1001:Int).toNat=(1000:Int).toNat+1 by decide,Nat.pow_succ,Nat.mul_comm]
     rfl
   have a:=h.2
   rw[z,Int.mul_one] at a
   have:1*B7 s<=t*B7 s:=Int.mul_le_mul_of_nonneg_right ht.1 (Int.le_of_lt (G5 _))
   have:=hb.2
   omega
theorem G7v:Sz 1:=⟨by decide,by
 have:B7 1<=B7 1000:=V5 (by decide)
 have e:B7 1=10:=rfl
 omega⟩
theorem Z4m{f:Int}(h0:0<=f)(h:f≠0)(h1:f<=10^60-1):Sz f:=by
 refine⟨by omega,?_⟩
 have:B7 60<=B7 1000:=V5 (by decide)
 have e:B7 60=10^60:=by decide+kernel
 omega
end
noncomputable def U6q:Nm:=⟨.none,0,0,0⟩
noncomputable def C1a (v:Cv) (s i:Int):Nm:=⟨.plain,s,0,C2b (A7z i (v.l-v.r+1)) v.m⟩
theorem Ends2.same{CN CC CT:Addr}{H H1:Hp}{c:Addr}{v:Cv}{b:Addr}{xs ys:List Str}{res:Nm×List Str}{Q:VK}{E:XK}(k:Ends2 CN CC CT H c v b xs ys res Q E)(s:Same H H1):Ends2 CN CC CT H1 c v b xs ys res Q E:=
 ⟨fun hn m a' H' x=>k.1 hn m a' H' ((Exc.of s).trans x),fun z hz a' d H' x=>k.2 z hz a' d H' ((Exc.of s).trans x)⟩
theorem Y7c(tr:List Str):hit tr []=none:=by
 unfold hit
 rw[List.find?_eq_none]
 simp
theorem Ends2.calm{CN CC CT:Addr}{H H1:Hp}{c n a:Addr}{v:Cv}{b:Addr}{xs ys:List Str}{x:Nm}{Q:VK}{E:XK}(k:Ends2 CN CC CT H c v b xs ys (x,[]) Q E)(ox:V1 xs=xs)(s:Same H H1)(hc:CtxV CC H c v a b xs ys)(hn:NumIs CN H1 n x):Q (.ref n) H1:=
 k.1 (Y7c _) n a H1 (Exc.of s) (by show CtxV CC H1 c v a b (V1 (xs++ [])) ys;rw[List.append_nil,ox];exact hc.same s) hn
deriving instance DecidableEq for Kd
theorem D3b(n:Nat)(h:1<=n):∃L:Nat,10^L<=n/\n<10^(L+1):=by
 induction n using Nat.strongRecOn with
 | ind n ih=>
   by_cases h10:n<10
   . exact⟨0,by simpa using h,by simpa using h10⟩
   . obtain⟨L,a,b⟩:=ih (n/10) (by omega) (by omega)
     refine⟨L+1,?_,?_⟩
     . rw[Nat.pow_succ];omega
     . rw[Nat.pow_succ];omega
theorem D2a{n j:Nat}(h1:n<10^(j+1))(h2:10^j<=n):U9 (n:Int)=(j:Int)+1:=by
 unfold U9
 have e:(Str.ofString (toString (n:Int))).length=(Nat.toDigits 10 n).length:=by
   have:=congrArg List.length (KIN.signs_num n)
   rw[List.length_map] at this
   rw[<-this];rfl
 rw[e]
 have a:(Nat.toDigits 10 n).length<=j+1:=digits10_le (by omega) h1
 have b:j+1<=(Nat.toDigits 10 n).length:=digits10_ge h2
 omega
theorem Z1u{c A B:Prop} [Decidable c] (h:¬c) (a:A):if(!decide c)=true then A else B:=by rw[decide_eq_false h];exact Z2 a
noncomputable def SzL (t:Int):Prop:=1<=t/\t<B7 500
theorem SzL.nat{t:Int}(h:SzL t):∃n:Nat,t=(n:Int)/\1<=n/\n<10^500:=by
 obtain⟨n,rfl⟩:=Int.eq_ofNat_of_zero_le (show 0<=t by have:=h.1;omega)
 exact⟨n,rfl,Int.ofNat_le.mp h.1,Int.ofNat_lt.mp h.2⟩
theorem SzL.sz{t:Int}(h:SzL t):Sz t:=⟨h.1,Int.lt_of_lt_of_le h.2 (V5 (by decide))⟩
theorem SzL.log{t:Int}(h:SzL t):t.natAbs.log2<1920:=by
 obtain⟨n,rfl,_,hn⟩:=h.nat
 have:n<2^1670:=Nat.lt_of_lt_of_le (Nat.lt_of_lt_of_le hn (Nat.pow_le_pow_right (by decide) (by decide:500<=3*167))) (G2k 167)
 exact Nat.lt_trans (A2z (i:=(n:Int)) (k:=1670) (by rw[Int.natAbs_natCast];exact this) (by decide)) (by decide)
noncomputable def G3f (CN CC CT:Addr):Sp:=fun vs H Q E=>∃c v a b xs ys n x,∃L:Int,vs=[.ref c,.ref n]/\CtxV CC H c v a b xs ys/\v.Ok/\xs.length<=900/\V1 xs=xs/\NumIs CN H n x/\0<=x.s/\x.s<=1/\0<=x.f/\x.f<B7 500/\ -200<=x.p/\x.p<=200/\(x.k= .plain ->x.f≠0 ->A3n x.f 1 (x.p-L))/\Ends2 CN CC CT H c v b xs ys (B3k v x L) Q E
section
variable{P:Program}{w:World}{K:Frag}{mg:Str ->Option Value}{base:Heap}
theorem D0a:FnScope ["context","number"] ["context","number"] (A1 A0d):=scK
theorem U2b{f f1 f2 f3 fI CN CC CB CB' CT CW CR CE:Addr}{cw:Wy ->Addr}{fd fd1 fd2 fd3 fdI:FuncData}{d0:Value}{gP:List Value ->List Value ->List Value}{vP:List V ->List V ->List V}(D:Def K mg "rounded" ["context","number"] A0d f fd)
   (dA:Def K mg "need_number" ["thing"] A5r f1 fd1) (dB:FnOk P w K mg base (CX1 P w) 1 f1 fd1 ["thing"] (D3c K CN CB')) (dC:Def K mg "nought" ["context","sign","ideal"] A1j f2 fd2) (dD:FnOk P w K mg base (CX1 P w) 3 f2 fd2 ["context","sign","ideal"] (B5h CN CC))
   (dE:Def K mg "settled" ["context","sign","exact","ideal"] A1m f3 fd3) (dF:FnOk P w K mg base (CX1 P w) 6 f3 fd3 ["context","sign","exact","ideal"] (B6p CN CC CT CR)) (MR:MakeR P w K mg base CR fI fdI d0 gP vP) (R:RatC K mg CR CE) (N:Num K mg CN):
   FnOk P w K mg base (CX1 P w) 7 f fd ["context","number"] (G3f CN CC CT):=by
 refine D.F.okE D0a (fun vs H Q E h=>?_) (fun X cdv A outer s H vs Q E hX hr hx h=>?_)
 . obtain⟨c,v,a,b,xs,ys,n,x,L,rfl,_⟩:=h
   rfl
 . subst hX
   obtain⟨c,v,a,b,xs,ys,n,x,L,rfl,hc,ok,lx,ox,num,s0,s1,f0,f1,p0,p1,hL,k⟩:=h
   refine⟨_,(B0 (Y2 (D8 dA dB hr hx (A0 (pv 1) A7)))
     (B0 (J0 (D5 C1k (G8 (pv 1) rfl) C9 (D4 _)) (B5 (C7 (pv 1))) D7)
     (B0 (J0 (D5 U2 (G8 (pv 1) rfl) A3 (D4 _)) (B5 (C7 (D8 dC dD hr hx (A0 (pv 0) (A0 (G8 (pv 1) rfl) (A0 (G8 (pv 1) rfl) A7)))))) D7)
     (B5 (C7 (D8 dE dF hr hx (A0 (pv 0) (A0 (G8 (pv 1) rfl) (A0 (C0k MR.m MR.g hr R.g MR.b3 .nil hx (A0 (G8 (pv 1) rfl) (A0 A3 (A0 (G8 (pv 1) rfl) A7)))) (A0 (G8 (pv 1) rfl) A7)))))))))),?_⟩
   obtain⟨dn,en⟩:=id num
   refine⟨_,rfl,_,rfl,Or.inl ⟨n,_,_,_,_,rfl,num,?_⟩⟩
   refine⟨_,rfl,n,CN,dn,_,_,rfl,en,N.cl,N.n1,Z9g _ _ _ _,rfl,_,rfl,?_⟩
   by_cases hk:x.k= .plain
   . have eR:B3k v x L=if x.f=0 then(⟨.plain,x.s,0,C2b (A7z x.p (v.l-v.r+1)) v.m⟩,[]) else C0z v x.s x.f 1 x.p L x.p:=by unfold B3k;rw[hk]
     rw[eR] at k
     refine J9j (by rw[hk];rfl) ⟨_,rfl,n,CN,dn,_,_,rfl,en,N.cl,N.n3,U8c _ _ _ _,rfl,_,rfl,Y5 (fun hf=>?_) (fun hf=>?_)⟩
     . have hf:x.f=0:=V.int.inj hf
       rw[if_pos hf] at k
       exact⟨_,rfl,_,rfl,n,CN,dn,_,_,rfl,en,N.cl,N.n2,Z3j _ _ _ _,_,rfl,n,CN,dn,_,_,rfl,en,N.cl,N.n4,U0z _ _ _ _,c,v,a,b,xs,ys,x.s,x.p,rfl,hc,fun n' H' nn s' num'=>k.calm ox s' hc num'⟩
     . have hf:¬x.f=0:=fun z=>hf (congrArg V.int z)
       rw[if_neg hf] at k
       have zl:SzL x.f:=⟨by omega,f1⟩
       have z1:Sz x.f:=zl.sz
       have hl:=hL hk hf
       have ls:=G6p z1 G7v hl
       have fn:=U9g (v:=v) ok ls.1 ls.2 (by omega) (by omega)
       refine⟨_,rfl,_,rfl,n,CN,dn,_,_,rfl,en,N.cl,N.n2,Z3j _ _ _ _,_,rfl,n,CN,dn,_,_,rfl,en,N.cl,N.n3,U8c _ _ _ _,_,rfl,n,CN,dn,_,_,rfl,en,N.cl,N.n4,U0z _ _ _ _,fun r dr m1 m2 me=>A0au m1 m2 me fun H1 s1' ra=>⟨rfl,?_⟩⟩
       obtain⟨dn1,en1⟩:=num.same s1'
       exact⟨_,rfl,n,CN,dn1,_,_,rfl,en1,N.cl,N.n4,U0z _ _ _ _,c,v,a,b,xs,ys,r,x.f,1,x.p,L,x.s,x.p,rfl,hc.same s1',ok,lx,ra,z1,G7v,hl,fn.1,fn.2,s0,s1,k.same s1'⟩
   . have eR:B3k v x L=(x,[]):=by
       unfold B3k
       cases hx:x.k with
       |plain=>exact absurd hx hk
       |end_=>rfl
       |none=>rfl
     rw[eR] at k
     exact Z1u (fun z=>hk (eqS (b:= .plain) z)) ⟨_,rfl,k.calm ox (Same.refl _) hc num⟩
end
noncomputable abbrev C1t:Stmt:=(top 38)
section
variable{P:Program}{w:World}{K:Frag}{mg:Str ->Option Value}{base:Heap}
noncomputable def V0s (CN CC CT:Addr):Sp:=fun vs H Q E=>∃c v a b xs ys,vs=[.ref c]/\CtxV CC H c v a b xs ys/\xs.length<=900/\Ends2 CN CC CT H c v b xs ys (U6q,["void"]) Q E
theorem Z3a:FnScope ["context"] ["context"] (A1 C1t):=scK
theorem Y4k{f f1 CN CC CB CT CW:Addr}{cw:Wy ->Addr}(D:Def K mg "void" ["context"] C1t f fd)(dA:Def K mg "nothing" [] A1t f1 fd1)(dB:FnOk P w K mg base (CX1 P w) 3 f1 fd1 [] (B6t CN))(C:CtxM P w K mg base CC CB CT CW cw):FnOk P w K mg base (CX1 P w) 4 f fd ["context"] (V0s CN CC CT):=by
 refine D.F.okE Z3a (fun vs H Q E h=>?_) (fun X cdv A outer s H vs Q E hX hr hx h=>?_)
 . obtain⟨c,v,a,b,xs,ys,rfl,_⟩:=h
   rfl
 . subst hX
   obtain⟨c,v,a,b,xs,ys,rfl,hc,lx,k⟩:=h
   obtain⟨fR,fdR,mR,gR,bR⟩:=C.raised
   refine⟨_,(B0 (Y2 (C0q (pv 0) C.c.cl mR gR hr bR .nil hx (A0 (U1 (A0 C9 A7)) A7)))
     (B5 (C7 (C3d dA dB hr hx)))),?_⟩
   have z1:1<=sizeLine:=D6 (by decide)
   obtain⟨dx,e⟩:=hc.ins
   refine⟨_,rfl,c,dx,_,rfl,e,A4c _ _ _ _ _ _,z1,fun p np=>?_⟩
   have u:=Same.upd (o:= .lst [.str "void"]) np
   refine⟨c,v.r,v.y,v.l,v.m,a,b,xs,ys,_,rfl,hc.same u,by omega,.inl ⟨p,["void"],rfl,A9,by decide,by decide+kernel,fun hn a' H' x na ct=>?_,fun t ht a' d H' x na ct nd ed=>?_⟩⟩
   . exact⟨rfl,fun n H2 nn s2 num=>k.1 hn n a' H2 ((Exc.of u).trans (x.trans (Exc.of s2))) (CtxAt.same ct s2) num⟩
   . exact k.2 t ht a' d H' ((Exc.of u).trans x) ct ed
end
noncomputable abbrev C1q:Stmt:=(top 58)
section
variable{P:Program}{w:World}{K:Frag}{mg:Str ->Option Value}{base:Heap}
noncomputable def U9f (K:Frag):Sp:=fun vs H Q _=>∃a ns k,vs=[.ref a,.int k]/\SqL K H a ((ns:List Int).map V.int)/\0<=k/\∀i,Q (.int i) H
theorem Z4c:FnScope ["_law_script","_law_k"] ["_law_script","_law_k"] (A1 C1q):=scK
theorem Y6j(D:Def K mg "_law_cell_at" ["_law_script","_law_k"] C1q f fd)(O:Own mg):FnOk P w K mg base (CX1 P w) 1 f fd ["_law_script","_law_k"] (U9f K):=by
 refine FnOk.up (D.F.ok Z4c (fun vs H Q E h=>?_) (fun cdv A outer s H vs Q E hr h=>?_))
 . obtain⟨a,ns,k,rfl,_⟩:=h
   rfl
 . obtain⟨a,ns,i,rfl,hs,h0,k⟩:=h
   refine⟨_,(B0 (J0 (D5 C1z (pv 1) (V3 D1r (by rfl) O.len_ PySem.boot_len (A0 (pv 0) A7)) (D4 _)) (B5 (C7 (U6 A1g (pv 0) (pv 1) (fun _ _=>rfl)))) D7)
     (B5 (C7 A3))),?_⟩
   refine⟨_,rfl,_,rfl,a,_,rfl,.inl hs,_,_,rfl,rfl,_,rfl,?_⟩
   refine Y5 (fun hlt=>?_) (fun _=>k 0)
   rw[List.length_map] at hlt
   obtain⟨j,rfl⟩:=Int.eq_ofNat_of_zero_le h0
   have hj:j<ns.length:=by omega
   exact⟨_,rfl,_,rfl,a,_,_,_,rfl,rfl,hs,D9 (v:=V.int ns[j]) (by simp[hj]),k _⟩
end
noncomputable abbrev A8t:Stmt:=(top 59)
section
variable{P:Program}{w:World}{K:Frag}{mg:Str ->Option Value}{base:Heap}
noncomputable def D1u:Sp:=fun vs H Q _=>∃c k,vs=[.int c,.int k]/\0<=k/\k<=100/\∀m,0<=m ->m<2147483629 ->Q (.int m) H
theorem Y5c:FnScope ["_law_cell","_law_k"] ["_law_cell","_law_k"] (A1 A8t):=scK
theorem U8h(D:Def K mg "_law_mixed" ["_law_cell","_law_k"] A8t f fd):FnOk P w K mg base (CX1 P w) 1 f fd ["_law_cell","_law_k"] D1u:=by
 refine FnOk.up (D.F.ok Y5c (fun vs H Q E h=>?_) (fun cdv A outer s H vs Q E hr h=>?_))
 . obtain⟨c,k,rfl,_⟩:=h
   rfl
 . obtain⟨c,i,rfl,h0,h1,k⟩:=h
   refine⟨_,(B5 (C7 (B9 U0 (B9 U3 (B9 U0 (B9 V2 (B9 V2 (B9 U3 (pv 0) (B9 V2 A3 (B9 U3 (B9 U3 A3 (pv 1)) (pv 1)))) (B9 U3 A3 (pv 1))) A3) A3) A3) A3))),?_⟩
   have q0:(0:Int)<=2*i*i:=Int.mul_nonneg (by omega) h0
   have q1:2*i*i<=200*100:=Int.mul_le_mul (by omega) h1 h0 (by decide)
   have m1:IntMulOk 2 i:=CMul.ok (.inl ⟨by decide,by decide⟩)
   have m2:IntMulOk (2*i) i:=CMul.ok (.inr ⟨by omega,by omega⟩)
   have m3:IntMulOk c (48271+2*i*i):=CMul.ok (.inr ⟨by omega,by omega⟩)
   have m4:IntMulOk 69621 i:=CMul.ok (.inl ⟨by decide,by decide⟩)
   have m5:∀z:Int,IntMulOk z 69621:=fun z=>CMul.ok (.inr ⟨by decide,by decide⟩)
   refine⟨_,rfl,_,rfl,_,_,rfl,rfl,m1,_,rfl,_,_,rfl,rfl,m2,_,_,rfl,rfl,_,_,rfl,rfl,m3,_,rfl,_,_,rfl,rfl,m4,_,_,rfl,rfl,_,_,rfl,rfl,_,_,rfl,rfl,(by show(0:Int)<2147483647;decide),_,_,rfl,rfl,m5 _,_,_,rfl,rfl,(by show(0:Int)<2147483629;decide),?_⟩
   exact k _ (Int.emod_nonneg _ (by decide)) (Int.emod_lt_of_pos _ (by decide))
end
noncomputable abbrev B5k:Stmt:=(top 65)
section
variable{P:Program}{w:World}{K:Frag}{mg:Str ->Option Value}{base:Heap}
noncomputable def D2e:Sp:=fun vs H Q _=>∃n:Nat,vs=[.int (n:Int)]/\n<=600/\Q (.int ((10^n:Nat):Int)) H
theorem Z2h:FnScope ["_law_count"] ["_law_count"] (A1 B5k):=scK
theorem Y4j(D:Def K mg "_law_ten" ["_law_count"] B5k f fd)(O:Own mg):FnOk P w K mg base (CX1 P w) 1 f fd ["_law_count"] D2e:=by
 refine FnOk.up (D.F.ok Z2h (fun vs H Q E h=>?_) (fun cdv A outer s H vs Q E hr h=>?_))
 . obtain⟨n,rfl,_⟩:=h
   rfl
 . obtain⟨n,rfl,hn,k⟩:=h
   refine⟨_,(B5 (C7 (J9 C6p (by rfl) O.int_ boot_int (A0 (B9 G6r C9 (B9 G7t C9 (pv 0))) A7)))),?_⟩
   have l1:("1":Str).length=1:=by decide+kernel
   have l0:("0":Str).length=1:=by decide+kernel
   refine⟨_,rfl,_,_,rfl,rfl,by omega,by omega,D6 (by rw[l0];omega),_,_,rfl,rfl,D6 (by rw[C2s,l0,l1];omega),?_⟩
   exact⟨U1p n,_,rfl,U8z n hn,by rw[G2t];omega,k⟩
end
noncomputable abbrev B3n:Stmt:=(top 63)
noncomputable abbrev A5n:Stmt:=(top 64)
theorem G7r(n:Nat):∃j:Nat,(Nat.toDigits 10 n).length=j+1/\(Nat.toDigits 10 n)[j]?=some (Nat.digitChar (n % 10)):=by
 by_cases h:n<10
 . rw[Nat.toDigits_of_lt_base h]
   exact⟨0,rfl,by rw[Nat.mod_eq_of_lt h];rfl⟩
 . rw[Nat.toDigits_of_base_le (by decide) (by omega)]
   exact⟨(Nat.toDigits 10 (n/10)).length,by simp,by simp⟩
theorem J8q(n:Nat):atI (Str.ofString (toString (n:Int))).cps.toList (-1)=some (Nat.digitChar (n % 10)).toNat:=by
 obtain⟨j,hl,hj⟩:=G7r n
 rw[KIN.signs_num]
 unfold atI ixN
 rw[List.length_map,hl,if_neg (by decide),if_pos (by omega)]
 show((Nat.toDigits 10 n).map Char.toNat)[((-1:Int)+((j+1:Nat):Int)).toNat]?=_
 rw[show((-1:Int)+((j+1:Nat):Int)).toNat=j by omega,List.getElem?_map,hj]
 rfl
theorem in05(d:Nat)(h:d<10):(!(Builtin.Str.occurrences ("05":Str) ⟨#[(Nat.digitChar d).toNat]⟩ 0 ("05":Str).length 1).isEmpty)=(d==0||d==5):=by
 rcases(by omega:d=0\/d=1\/d=2\/d=3\/d=4\/d=5\/d=6\/d=7\/d=8\/d=9) with rfl|rfl|rfl|rfl|rfl|rfl|rfl|rfl|rfl|rfl<;>decide+kernel
section
variable{P:Program}{w:World}{K:Frag}{mg:Str ->Option Value}{base:Heap}
noncomputable def Wy.code:Wy ->Nat
 | .down=>0
 | .up=>1
 | .floor=>2
 | .ceiling=>3
 | .halfUp=>4
 | .halfDown=>5
 | .halfEven=>6
 | .fiveUp=>7
theorem nW{y z:Wy}(h:y.code≠z.code):¬V.str y.name=V.str z.name:=fun q=>h (by rw[Wy.inj (V.str.inj q)])
theorem eqI(a b:Int):eqV (.int a) (.int b)=decide (b=a):=by
 show(a==b)=_
 by_cases h:a=b
 . subst h;simp
 . rw[decide_eq_false (Ne.symm h)];simpa using h
noncomputable def J7w:Sp:=fun vs H Q _=>∃(y:Wy) (s t:Int) (n:Nat),vs=[.str y.name,.int s,.int (n:Int),.int t]/\n<2^300/\1<=t/\t<=3/\∀H',Same H H' ->Q (.bl (y.goes s ((n:Int) % 10) t)) H'
theorem Y6e:FnScope ["_law_name","_law_sign","_law_near","_law_part"] ["_law_name","_law_sign","_law_near","_law_part"] (A1 B3n):=scK
theorem V0v(D:Def K mg "_law_goes_up" ["_law_name","_law_sign","_law_near","_law_part"] B3n f fd)(O:Own mg):FnOk P w K mg base (CX1 P w) 1 f fd ["_law_name","_law_sign","_law_near","_law_part"] J7w:=by
 refine FnOk.up (D.F.ok Y6e (fun vs H Q E h=>?_) (fun cdv A outer s H vs Q E hr h=>?_))
 . obtain⟨y,z,t,n,rfl,_⟩:=h
   rfl
 . obtain⟨y,z,t,n,rfl,hn,t1,t3,k⟩:=h
   refine⟨_,(B0 (J0 (D5 A4k (pv 0) (V4 (A0 C9 (A0 C9 A7))) (by rfl)) (B5 (C7 (G9 U2 (pv 0) C9 (D4 _)))) D7)
     (B0 (J0 (D5 U2 (pv 0) C9 (D4 _)) (B5 (C7 (G9 U2 (pv 1) A3 (D4 _)))) D7)
     (B0 (J0 (D5 U2 (pv 0) C9 (D4 _)) (B5 (C7 (G9 U2 (pv 1) A3 (D4 _)))) D7)
     (B0 (J0 (D5 U2 (pv 0) C9 (D4 _)) (B5 (C7 (G9 U2a (U6 U8n (J9 Y7 (by rfl) O.str_ boot_str (A0 (pv 2) A7)) (D0p B6m A3) (fun _ _=>rfl)) C9 (by rfl)))) D7)
     (B0 (J0 (D5 C1k (pv 3) A3 (D4 _)) (B5 (C7 (G9 U2 (pv 3) A3 (D4 _)))) D7)
     (B5 (C7 (U7v (G9 U2 (pv 0) C9 (D4 _)) (A0y (A8n (G9 U2 (pv 0) C9 (D4 _)) (A0y (G9 U2 (B9 U0 (pv 2) A3) A3 (D4 _))))))))))))),?_⟩
   have z2:2<=sizeLine:=D6 (by decide)
   refine⟨_,rfl,z2,fun p np=>⟨p,_,rfl,.inr (SqT.of A9),rfl,rfl,_,rfl,?_⟩⟩
   have u:=Same.upd (o:= .tup [.str "down",.str "up"]) np
   have k:=k _ u
   generalize upd H p (.tup [.str "down",.str "up"])=H1 at u k
   have rest:∀b:Bool,y.goes z ((n:Int) % 10) t=b ->Q (.bl b) H1:=fun b e=>by rw[<-e];exact k
   cases y with
   | down=>
     show if(inV (.str (Wy.name .down)) [.str "down",.str "up"])=true then _ else _
     rw[show inV (.str (Wy.name .down)) [.str "down",.str "up"]=true by decide+kernel]
     exact Z2 ⟨_,rfl,rfl,k⟩
   | up=>
     show if(inV (.str (Wy.name .up)) [.str "down",.str "up"])=true then _ else _
     rw[show inV (.str (Wy.name .up)) [.str "down",.str "up"]=true by decide+kernel]
     exact Z2 ⟨_,rfl,rfl,k⟩
   | floor=>
     show if(inV (.str (Wy.name .floor)) [.str "down",.str "up"])=true then _ else _
     rw[show inV (.str (Wy.name .floor)) [.str "down",.str "up"]=false by decide+kernel]
     exact U5 ⟨_,rfl,rfl,_,rfl,A1p rfl ⟨_,rfl,rfl,k⟩⟩
   | ceiling=>
     show if(inV (.str (Wy.name .ceiling)) [.str "down",.str "up"])=true then _ else _
     rw[show inV (.str (Wy.name .ceiling)) [.str "down",.str "up"]=false by decide+kernel]
     exact U5 ⟨_,rfl,rfl,_,rfl,V8 (nW (y:= .ceiling) (z:= .floor) (by decide)) ⟨_,rfl,rfl,_,rfl,A1p rfl ⟨_,rfl,rfl,k⟩⟩⟩
   | halfUp=>
     show if(inV (.str (Wy.name .halfUp)) [.str "down",.str "up"])=true then _ else _
     rw[show inV (.str (Wy.name .halfUp)) [.str "down",.str "up"]=false by decide+kernel]
     refine U5 ⟨_,rfl,rfl,_,rfl,V8 (nW (y:= .halfUp) (z:= .floor) (by decide)) ⟨_,rfl,rfl,_,rfl,V8 (nW (y:= .halfUp) (z:= .ceiling) (by decide)) ⟨_,rfl,rfl,_,rfl,V8 (nW (y:= .halfUp) (z:= .fiveUp) (by decide)) ⟨_,rfl,rfl,_,rfl,?_⟩⟩⟩⟩
     by_cases e:t=2
     . rw[decide_eq_true (congrArg V.int e)]
       exact U5 ⟨_,rfl,rfl,_,rfl,A1p rfl (rest _ (by subst e;rfl))⟩
     . rw[decide_eq_false (fun q=>e (by injection q):¬V.int t=V.int 2)]
       refine Z2 ⟨_,rfl,rfl,rest _ ?_⟩
       rcases(by omega:t=1\/t=3) with rfl|rfl<;>rfl
   | halfDown=>
     show if(inV (.str (Wy.name .halfDown)) [.str "down",.str "up"])=true then _ else _
     rw[show inV (.str (Wy.name .halfDown)) [.str "down",.str "up"]=false by decide+kernel]
     refine U5 ⟨_,rfl,rfl,_,rfl,V8 (nW (y:= .halfDown) (z:= .floor) (by decide)) ⟨_,rfl,rfl,_,rfl,V8 (nW (y:= .halfDown) (z:= .ceiling) (by decide)) ⟨_,rfl,rfl,_,rfl,V8 (nW (y:= .halfDown) (z:= .fiveUp) (by decide)) ⟨_,rfl,rfl,_,rfl,?_⟩⟩⟩⟩
     by_cases e:t=2
     . rw[decide_eq_true (congrArg V.int e)]
       exact U5 ⟨_,rfl,rfl,_,rfl,V8 (nW (y:= .halfDown) (z:= .halfUp) (by decide)) ⟨_,rfl,rfl,_,rfl,V8 (nW (y:= .halfDown) (z:= .halfEven) (by decide)) (rest _ (by subst e;rfl))⟩⟩
     . rw[decide_eq_false (fun q=>e (by injection q):¬V.int t=V.int 2)]
       refine Z2 ⟨_,rfl,rfl,rest _ ?_⟩
       rcases(by omega:t=1\/t=3) with rfl|rfl<;>rfl
   | halfEven=>
     show if(inV (.str (Wy.name .halfEven)) [.str "down",.str "up"])=true then _ else _
     rw[show inV (.str (Wy.name .halfEven)) [.str "down",.str "up"]=false by decide+kernel]
     refine U5 ⟨_,rfl,rfl,_,rfl,V8 (nW (y:= .halfEven) (z:= .floor) (by decide)) ⟨_,rfl,rfl,_,rfl,V8 (nW (y:= .halfEven) (z:= .ceiling) (by decide)) ⟨_,rfl,rfl,_,rfl,V8 (nW (y:= .halfEven) (z:= .fiveUp) (by decide)) ⟨_,rfl,rfl,_,rfl,?_⟩⟩⟩⟩
     by_cases e:t=2
     . rw[decide_eq_true (congrArg V.int e)]
       exact U5 ⟨_,rfl,rfl,_,rfl,V8 (nW (y:= .halfEven) (z:= .halfUp) (by decide)) ⟨_,rfl,rfl,_,rfl,A1p rfl ⟨_,rfl,_,_,rfl,rfl,(by decide:(0:Int)<2),rfl,rest _ (by subst e;show decide (V.int ((n:Int) % 10 % 2)=V.int 1)=_;rw[show(n:Int) % 10 % 2=(n:Int) % 2 by omega])⟩⟩⟩
     . rw[decide_eq_false (fun q=>e (by injection q):¬V.int t=V.int 2)]
       refine Z2 ⟨_,rfl,rfl,rest _ ?_⟩
       rcases(by omega:t=1\/t=3) with rfl|rfl<;>rfl
   | fiveUp=>
     show if(inV (.str (Wy.name .fiveUp)) [.str "down",.str "up"])=true then _ else _
     rw[show inV (.str (Wy.name .fiveUp)) [.str "down",.str "up"]=false by decide+kernel]
     have lg:((n:Int)).natAbs.log2<1920:=Nat.lt_trans (A2z (i:=(n:Int)) (k:=300) (by rw[Int.natAbs_natCast];exact hn) (by decide)) (by decide)
     refine U5 ⟨_,rfl,rfl,_,rfl,V8 (nW (y:= .fiveUp) (z:= .floor) (by decide)) ⟨_,rfl,rfl,_,rfl,V8 (nW (y:= .fiveUp) (z:= .ceiling) (by decide)) ⟨_,rfl,rfl,_,rfl,A1p rfl ?_⟩⟩⟩
     refine⟨_,rfl,_,rfl,lg,_,rfl,_,_,_,rfl,rfl,int_text_fits lg,J8q n,_,_,rfl,rfl,?_⟩
     rw[in05 (n % 10) (by omega)]
     refine rest _ ?_
     show(eqV (.int 0) (.int ((n:Int) % 10))||(eqV (.int 5) (.int ((n:Int) % 10))||false))=_
     rw[eqI,eqI,Bool.or_false]
     have e0:decide ((n:Int) % 10=0)=(n % 10==0):=by
       by_cases h:n % 10=0
       . rw[decide_eq_true (by omega)];simp[h]
       . rw[decide_eq_false (by omega)];simpa using h
     have e5:decide ((n:Int) % 10=5)=(n % 10==5):=by
       by_cases h:n % 10=5
       . rw[decide_eq_true (by omega)];simp[h]
       . rw[decide_eq_false (by omega)];simpa using h
     rw[e0,e5]
noncomputable def G3d:Sp:=fun vs H Q _=>∃(y:Wy) (s:Int),vs=[.str y.name,.int s]/\0<=s/\s<=1/\∀H',Same H H' ->Q (.bl (y.toEnd s)) H'
theorem U9y:FnScope ["_law_name","_law_sign"] ["_law_name","_law_sign"] (A1 A5n):=scK
theorem U0q(D:Def K mg "_law_to_end" ["_law_name","_law_sign"] A5n f fd):FnOk P w K mg base (CX1 P w) 1 f fd ["_law_name","_law_sign"] G3d:=by
 refine FnOk.up (D.F.ok U9y (fun vs H Q E h=>?_) (fun cdv A outer s H vs Q E hr h=>?_))
 . obtain⟨y,z,rfl,_⟩:=h
   rfl
 . obtain⟨y,z,rfl,z0,z1,k⟩:=h
   refine⟨_,(B0 (J0 (D5 A4k (pv 0) (V4 (A0 C9 (A0 C9 A7))) (by rfl)) (B5 (C7 A0j)) D7)
     (B5 (C7 (G8f (U7v (A8n (G9 U2 (pv 0) C9 (D4 _)) (A0y (G9 U2 (pv 1) A3 (D4 _)))) (A0y (A8n (G9 U2 (pv 0) C9 (D4 _)) (A0y (G9 U2 (pv 1) A3 (D4 _)))))))))),?_⟩
   have z2:2<=sizeLine:=D6 (by decide)
   refine⟨_,rfl,z2,fun p np=>⟨p,_,rfl,.inr (SqT.of A9),rfl,rfl,_,rfl,?_⟩⟩
   have u:=Same.upd (o:= .tup [.str "down",.str "five up"]) np
   have k:=k _ u
   generalize upd H p (.tup [.str "down",.str "five up"])=H1 at u k
   have rest:∀b:Bool,y.toEnd z=b ->Q (.bl b) H1:=fun b e=>by rw[<-e];exact k
   cases y with
   | down=>
     show if(inV (.str (Wy.name .down)) [.str "down",.str "five up"])=true then _ else _
     rw[show inV (.str (Wy.name .down)) [.str "down",.str "five up"]=true by decide+kernel]
     exact Z2 k
   | up=>
     show if(inV (.str (Wy.name .up)) [.str "down",.str "five up"])=true then _ else _
     rw[show inV (.str (Wy.name .up)) [.str "down",.str "five up"]=false by decide+kernel]
     exact U5 ⟨_,rfl,rfl,_,rfl,V8 (nW (y:= .up) (z:= .floor) (by decide)) ⟨_,rfl,U5 ⟨_,rfl,rfl,_,rfl,V8 (nW (y:= .up) (z:= .ceiling) (by decide)) ⟨_,rfl,rest _ rfl⟩⟩⟩⟩
   | floor=>
     show if(inV (.str (Wy.name .floor)) [.str "down",.str "five up"])=true then _ else _
     rw[show inV (.str (Wy.name .floor)) [.str "down",.str "five up"]=false by decide+kernel]
     rcases(by omega:z=0\/z=1) with rfl|rfl
     . exact U5 ⟨_,rfl,rfl,_,rfl,A1p rfl ⟨_,rfl,rfl,_,rfl,A1p rfl ⟨_,rfl,rest _ (by decide+kernel)⟩⟩⟩
     . exact U5 ⟨_,rfl,rfl,_,rfl,A1p rfl ⟨_,rfl,rfl,_,rfl,V8 (by decide) ⟨_,rfl,rfl,_,rfl,V8 (nW (y:= .floor) (z:= .ceiling) (by decide)) ⟨_,rfl,rest _ (by decide+kernel)⟩⟩⟩⟩
   | ceiling=>
     show if(inV (.str (Wy.name .ceiling)) [.str "down",.str "five up"])=true then _ else _
     rw[show inV (.str (Wy.name .ceiling)) [.str "down",.str "five up"]=false by decide+kernel]
     rcases(by omega:z=0\/z=1) with rfl|rfl
     . exact U5 ⟨_,rfl,rfl,_,rfl,V8 (nW (y:= .ceiling) (z:= .floor) (by decide)) ⟨_,rfl,U5 ⟨_,rfl,rfl,_,rfl,A1p rfl ⟨_,rfl,rfl,_,rfl,rest _ (by decide+kernel)⟩⟩⟩⟩
     . exact U5 ⟨_,rfl,rfl,_,rfl,V8 (nW (y:= .ceiling) (z:= .floor) (by decide)) ⟨_,rfl,U5 ⟨_,rfl,rfl,_,rfl,A1p rfl ⟨_,rfl,rfl,_,rfl,rest _ (by decide+kernel)⟩⟩⟩⟩
   | halfUp=>
     show if(inV (.str (Wy.name .halfUp)) [.str "down",.str "five up"])=true then _ else _
     rw[show inV (.str (Wy.name .halfUp)) [.str "down",.str "five up"]=false by decide+kernel]
     exact U5 ⟨_,rfl,rfl,_,rfl,V8 (nW (y:= .halfUp) (z:= .floor) (by decide)) ⟨_,rfl,U5 ⟨_,rfl,rfl,_,rfl,V8 (nW (y:= .halfUp) (z:= .ceiling) (by decide)) ⟨_,rfl,rest _ rfl⟩⟩⟩⟩
   | halfDown=>
     show if(inV (.str (Wy.name .halfDown)) [.str "down",.str "five up"])=true then _ else _
     rw[show inV (.str (Wy.name .halfDown)) [.str "down",.str "five up"]=false by decide+kernel]
     exact U5 ⟨_,rfl,rfl,_,rfl,V8 (nW (y:= .halfDown) (z:= .floor) (by decide)) ⟨_,rfl,U5 ⟨_,rfl,rfl,_,rfl,V8 (nW (y:= .halfDown) (z:= .ceiling) (by decide)) ⟨_,rfl,rest _ rfl⟩⟩⟩⟩
   | halfEven=>
     show if(inV (.str (Wy.name .halfEven)) [.str "down",.str "five up"])=true then _ else _
     rw[show inV (.str (Wy.name .halfEven)) [.str "down",.str "five up"]=false by decide+kernel]
     exact U5 ⟨_,rfl,rfl,_,rfl,V8 (nW (y:= .halfEven) (z:= .floor) (by decide)) ⟨_,rfl,U5 ⟨_,rfl,rfl,_,rfl,V8 (nW (y:= .halfEven) (z:= .ceiling) (by decide)) ⟨_,rfl,rest _ rfl⟩⟩⟩⟩
   | fiveUp=>
     show if(inV (.str (Wy.name .fiveUp)) [.str "down",.str "five up"])=true then _ else _
     rw[show inV (.str (Wy.name .fiveUp)) [.str "down",.str "five up"]=true by decide+kernel]
     exact Z2 k
end
noncomputable abbrev B3g:Stmt:=(top 60)
section
variable{P:Program}{w:World}{K:Frag}{mg:Str ->Option Value}{base:Heap}
noncomputable def allWy:List Wy:=[.down,.up,.floor,.ceiling,.halfUp,.halfDown,.halfEven,.fiveUp]
noncomputable def G7d:List V:=allWy.map fun y=>V.str y.name
noncomputable def J8j:Sp:=fun vs H Q _=>vs=[]/\∀l,H l=none ->Q (.ref l) (upd H l (.lst G7d))
theorem Y6w:FnScope [] [] (A1 B3g):=scK
theorem U8j(D:Def K mg "_law_names" [] B3g f fd):FnOk P w K mg base (CX1 P w) 1 f fd [] J8j:=by
 refine FnOk.up (D.F.ok Y6w (fun vs H Q E h=>?_) (fun cdv A outer s H vs Q E hr h=>?_))
 . obtain⟨rfl,_⟩:=h
   rfl
 . obtain⟨rfl,k⟩:=h
   refine⟨_,(B5 (C7 (U1 (A0 C9 (A0 C9 (A0 C9 (A0 C9 (A0 C9 (A0 C9 (A0 C9 (A0 C9 A7))))))))))),?_⟩
   exact⟨D6 (by decide),k⟩
end
noncomputable abbrev B3f:Stmt:=(top 66)
section
variable{P:Program}{w:World}{K:Frag}{mg:Str ->Option Value}{base:Heap}
theorem dv{n:Int}(h:0<n)(h2:n.natAbs.log2<9000):(0:Int)<n/\n.natAbs.log2<9000:=⟨h,h2⟩
noncomputable def J8p:Sp:=fun vs H Q _=>∃c,vs=[.int c]/\0<=c/\∀t r y l m H',1<=r ->r<=24 -> -60<=l ->l<=0 ->0<=m ->m<=60 ->Same H H' ->H' t=some (.tup [.int r,.str (Wy.name y),.int l,.int m]) ->Q (.ref t) H'
theorem scDrawn:FnScope ["_law_cell","_law_room","_law_name","_law_more"] ["_law_cell"] (A1 B3f):=scK
theorem U7f{f fN:Addr}{fd fdN:FuncData}(D:Def K mg "_law_drawn_context" ["_law_cell"] B3f f fd)(dA:Def K mg "_law_names" [] B3g fN fdN)(dB:FnOk P w K mg base (CX1 P w) 1 fN fdN [] J8j):FnOk P w K mg base (CX1 P w) 2 f fd ["_law_cell"] J8p:=by
 refine D.F.okE scDrawn (fun vs H Q E h=>?_) (fun X cdv A outer s H vs Q E hX hr hx h=>?_)
 . obtain⟨c,rfl,_⟩:=h
   rfl
 . subst hX
   obtain⟨c,rfl,c0,k⟩:=h
   refine⟨_,(B0 (G0 (i:=1) scDrawn.nd rfl (Or.inl rfl) (U6 A1g (U1 (A0 (B9 V2 A3 (B9 U0 (pv 0) A3)) (A0 (B9 V2 A3 (B9 U0 (pv 0) A3)) (A0 (B9 V2 A3 (B9 U0 (pv 0) A3)) A7)))) (B9 U0 (B9 J1 (pv 0) A3) A3) (fun _ _=>rfl)))
     (B0 (G0 (i:=2) scDrawn.nd rfl (Or.inl rfl) (U6 A1g (C3d dA dB hr hx) (B9 U0 (B9 J1 (pv 0) A3) A3) (fun _ _=>rfl)))
     (B0 (G0 (i:=3) scDrawn.nd rfl (Or.inl rfl) (B9 J1 (pv 0) A3))
     (B0 (J0 (D5 U2 (B9 U0 (pv 3) A3) A3 (D4 _)) (B5 (C7 (V4 (A0 (pv 1) (A0 (pv 2) (A0 (B9 U8 A3 (B9 U0 (B9 J1 (pv 3) A3) A3)) (A0 (B9 U0 (B9 J1 (pv 3) A3) A3) A7))))))) D7)
     (B5 (C7 (V4 (A0 (pv 1) (A0 (pv 2) (A0 (B9 U8 A3 (B9 U0 (B9 J1 (pv 3) A3) A3)) (A0 (B9 U0 (B9 J1 (pv 3) A3) A3) A7))))))))))),?_⟩
   have p24:(0:Int)<24:=by decide
   have p3:(0:Int)<3:=by decide
   have p9:(0:Int)<9:=by decide
   have p8:(0:Int)<8:=by decide
   have p61:(0:Int)<61:=by decide
   have p4:(0:Int)<4:=by decide
   have d24:=dv (n:=24) (by decide) (by decide+kernel)
   have d72:=dv (n:=72) (by decide) (by decide+kernel)
   have d576:=dv (n:=576) (by decide) (by decide+kernel)
   have d3:=dv (n:=3) (by decide) (by decide+kernel)
   have d183:=dv (n:=183) (by decide) (by decide+kernel)
   have d12:=dv (n:=12) (by decide) (by decide+kernel)
   have z3:3<=sizeLine:=D6 (by decide)
   have z4:4<=sizeLine:=D6 (by decide)
   obtain⟨r,hmr,ix1⟩:=ixs (xs:=[1+c % 24,1+c % 3,1+c % 9]) (i:=c/24 % 3) (Int.emod_nonneg _ (by decide)) (by show c/24 % 3<3;exact Int.emod_lt_of_pos _ (by decide))
   obtain⟨nm,hmn,ix2⟩:=ixv (xs:=G7d) (i:=c/72 % 8) (Int.emod_nonneg _ (by decide)) (by show c/72 % 8<8;exact Int.emod_lt_of_pos _ (by decide))
   obtain⟨y,rfl⟩:∃y:Wy,nm= .str y.name:=by
     obtain⟨y,_,e⟩:=List.mem_map.mp hmn
     exact⟨y,e.symm⟩
   have br:1<=r/\r<=24:=by
     simp only[List.mem_cons,List.not_mem_nil,or_false] at hmr
     rcases hmr with rfl|rfl|rfl<;>omega
   refine⟨_,rfl,_,_,rfl,rfl,p24,_,_,rfl,rfl,_,rfl,_,_,rfl,rfl,p3,_,_,rfl,rfl,_,rfl,_,_,rfl,rfl,p9,_,_,rfl,rfl,z3,fun l1 n1=>?_⟩
   refine⟨_,rfl,_,_,rfl,rfl,d24,_,_,rfl,rfl,p3,l1,_,_,_,rfl,rfl,SqL.of A9,ix1,?_⟩
   refine⟨rfl,fun l2 n2=>⟨_,rfl,_,_,rfl,rfl,d72,_,_,rfl,rfl,p8,l2,_,_,_,rfl,rfl,SqL.of A9,ix2,?_⟩⟩
   have s2:=(Same.upd (o:= .lst [.int (1+c % 24),.int (1+c % 3),.int (1+c % 9)]) n1).trans (Same.upd (o:= .lst G7d) n2)
   refine⟨_,rfl,_,_,rfl,rfl,d576,?_⟩
   refine⟨_,rfl,_,_,rfl,rfl,p3,rfl,_,rfl,Y5 (fun _=>?_) (fun _=>?_)⟩
   . refine⟨_,rfl,_,rfl,_,rfl,_,_,rfl,rfl,d3,_,_,rfl,rfl,p61,_,_,rfl,rfl,_,rfl,_,_,rfl,rfl,d183,_,_,rfl,rfl,p61,z4,fun t nt=>?_⟩
     exact k t r y _ _ _ br.1 br.2 (by omega) (by omega) (by omega) (by omega) (s2.trans (Same.upd nt)) A9
   . refine⟨_,rfl,_,rfl,_,rfl,_,_,rfl,rfl,d3,_,_,rfl,rfl,p4,_,_,rfl,rfl,_,rfl,_,_,rfl,rfl,d12,_,_,rfl,rfl,p4,z4,fun t nt=>?_⟩
     exact k t r y _ _ _ br.1 br.2 (by omega) (by omega) (by omega) (by omega) (s2.trans (Same.upd nt)) A9
end
theorem Z2r{a b:Int}(h:0<a)(h2:b<2*a):Z8 a b=3:=by
 unfold Z8
 rw[decide_eq_true h,decide_eq_true (show b<=2*a by omega),decide_eq_true h2]
 rfl
theorem Z2p{a b:Int}(h:0<a)(h2:2*a=b):Z8 a b=2:=by
 unfold Z8
 rw[decide_eq_true h,decide_eq_true (show b<=2*a by omega),decide_eq_false (show¬b<2*a by omega)]
 rfl
theorem Z2n{a b:Int}(h:0<a)(h2:2*a<b):Z8 a b=1:=by
 unfold Z8
 rw[decide_eq_true h,decide_eq_false (show¬b<=2*a by omega),decide_eq_false (show¬b<2*a by omega)]
 rfl
theorem U9m{a b:Int}(h:a=0)(hb:0<b):Z8 a b=0:=by
 subst h
 unfold Z8
 rw[decide_eq_false (show¬(0:Int)<0 by omega),decide_eq_false (show¬b<=2*0 by omega),decide_eq_false (show¬b<2*0 by omega)]
 rfl
inductive Lv where
 |rat (t b n:Int)
 |roo (t n:Int)
noncomputable def B8 (t b:Int):Int:=if t*B7 (-(U9 t-U9 b))<b*B7 (U9 t-U9 b) then U9 t-U9 b-1 else U9 t-U9 b
noncomputable def A0at (t n:Int):Int:=(U9 t-1+n)/2
noncomputable def Lv.L:Lv ->Int
 | .rat t b n=>n+B8 t b
 | .roo t n=>A0at t n
noncomputable def Lv.wh:Lv ->Int ->Int
 | .rat t b n,p=>whI t b (n-p)
 | .roo t n,p=>whQ t (n-2*p)
noncomputable def Lv.pt:Lv ->Int ->Int
 | .rat t b n,p=>ptI t b (n-p)
 | .roo t n,p=>Z9f t (n-2*p) (whQ t (n-2*p))
noncomputable def Lv.In:Lv ->Int ->Prop
 | .rat _ _ n,p=> -1500<=n-p/\n-p<=1500
 | .roo _ n,p=> -200<=n-2*p/\n-2*p<=200
theorem D2z{t:Int}(h:Sz t):B7 (U9 t-1)<=t/\t<B7 (U9 t)/\1<=U9 t:=by
 obtain⟨n,rfl,h1,_⟩:=h.nat
 obtain⟨j,a,b⟩:=D3b n h1
 rw[D2a b a]
 have e1:B7 ((j:Int)+1-1)=((10^j:Nat):Int):=by unfold B7;rw[show((j:Int)+1-1).toNat=j by omega]
 have e2:B7 ((j:Int)+1)=((10^(j+1):Nat):Int):=by unfold B7;rw[show((j:Int)+1).toNat=j+1 by omega]
 rw[e1,e2]
 exact⟨Int.ofNat_le.mpr a,Int.ofNat_lt.mpr b,by omega⟩
section
variable{P:Program}{w:World}{K:Frag}{mg:Str ->Option Value}{base:Heap}
end
theorem D2m{t b:Int}(ht:Sz t)(hb:Sz b)(n:Int):A3n t b (n-(n+B8 t b)):=by
 obtain⟨tn',et,t1,_⟩:=ht.nat
 obtain⟨bn,eb,b1,_⟩:=hb.nat
 obtain⟨L,l1,l2⟩:=D3b tn' t1
 obtain⟨M,m1,m2⟩:=D3b bn b1
 subst et eb
 rw[show n-(n+B8 (tn':Int) (bn:Int))=0-B8 (tn':Int) (bn:Int) by omega]
 unfold B8
 rw[D2a l2 l1,D2a m2 m1,show(L:Int)+1-((M:Int)+1)=(L:Int)-M by omega]
 split
 . rename_i h
   have:=C2r l1 l2 m1 m2 (by rw[show(M:Int)-L= -((L:Int)-M) by omega,Int.neg_neg];exact h)
   rw[show(0:Int)- ((L:Int)-M-1)=(M:Int)-L+1 by omega]
   exact this
 . rename_i h
   have:=C9z l1 l2 m1 m2 (by rw[show(M:Int)-L= -((L:Int)-M) by omega,Int.neg_neg];omega)
   rw[show(0:Int)- ((L:Int)-M)=(M:Int)-L by omega]
   exact this
section
variable{P:Program}{w:World}{K:Frag}{mg:Str ->Option Value}{base:Heap}
end
noncomputable def setL (v:Cv) (s:Int) (lv:Lv) (i:Int):Nm×List Str:=D2q v s (lv.wh (v.fin lv.L)) (lv.pt (v.fin lv.L)) lv.L (v.fin lv.L) i
theorem J9r{t:Int}(h:SzL t):1<=U9 t/\U9 t<=500:=by
 have fb:=D2z h.sz
 refine⟨fb.2.2,?_⟩
 apply Classical.byContradiction
 intro z
 have a:B7 500<=B7 (U9 t-1):=V5 (by omega)
 have:=h.2
 omega
theorem Z4t{v:Cv}{t b n:Int}(ok:v.Ok)(ht:SzL t)(hb:SzL b)(n0: -1300<=n)(n1:n<=1300):(Lv.rat t b n).In (v.fin (n+B8 t b))/\0<=whI t b (n-v.fin (n+B8 t b))/\whI t b (n-v.fin (n+B8 t b))<B7 v.r:=by
 have ft:=J9r ht;have fb:=J9r hb
 have r1:=ok.r1;have r2:=ok.r2;have l1:=ok.l1;have l2:=ok.l2
 have lf: -501<=B8 t b/\B8 t b<=501:=by
   unfold B8
   split<;>omega
 have wr:=J8r (s1:=n-(n+B8 t b)) (s2:=n-v.fin (n+B8 t b)) (r:=v.r) ht.sz hb.sz (D2m ht.sz hb.sz n) r1 (by
   unfold Cv.fin A7z
   split<;>omega)
 refine⟨?_,wr⟩
 show -1500<=n-v.fin (n+B8 t b)/\n-v.fin (n+B8 t b)<=1500
 unfold Cv.fin A7z
 split<;>omega
theorem G2j{a b:Int}(ha:0<=a)(hb:0<=b):B7 (a+b)=B7 a*B7 b:=by
 unfold B7
 rw[show(a+b).toNat=a.toNat+b.toNat by omega,Nat.pow_add]
 exact Int.natCast_mul _ _
noncomputable def Lv.one:Lv ->Int ->Int ->Int
 | .rat _ b n,w,q=>w*b*B7 (q-n)
 | .roo _ n,w,q=>w*w*1*B7 (2*q-n)
noncomputable def Lv.oth:Lv ->Int ->Int
 | .rat t _ n,q=>t*B7 (n-q)
 | .roo t n,q=>t*B7 (n-2*q)
noncomputable def Lv.Ps:Lv ->Prop
 | .rat t b _=>1<=t/\1<=b
 | .roo t _=>1<=t
theorem U8t{lv:Lv}(h:lv.Ps){u:Int}(hu:0<=u)(q:Int):lv.one u q<=lv.oth q↔u<=lv.wh q:=by
 cases lv with
 | rat t b n=>
   have lp:0<b*B7 (-(n-q)):=Int.mul_pos (by have:=h.2;omega) (G5 _)
   show u*b*B7 (q-n)<=t*B7 (n-q)↔u<=t*B7 (n-q)/(b*B7 (-(n-q)))
   rw[Int.le_ediv_iff_mul_le lp,show q-n= -(n-q) by omega,Int.mul_assoc]
 | roo t n=>
   obtain⟨w0,a,b⟩:=U7d (s:=n-2*q) h
   show u*u*1*B7 (2*q-n)<=t*B7 (n-2*q)↔u<=whQ t (n-2*q)
   rw[show 2*q-n= -(n-2*q) by omega,Int.mul_one]
   generalize whQ t (n-2*q)=W at*
   have tp:=G5 (-(n-2*q))
   refine⟨fun z=>Classical.byContradiction fun c=>?_,fun z=>?_⟩
   . have:(W+1)*(W+1)<=u*u:=Int.mul_le_mul (by omega) (by omega) (by omega) hu
     have:(W+1)*(W+1)*B7 (-(n-2*q))<=u*u*B7 (-(n-2*q)):=Int.mul_le_mul_of_nonneg_right this (Int.le_of_lt tp)
     omega
   . have:u*u<=W*W:=Int.mul_le_mul z z hu w0
     have:u*u*B7 (-(n-2*q))<=W*W*B7 (-(n-2*q)):=Int.mul_le_mul_of_nonneg_right this (Int.le_of_lt tp)
     omega
theorem Lv.wh_0{lv:Lv}(h:lv.Ps)(q:Int):0<=lv.wh q:=by
 refine(U8t h (Int.le_refl 0) q).mp ?_
 cases lv with
 | rat t b n=>
   show 0*b*B7 (q-n)<=t*B7 (n-q)
   rw[Int.zero_mul,Int.zero_mul]
   exact Int.mul_nonneg (by have:=h.1;omega) (Int.le_of_lt (G5 _))
 | roo t n=>
   show 0*0*1*B7 (2*q-n)<=t*B7 (n-2*q)
   rw[show(0:Int)*0*1=0 from rfl,Int.zero_mul]
   exact Int.mul_nonneg (by have h:1<=t:=h;omega) (Int.le_of_lt (G5 _))
noncomputable def Lv.mA:Lv ->Int ->Int ->Int
 | .rat _ b n,w,q=>(2*w+1)*(b*B7 (-(n-q)))
 | .roo _ n,w,q=>(2*w+1)*(2*w+1)*B7 (-(n-2*q))
noncomputable def Lv.mB:Lv ->Int ->Int
 | .rat t _ n,q=>2*(t*B7 (n-q))
 | .roo t n,q=>4*(t*B7 (n-2*q))
noncomputable def ptC (a b A B:Int):Int:=if a=b then 0 else 1+(if decide (A<=B)=true then 1 else 0)+(if decide (A<B)=true then 1 else 0)
theorem Z1q{lv:Lv}(h:lv.Ps)(q:Int):lv.pt q=ptC (lv.one (lv.wh q) q) (lv.oth q) (lv.mA (lv.wh q) q) (lv.mB q):=by
 cases lv with
 | rat t b n=>
   have lp:0<b*B7 (-(n-q)):=Int.mul_pos (by have:=h.2;omega) (G5 _)
   have l:=D1x (t:=t) (s:=n-q) (show 0<b by have:=h.2;omega)
   show Z8 (t*B7 (n-q)-whI t b (n-q)*(b*B7 (-(n-q)))) (b*B7 (-(n-q)))=ptC (whI t b (n-q)*b*B7 (q-n)) (t*B7 (n-q)) ((2*whI t b (n-q)+1)*(b*B7 (-(n-q)))) (2*(t*B7 (n-q)))
   have e1:whI t b (n-q)*b*B7 (q-n)=whI t b (n-q)*(b*B7 (-(n-q))):=by rw[show q-n= -(n-q) by omega,Int.mul_assoc]
   have e2:(2*whI t b (n-q)+1)*(b*B7 (-(n-q)))=2*(whI t b (n-q)*(b*B7 (-(n-q))))+b*B7 (-(n-q)):=by rw[Int.add_mul,Int.one_mul,Int.mul_assoc]
   rw[e1,e2]
   generalize whI t b (n-q)*(b*B7 (-(n-q)))=Z at*
   generalize t*B7 (n-q)=T at*
   generalize b*B7 (-(n-q))=U at*
   unfold ptC
   by_cases c:Z=T
   . rw[if_pos c,U9m (by omega) lp]
   . rw[if_neg c]
     rcases(show 2*(T-Z)<U\/2*(T-Z)=U\/U<2*(T-Z) by omega) with d|d|d
     . rw[Z2n (by omega) d,decide_eq_false (by omega),decide_eq_false (by omega)];rfl
     . rw[Z2p (by omega) d,decide_eq_true (by omega),decide_eq_false (by omega)];rfl
     . rw[Z2r (by omega) d,decide_eq_true (by omega),decide_eq_true (by omega)];rfl
 | roo t n=>
   show Z9f t (n-2*q) (whQ t (n-2*q))=ptC (whQ t (n-2*q)*whQ t (n-2*q)*1*B7 (2*q-n)) (t*B7 (n-2*q)) _ _
   rw[Int.mul_one,show 2*q-n= -(n-2*q) by omega]
   rfl
theorem pt_0{lv:Lv}(h:lv.Ps)(q:Int):lv.one (lv.wh q) q=lv.oth q↔lv.pt q=0:=by
 rw[Z1q h]
 unfold ptC
 by_cases c:lv.one (lv.wh q) q=lv.oth q
 . rw[if_pos c];exact⟨fun _=>rfl,fun _=>c⟩
 . rw[if_neg c]
   refine⟨fun z=>absurd z c,fun z=>?_⟩
   split at z<;>split at z<;>omega
theorem A0bc(lv:Lv)(q:Int)(h:lv.Ps):0<=lv.pt q/\lv.pt q<=3:=by
 rw[Z1q h]
 unfold ptC
 split
 . omega
 . split<;>split<;>omega
structure Lv.Ld(lv:Lv)(L:Int):Prop where
 a:1<=lv.wh L
 b:lv.wh L<=9
theorem Z3t{t b n L:Int}(h:(Lv.rat t b n).Ps)(l:A3n t b (n-L)):(Lv.rat t b n).Ld L:=by
 refine⟨(U8t h (by decide) L).mp ?_,Classical.byContradiction fun z=>?_⟩
 . show 1*b*B7 (L-n)<=t*B7 (n-L)
   rw[Int.one_mul,show L-n= -(n-L) by omega]
   exact l.1
 . have:10*b*B7 (L-n)<=t*B7 (n-L):=(U8t h (show(0:Int)<=10 by decide) L).mpr (by omega)
   rw[Int.mul_assoc,show L-n= -(n-L) by omega] at this
   have:=l.2
   omega
theorem Z1x(c:Bool):(0:Int)<=(if c=true then 1 else 0)/\(if c=true then(1:Int) else 0)<=1:=by cases c<;>decide
theorem G2q(i:Int):∀(n:Nat) (f p:Int),f≠0 ->(Y9 i n f p).1≠0
 |0,f,p,h=>h
 | n+1,f,p,h=>by
   unfold Y9
   split
   . exact G2q i n (f/10) (p+1) (by omega)
   . exact h
theorem J8u(i:Int):∀(n:Nat) (f p:Int),0<=f ->0<=(Y9 i n f p).1
 |0,f,p,h=>h
 | n+1,f,p,h=>by
   unfold Y9
   split
   . exact J8u i n (f/10) (p+1) (by omega)
   . exact h
theorem J8n(i:Int):∀(n:Nat) (f p:Int),(Y9 i n f p).1*B7 ((Y9 i n f p).2-p)=f/\p<=(Y9 i n f p).2
 |0,f,p=>⟨by show f*B7 (p-p)=f;rw[G8q (by omega),Int.mul_one],Int.le_refl _⟩
 | n +1,f,p=>by
   unfold Y9
   split
   . rename_i hf
     obtain⟨a,b⟩:=J8n i n (f/10) (p+1)
     refine⟨?_,by omega⟩
     rw[show(Y9 i n (f/10) (p+1)).2-p=1+((Y9 i n (f/10) (p+1)).2-(p+1)) by omega,G2j (by omega) (by omega),show B7 1=10 from rfl,Int.mul_left_comm,a]
     omega
   . exact⟨by show f*B7 (p-p)=f;rw[G8q (by omega),Int.mul_one],Int.le_refl _⟩
structure NearOk(r q U f P:Int):Prop where
 e:f*B7 (P-q)=U
 hq:q<=P
 f0:0<=f
 f1:f<B7 r
 z:U=0 ->f=0/\P=q
 nz:0<U ->0<f
theorem Z1v(y:Wy)(s w pt:Int):w<=upI y s w pt/\upI y s w pt<=w+1/\(pt=0 ->upI y s w pt=w):=by
 unfold upI
 refine⟨?_,?_,fun z=>?_⟩
 . split<;>omega
 . split<;>omega
 . rw[if_pos z,if_neg Bool.false_ne_true]
theorem Z9j{r:Int}(h:1<=r):B7 r=B7 (r-1)*10:=by
 have:=G2j (show 0<=r-1 by omega) (show(0:Int)<=1 by decide)
 rw[show r-1+1=r by omega] at this
 exact this
theorem Y5g{v:Cv}{s w pt q i:Int}(r1:1<=v.r)(w0:0<=w)(w1:w<B7 v.r)(hp:pt=0 ->0<w):NearOk v.r q (upI v.y s w pt) (Z5 v s w pt q i).1 (Z5 v s w pt q i).2:=by
 obtain⟨a,b,c⟩:=Z1v v.y s w pt
 by_cases h:pt=0
 . rw[c h]
   unfold Z5
   rw[if_pos h]
   obtain⟨x,y⟩:=J8n i (i-q).toNat w q
   have z:=G2q i (i-q).toNat w q (by have:=hp h;omega)
   have z0:=J8u i (i-q).toNat w q w0
   have fl:(Y9 i (i-q).toNat w q).1<=w:=by
     have t:=G5 ((Y9 i (i-q).toNat w q).2-q)
     have:(Y9 i (i-q).toNat w q).1*1<=(Y9 i (i-q).toNat w q).1*B7 ((Y9 i (i-q).toNat w q).2-q):=Int.mul_le_mul_of_nonneg_left (by omega) z0
     omega
   exact⟨x,y,z0,by show(Y9 i (i-q).toNat w q).1<_;omega,fun e=>absurd e (by have:=hp h;omega),fun _=>by show 0<(Y9 i (i-q).toNat w q).1;omega⟩
 . unfold Z5
   rw[if_neg h]
   generalize upI v.y s w pt=U at*
   have e:=Z9j r1
   have tp:=G5 (v.r-1)
   unfold B5c
   by_cases g:U=B7 v.r
   . rw[if_pos g]
     refine⟨?_,by show q<=q+1;omega,by show 0<=U/10;omega,by show U/10<B7 v.r;omega,fun z=>by omega,fun z=>by show 0<U/10;omega⟩
     show U/10*B7 (q+1-q)=U
     rw[show q+1-q=1 by omega,show B7 1=10 from rfl]
     omega
   . rw[if_neg g]
     refine⟨?_,Int.le_refl _,by show 0<=U;omega,by show U<B7 v.r;omega,fun z=>⟨z,rfl⟩,fun z=>z⟩
     show U*B7 (q-q)=U
     rw[G8q (by omega),Int.mul_one]
structure SetOk(v:Cv)(s:Int)(lv:Lv):Prop where
 ok:v.Ok
 s0:0<=s
 s1:s<=1
 ps:lv.Ps
 ld:lv.Ld lv.L
 w1:lv.wh (v.fin lv.L)<B7 v.r
theorem SetOk.w0{v:Cv}{s:Int}{lv:Lv}(h:SetOk v s lv):0<=lv.wh (v.fin lv.L):=lv.wh_0 h.ps _
theorem SetOk.hp{v:Cv}{s:Int}{lv:Lv}(h:SetOk v s lv):lv.pt (v.fin lv.L)=0 ->0<lv.wh (v.fin lv.L):=fun z=>by
 rcases(show lv.wh (v.fin lv.L)=0\/0<lv.wh (v.fin lv.L) by have:=h.w0;omega) with e|e
 . exfalso
   have a:=(pt_0 h.ps (v.fin lv.L)).mpr z
   rw[e] at a
   have ps:=h.ps
   cases lv with
   | rat t b n=>
     have q:(0:Int)*b*B7 (v.fin (Lv.L (.rat t b n))-n)=t*B7 (n-v.fin (Lv.L (.rat t b n))):=a
     rw[Int.zero_mul,Int.zero_mul] at q
     have:=Int.mul_pos (show 0<t by have:=ps.1;omega) (G5 (n-v.fin (Lv.L (.rat t b n))))
     omega
   | roo t n=>
     have q:(0:Int)*0*1*B7 (2*v.fin (Lv.L (.roo t n))-n)=t*B7 (n-2*v.fin (Lv.L (.roo t n))):=a
     rw[show(0:Int)*0*1=0 from rfl,Int.zero_mul] at q
     have:=Int.mul_pos (show 0<t by have ps:1<=t:=ps;omega) (G5 (n-2*v.fin (Lv.L (.roo t n))))
     omega
 . exact e
noncomputable def upL (v:Cv) (s:Int) (lv:Lv):Int:=upI v.y s (lv.wh (v.fin lv.L)) (lv.pt (v.fin lv.L))
noncomputable def neL (v:Cv) (s:Int) (lv:Lv) (i:Int):Int×Int:=Z5 v s (lv.wh (v.fin lv.L)) (lv.pt (v.fin lv.L)) (v.fin lv.L) i
theorem SetOk.near{v:Cv}{s:Int}{lv:Lv}(h:SetOk v s lv)(i:Int):NearOk v.r (v.fin lv.L) (upL v s lv) (neL v s lv i).1 (neL v s lv i).2:=Y5g h.ok.r1 h.w0 h.w1 h.hp
theorem SetOk.up0{v:Cv}{s:Int}{lv:Lv}(h:SetOk v s lv):0<=upL v s lv/\upL v s lv<=B7 v.r:=by
 have a:=Z1v v.y s (lv.wh (v.fin lv.L)) (lv.pt (v.fin lv.L))
 have:=h.w0;have:=h.w1
 unfold upL
 omega
theorem Y5d(v:Cv)(s:Int)(lv:Lv)(i:Int):setL v s lv i=if A2k v.m (neL v s lv i).1 (neL v s lv i).2=true then((B6j v s,["burst","off","cut"]):Nm×List Str) else(⟨.plain,s,(neL v s lv i).1,(neL v s lv i).2⟩,A0v (lv.pt (v.fin lv.L)) (decide ((neL v s lv i).2>i))++A0x v.l lv.L (lv.pt (v.fin lv.L))):=rfl
theorem Z3e{v:Cv}(L:Int):v.fin L=(if v.l>L then v.l else L)-v.r+1:=by
 unfold Cv.fin A7z
 split<;>split<;>omega
theorem A0af{v:Cv}(ok:v.Ok)(L:Int):v.l-v.r+1<=v.fin L/\L-v.r+1<=v.fin L/\(v.fin L=v.l-v.r+1\/v.fin L=L-v.r+1):=by
 rw[Z3e]
 split<;>omega
theorem Z9t{f r:Int}(f0:0<f)(f1:f<B7 r)(hr:r<=24):1<=U9 f/\U9 f<=r/\B7 (U9 f-1)<=f/\f<B7 (U9 f):=by
 have f2:f<=10^60-1:=by
   have a:=V5 (show r<=60 by omega)
   have b:B7 60=10^60:=by decide+kernel
   omega
 have b:=D2z (Z4m (by omega) (by omega) f2)
 refine⟨b.2.2,Classical.byContradiction fun z=>?_,b.1,b.2.1⟩
 have:=V5 (show r<=U9 f-1 by omega)
 omega
noncomputable def rdS (zs:List Str):PyData:= .list (zs.map PyData.str)
noncomputable def OkL (zs:List Str):Prop:=zs.length<=100/\∀z∈zs,PyData.strOk z=true
theorem layS:∀{zs:List Str},(∀z∈zs,PyData.strOk z=true) ->PyData.canLayAll0 (zs.map PyData.str)=true/\PyData.depthAll (zs.map PyData.str)<=1
 | [],_=>by simp[PyData.canLayAll0,PyData.depthAll]
 | z ::zs,h=>by
   obtain⟨a,b⟩:=layS (zs:=zs) fun z' h'=>h z' (List.mem_cons_of_mem _ h')
   have c:=h z List.mem_cons_self
   constructor
   . simp[PyData.canLayAll0,PyData.canLay0,c,a]
   . simp only[List.map_cons,PyData.depthAll,PyData.depth]
     omega
theorem shS{zs:List Str}(h:OkL zs):SeqAt.shaped (rdS zs)=true:=by
 obtain⟨a,b⟩:=layS h.2
 unfold SeqAt.shaped rdS
 simp only[PyData.canLay0,PyData.depth,a,Bool.and_true,Bool.and_eq_true,decide_eq_true_eq,List.length_map]
 exact⟨trivial,decide_eq_true (by omega)⟩
theorem Z4n:∀zs:List Str,PyData.eqv (rdS zs) (rdS zs)=true:=by
 have h:∀zs:List Str,PyData.eqvAll (zs.map PyData.str) (zs.map PyData.str)=true:=fun zs=>by
   induction zs with
   |nil=>simp[PyData.eqvAll]
   |cons z zs ih=>simp[PyData.eqvAll,PyData.eqv,ih]
 intro zs
 simp[rdS,PyData.eqv,h]
theorem Z9w{K:Frag}{H:Hp}:∀zs:List Str,RdDs K H (zs.map V.str) (zs.map PyData.str)
 | []=> .nil
 |z::zs=> .cons (.str z) (Z9w zs)
theorem B6h{K:Frag}{H:Hp}{p:Addr}{zs:List Str}(h:H p=some (.lst (zs.map V.str))):RdD K H (.ref p) (rdS zs):= .lst (SqL.of h) (Z9w zs)
theorem Z9m:∀z∈sigS,PyData.strOk z=true:=by decide+kernel
noncomputable def SubS (zs:List Str):Prop:=∃p:Str ->Bool,zs=sigS.filter p
theorem SubS.ok{zs:List Str}(h:SubS zs):OkL zs:=by
 obtain⟨p,rfl⟩:=h
 exact⟨Nat.le_trans (List.length_filter_le _ _) (by decide),fun z hz=>Z9m z (List.mem_filter.mp hz).1⟩
theorem U8f{zs ws:List Str}(h:SubS zs)(e:∀z,z∈ws↔z∈zs):V1 ws=zs:=by
 obtain⟨p,rfl⟩:=h
 unfold V1
 refine List.filter_congr fun z hz=>?_
 rw[Bool.eq_iff_iff,List.contains_iff_mem,e,List.mem_filter]
 simp[hz]
theorem U9z(zs:List Str):SubS (V1 zs):=⟨_,rfl⟩
theorem V0z:V1 []=[]:=U8f ⟨fun _=>false,by simp⟩ (by simp)
noncomputable def B5d (k:Str) (s f p:Int):PyData:= .tuple [.str k,.int s,.int f,.int p]
theorem shD{k:Str}(s f p:Int)(h:PyData.strOk k=true):SeqAt.shaped (B5d k s f p)=true:=by
 unfold SeqAt.shaped B5d
 simp[PyData.canLay0,PyData.canLayAll0,PyData.depth,PyData.depthAll,h]
theorem eqD(k:Str)(s f p:Int):PyData.eqv (B5d k s f p) (B5d k s f p)=true:=by
 simp[B5d,PyData.eqv,PyData.eqvAll]
theorem rdD{K:Frag}{H:Hp}{d:Addr}{k:Str}{s f p:Int}(h:H d=some (.tup [.str k,.int s,.int f,.int p])):RdD K H (.ref d) (B5d k s f p):= .tup (SqT.of h) (.cons (.str _) (.cons (.int _) (.cons (.int _) (.cons (.int _) .nil))))
theorem okK(k:Kd):PyData.strOk k.str=true:=by cases k<;>decide+kernel
structure Own4(K:Frag)(CN:Addr):Prop where
 non:kitOne K (.type "NoneType") (.ref CN)=some false
 int:kitOne K (.type "int") (.ref CN)=some false
 str:kitOne K (.type "str") (.ref CN)=some false
 bl:kitOne K (.type "bool") (.ref CN)=some false
 tup:kitOne K (.type "tuple") (.ref CN)=some false
 lst:kitOne K (.type "list") (.ref CN)=some false
 dic:kitOne K (.type "dict") (.ref CN)=some false
 lt:kitOne K (.type "list") (.type "tuple")=some false
noncomputable abbrev C1s:Stmt:=(top 67)
noncomputable def Cv.vs (v:Cv):List V:=[.int v.r,.str v.y.name,.int v.l,.int v.m]
theorem Same.put{H H':Hp}{l:Addr}{o:HO}(s:Same H H')(n:H l=none):Same H (upd H' l o):=fun z ob hz=>by
 rw[D3 (G2 hz n)]
 exact s _ _ hz
theorem Y5j(s:Int): [V.int (if(0:Int)>s then 0 else s)]++ []=[V.int ((s.toNat:Nat):Int)]:=by rw[Z3u];rfl
section
variable{P:Program}{w:World}{K:Frag}{mg:Str ->Option Value}{base:Heap}
noncomputable def U7g:Sp:=fun vs H Q _=>∃c:Int,vs=[.int c]/\∀t H',1<=t ->t<B7 27 ->Same H H' ->Q (.int t) H'
theorem scLTop:FnScope ["_law_cell","_law_size","_law_more","_law_some"] ["_law_cell"] (A1 C1s):=scK
theorem Y6m(D:Def K mg "_law_top" ["_law_cell"] C1s f fd)(dA:Def K mg "_law_ten" ["_law_count"] B5k f1 fd1)(dB:FnOk P w K mg base (CX1 P w) 1 f1 fd1 ["_law_count"] D2e):FnOk P w K mg base (CX1 P w) 2 f fd ["_law_cell"] U7g:=by
 refine D.F.okE scLTop (fun vs H Q E h=>?_) (fun X cdv A outer s H vs Q E hX hr hx h=>?_)
 . obtain⟨c,rfl,_⟩:=h
   rfl
 . subst hX
   obtain⟨c,rfl,k⟩:=h
   refine⟨_,(B0 (D0 (G0 (i:=1) scLTop.nd rfl (Or.inl rfl) (B9 V2 A3 (B9 U0 (B9 J1 (pv 0) A3) A3))))
     (B0 (D0 (G0 (i:=2) scLTop.nd rfl (Or.inl rfl) (B9 V2 A3 (B9 U0 (B9 J1 (pv 0) A3) A3))))
     (B0 (D0 (G0 (i:=3) scLTop.nd rfl (Or.inl rfl) (U1 (A0 (V0f (B9 U0 (pv 2) A3) (A0y A3)) (A0 (pv 2) (A0 (B9 U3 (pv 2) (D8 dA dB hr hx (A0 (pv 1) A7))) (A0 (B9 U8 (D8 dA dB hr hx (A0 (pv 1) A7)) A3) (A0 (B9 U3 A3 (D8 dA dB hr hx (A0 (pv 1) A7))) (A0 (B9 V2 (B9 U3 (pv 2) A3) A3) A7)))))))))
     (B0 (D0 (Y2 (U9p PySem.F.plainAttrs_list PySem.F.slot_list_append PySem.F.type_list_append B1w (pv 3) (A0 (B9 U8 (B9 V2 (B9 U3 (B9 V2 (B9 U3 A3 (pv 2)) A3) (D8 dA dB hr hx (A0 (pv 1) A7))) (B9 U0 (B9 J1 (pv 0) A3) A3)) A3) A7))))
     (B0 (D0 (Y2 (U9p PySem.F.plainAttrs_list PySem.F.slot_list_append PySem.F.type_list_append B1w (pv 3) (A0 (B9 U3 (B9 U3 (B9 U3 (B9 U3 (pv 2) A3) A3) (B9 V2 (pv 2) A3)) A3) A7))))
     (B5 (C7 (U6 A1g (pv 3) (B9 U0 (pv 0) A3) (fun _ _=>rfl))))))))),?_⟩
   have z6:6<=sizeLine:=D6 (by decide)
   have mC:∀z n:Int, -(2^64)<n ->n<2^64 ->IntMulOk z n:=fun z n a b=>CMul.ok (.inr ⟨a,b⟩)
   have nC:∀n z:Int, -(2^64)<n ->n<2^64 ->IntMulOk n z:=fun n z a b=>CMul.ok (.inl ⟨a,b⟩)
   refine⟨fun σ' H'=>∃z:Int,H'=H/\1<=z/\z<=12/\σ'=[some (.int c),some (.int z),none,none],⟨_,rfl,_,_,rfl,rfl,dv (n:=8) (by decide) (by decide+kernel),_,_,rfl,rfl,(by decide:(0:Int)<12),_,_,rfl,rfl,_,rfl,by omega,by omega,rfl⟩,?_⟩
   rintro σ' H1 ⟨z,rfl,z1,z2,rfl⟩
   refine⟨fun σ' H'=>∃g:Int,H'=H1/\1<=g/\g<=100000/\σ'=[some (.int c),some (.int z),some (.int g),none],⟨_,rfl,_,_,rfl,rfl,dv (n:=96) (by decide) (by decide+kernel),_,_,rfl,rfl,(by decide:(0:Int)<100000),_,_,rfl,rfl,_,rfl,by omega,by omega,rfl⟩,?_⟩
   rintro σ' H2 ⟨g,rfl,g1,g2,rfl⟩
   have t1:B7 1<=B7 z:=V5 z1
   have t2:B7 z<=B7 12:=V5 z2
   have e1:B7 1=10:=rfl
   have e12:B7 12=1000000000000:=by decide+kernel
   have e27:B7 27=1000000000000000000000000000:=by decide+kernel
   rw[e1] at t1
   rw[e12] at t2
   have gt:∀x:Int,1<=x ->x<=1000005 ->10<=x*B7 z/\x*B7 z<=1000005*1000000000000:=fun x a b=>by
     have p:1*10<=x*B7 z:=Int.mul_le_mul a t1 (by decide) (by omega)
     have q:x*B7 z<=1000005*1000000000000:=Int.mul_le_mul b t2 (by omega) (by decide)
     omega
   have tn2: [V.int z]++ []=[V.int ((z.toNat:Nat):Int)]:=by rw[Int.toNat_of_nonneg (by omega)];rfl
   have eT:((10^z.toNat:Nat):Int)=B7 z:=rfl
   refine⟨fun σ' H'=>∃(l:Addr) (xs:List Int),Same H2 H'/\H2 l=none/\H' l=some (.lst (xs.map V.int))/\xs.length=6/\(∀x∈xs,1<=x/\x<B7 27)/\σ'=[some (.int c),some (.int z),some (.int g),some (.ref l)],?_,?_⟩
   . refine⟨_,rfl,_,_,rfl,rfl,(by decide:(0:Int)<10),_,rfl,?_⟩
     have a2:=gt g g1 (by omega)
     by_cases z0:g % 10=0
     . rw[if_pos z0]
       refine⟨_,rfl,_,rfl,_,rfl,z.toNat,tn2,by omega,_,_,rfl,rfl,mC _ _ (by rw[eT];omega) (by rw[eT];omega),_,rfl,z.toNat,tn2,by omega,_,_,rfl,rfl,_,rfl,z.toNat,tn2,by omega,_,_,rfl,rfl,nC _ _ (by decide) (by decide),_,rfl,_,_,rfl,rfl,mC _ _ (by decide) (by decide),_,_,rfl,rfl,z6,fun l nl=>?_⟩
       rw[eT]
       refine⟨l,[1,g,g*B7 z,B7 z-1,5*B7 z,g*10+5],Same.upd nl,nl,A9,rfl,fun x hx=>?_,rfl⟩
       rw[e27]
       simp only[List.mem_cons,List.not_mem_nil,or_false] at hx
       rcases hx with rfl|rfl|rfl|rfl|rfl|rfl<;>omega
     . rw[if_neg z0]
       refine⟨_,rfl,_,rfl,_,rfl,z.toNat,tn2,by omega,_,_,rfl,rfl,mC _ _ (by rw[eT];omega) (by rw[eT];omega),_,rfl,z.toNat,tn2,by omega,_,_,rfl,rfl,_,rfl,z.toNat,tn2,by omega,_,_,rfl,rfl,nC _ _ (by decide) (by decide),_,rfl,_,_,rfl,rfl,mC _ _ (by decide) (by decide),_,_,rfl,rfl,z6,fun l nl=>?_⟩
       rw[eT]
       refine⟨l,[g % 10,g,g*B7 z,B7 z-1,5*B7 z,g*10+5],Same.upd nl,nl,A9,rfl,fun x hx=>?_,rfl⟩
       rw[e27]
       simp only[List.mem_cons,List.not_mem_nil,or_false] at hx
       rcases hx with rfl|rfl|rfl|rfl|rfl|rfl<;>omega
   rintro σ' H3 ⟨l,xs,s3,nl,el,len,all,rfl⟩
   refine⟨fun σ' H'=>∃xs:List Int,Same H2 H'/\H' l=some (.lst (xs.map V.int))/\xs.length=7/\(∀x∈xs,1<=x/\x<B7 27)/\σ'=[some (.int c),some (.int z),some (.int g),some (.ref l)],?_,?_⟩
   . refine⟨_,rfl,.inl ⟨rfl,_,SqL.of el⟩,_,rfl,_,_,rfl,rfl,nC _ _ (by decide) (by decide),_,_,rfl,rfl,_,rfl,z.toNat,tn2,by omega,_,_,rfl,rfl,mC _ _ (by rw[eT];omega) (by rw[eT];omega),_,rfl,_,_,rfl,rfl,dv (n:=7) (by decide) (by decide+kernel),_,_,rfl,rfl,(by decide:(0:Int)<3),_,_,rfl,rfl,_,_,rfl,rfl,l,_,_,rfl,rfl,el,Z1 (by rw[List.length_map,len];decide),?_⟩
     have a2:=gt (10*g+5) (by omega) (by omega)
     refine⟨xs++ [(10*g+5)*B7 z+c/7 % 3-1],Same.put s3 nl,?_,by rw[List.length_append,len];rfl,fun x hx=>?_,rfl⟩
     . rw[A9,List.map_append]
       rfl
     . rcases List.mem_append.mp hx with h|h
       . exact all x h
       . rw[List.mem_singleton.mp h,e27]
         omega
   clear el len all xs s3 H3
   rintro σ' H3 ⟨xs,s3,el,len,all,rfl⟩
   refine⟨fun σ' H'=>∃xs:List Int,Same H2 H'/\H' l=some (.lst (xs.map V.int))/\xs.length=8/\(∀x∈xs,1<=x/\x<B7 27)/\σ'=[some (.int c),some (.int z),some (.int g),some (.ref l)],?_,?_⟩
   . have a3:1<=g*7919*104729*(g+48271)*15485863/\g*7919*104729*(g+48271)*15485863<1000000000000000000000000000:=by
       have p1:1*1<=g*7919*104729*(g+48271):=Int.mul_le_mul (by omega) (by omega) (by decide) (by omega)
       have p2:g*7919*104729*(g+48271)<=82934895100000*148271:=Int.mul_le_mul (by omega) (by omega) (by omega) (by decide)
       omega
     refine⟨_,rfl,.inl ⟨rfl,_,SqL.of el⟩,_,rfl,_,_,rfl,rfl,mC _ _ (by decide) (by decide),_,_,rfl,rfl,mC _ _ (by decide) (by decide),_,rfl,_,_,rfl,rfl,_,_,rfl,rfl,mC _ _ (by omega) (by omega),_,_,rfl,rfl,mC _ _ (by decide) (by decide),l,_,_,rfl,rfl,el,Z1 (by rw[List.length_map,len];decide),?_⟩
     refine⟨xs++ [g*7919*104729*(g+48271)*15485863],Same.put s3 nl,?_,by rw[List.length_append,len];rfl,fun x hx=>?_,rfl⟩
     . rw[A9,List.map_append]
       rfl
     . rcases List.mem_append.mp hx with h|h
       . exact all x h
       . rw[List.mem_singleton.mp h,e27]
         exact a3
   clear el len all xs s3 H3
   rintro σ' H3 ⟨xs,s3,el,len,all,rfl⟩
   obtain⟨t,ht,ix⟩:=ixs (xs:=xs) (i:=c % 8) (Int.emod_nonneg _ (by decide)) (by rw[len];exact Int.emod_lt_of_pos _ (by decide))
   exact⟨_,rfl,_,rfl,_,_,rfl,rfl,(by decide:(0:Int)<8),l,_,_,_,rfl,rfl,SqL.of el,ix,k t H3 (all t ht).1 (all t ht).2 s3⟩
end
theorem Y6g{n:Int}(h:0<=n):∃k:Nat,n=(k:Int)/\((10^k:Nat):Int)=B7 n:=by
 obtain⟨k,rfl⟩:=Int.eq_ofNat_of_zero_le h
 exact⟨k,rfl,rfl⟩
theorem Z3q{b:Bool}{A B:Prop}(h1:b=true ->A)(h2:b=false ->B):if b=true then A else B:=by
 cases b with
 |true=>exact h1 rfl
 |false=>exact h2 rfl
noncomputable def G8m (b:Bool) (z:Str):List Str:=if b=true then [z] else []
theorem J7z(b:Bool)(z:Str):(List.replicate (if b=true then(1:Int) else 0).toNat [V.str z]).flatten=(G8m b z).map V.str:=by cases b<;>rfl
theorem Z9k{y:Wy}{s w pt:Int}(h:pt≠0):upI y s w pt=w+(if y.goes s (w % 10) pt=true then 1 else 0):=by
 unfold upI
 rw[if_neg h]
 split<;>omega
theorem G7x{u:Int}(h0:0<=u)(h:u<=B7 24):u.natAbs.log2<1920:=by
 have e:B7 24<2^300:=by decide+kernel
 refine Nat.lt_trans (A2z (i:=u) (k:=300) ?_ (by decide)) (by decide)
 have:u<2^300:=by omega
 have:((u.natAbs:Nat):Int)<((2^300:Nat):Int):=by
   rw[Int.natAbs_of_nonneg h0]
   exact this
 exact Int.ofNat_lt.mp this
theorem C0g(b:Bool)(z:V): -(2^63)<=(if b=true then(1:Int) else 0)/\(if b=true then(1:Int) else 0)<2^63/\ [z].length*(if b=true then(1:Int) else 0).toNat<=sizeLine:=by
 cases b
 . exact⟨by decide,by decide,D6 (by simp)⟩
 . exact⟨by decide,by decide,D6 (by simp)⟩
theorem J8c(b:Bool)(z:V):(List.replicate (if b=true then(1:Int) else 0).toNat [z]).flatten.length<=1:=by cases b<;>simp
theorem Z2z(zs:List Str)(f:Str ->Bool):zs.filter f=((List.range zs.length).filter fun i=>f (zs.getD i "")).map fun i=>zs.getD i "":=by
 have e:zs=(List.range zs.length).map fun i=>zs.getD i "":=by
   apply List.ext_getElem
   . simp
   . intro i h1 h2
     simp[h1]
 conv=>lhs;rw[e]
 rw[List.filter_map]
 rfl
theorem Y5v{zs:List Str}{f:Str ->Bool}{ys:List V}(hl:ys.length=((List.range zs.length).filter fun i=>f (zs.getD i "")).length)(h:∀(j i:Nat) (y:V),((List.range zs.length).filter fun i=>f (zs.getD i ""))[j]?=some i ->ys[j]?=some y ->y= .str (zs.getD i "")):
   ys=(zs.filter f).map V.str:=by
 rw[Z2z]
 apply List.ext_getElem
 . simp[hl]
 . intro j h1 h2
   have hj:j<((List.range zs.length).filter fun i=>f (zs.getD i "")).length:=by rw[<-hl];exact h1
   have z:=h j _ ys[j] (List.getElem?_eq_getElem hj) (List.getElem?_eq_getElem h1)
   simp only[List.getElem_map]
   exact z
noncomputable abbrev C3e:Stmt:=(top 61)
noncomputable abbrev G7e:Stmt:=(top 68)
noncomputable abbrev A5h:Stmt:=(top 69)
section
variable{P:Program}{w:World}{K:Frag}{mg:Str ->Option Value}{base:Heap}
noncomputable def U9s:Sp:=fun vs H Q _=>vs=[]/\∀l,H l=none ->Q (.ref l) (upd H l (.lst (sigS.map V.str)))
theorem Z3m:FnScope [] [] (A1 C3e):=scK
theorem Y4g(D:Def K mg "_law_signals" [] C3e f fd):FnOk P w K mg base (CX1 P w) 1 f fd [] U9s:=by
 refine FnOk.up (D.F.ok Z3m (fun vs H Q E h=>?_) (fun cdv A outer s H vs Q E hr h=>?_))
 . obtain⟨rfl,_⟩:=h
   rfl
 . obtain⟨rfl,k⟩:=h
   refine⟨_,(B5 (C7 (U1 (A0 C9 (A0 C9 (A0 C9 (A0 C9 (A0 C9 (A0 C9 (A0 C9 A7)))))))))),?_⟩
   exact⟨D6 (by decide),k⟩
noncomputable def Z1y:Sp:=fun vs H Q _=>∃f p:Int,vs=[.int f,.int p]/\f.natAbs.log2<1920/\Q (.int (U9 f-1+p)) H
theorem A0bh:FnScope ["_law_whole_here","_law_power"] ["_law_whole_here","_law_power"] (A1 G7e):=scK
theorem Z2t(D:Def K mg "_law_lead" ["_law_whole_here","_law_power"] G7e f fd)(O:Own mg):FnOk P w K mg base (CX1 P w) 1 f fd ["_law_whole_here","_law_power"] Z1y:=by
 refine FnOk.up (D.F.ok A0bh (fun vs H Q E h=>?_) (fun cdv A outer s H vs Q E hr h=>?_))
 . obtain⟨f,p,rfl,_⟩:=h
   rfl
 . obtain⟨f,p,rfl,lg,k⟩:=h
   refine⟨_,(B5 (C7 (B9 V2 (B9 U8 (V3 A0f (by rfl) O.len_ PySem.boot_len (A0 (J9 Y7 (by rfl) O.str_ boot_str (A0 (pv 0) A7)) A7)) A3) (pv 1)))),?_⟩
   exact⟨_,rfl,_,rfl,lg,_,rfl,int_text_fits lg,_,_,rfl,rfl,_,rfl,_,_,rfl,rfl,k⟩
end
theorem J9n{t n:Int}(h1:1<=t)(h2:t<B7 n)(hn:n<=400):1<=U9 t/\U9 t<=n:=by
 have b:=D2z (SzL.sz (t:=t) ⟨h1,Int.lt_of_lt_of_le h2 (V5 (by omega))⟩)
 refine⟨b.2.2,Classical.byContradiction fun z=>?_⟩
 have:=V5 (show n<=U9 t-1 by omega)
 omega
structure RatIn(t b n:Int):Prop where
 t1:1<=t
 t2:t<B7 61
 b1:1<=b
 b2:b<B7 11
 n0: -200<=n
 n1:n<=200
theorem RatIn.st{t b n:Int}(h:RatIn t b n):SzL t:=⟨h.t1,Int.lt_of_lt_of_le h.t2 (V5 (by decide))⟩
theorem RatIn.sb{t b n:Int}(h:RatIn t b n):SzL b:=⟨h.b1,Int.lt_of_lt_of_le h.b2 (V5 (by decide))⟩
theorem RatIn.set{t b n:Int}{v:Cv}{s:Int}(h:RatIn t b n)(ok:v.Ok)(s0:0<=s)(s1:s<=1):SetOk v s (.rat t b n):=by
 have n0:=h.n0;have n1:=h.n1
 exact⟨ok,s0,s1,⟨h.t1,h.b1⟩,Z3t ⟨h.t1,h.b1⟩ (D2m h.st.sz h.sb.sz n),(Z4t (v:=v) ok h.st h.sb (n:=n) (by omega) (by omega)).2.2⟩
theorem RatIn.lf{t b n:Int}(h:RatIn t b n): -11<=B8 t b/\B8 t b<=60:=by
 have a:=J9n h.t1 h.t2 (by decide)
 have c:=J9n h.b1 h.b2 (by decide)
 unfold B8
 split<;>omega
noncomputable abbrev stS (pq eq:Addr) (s i:Int) (v:Cv) (t b n:Int) (x11 x12 x13 x14 x15 x16 x17 x18:Option V):L2.St:=[some (.ref pq),some (.int s),some (.ref eq),some (.int i),some (.int v.r),some (.str v.y.name),some (.int v.l),some (.int v.m),some (.int t),some (.int b),some (.int n),x11,x12,x13,x14,x15,x16,x17,x18]
noncomputable def J9s (H:Hp) (q:Addr) (R:Nm×List Str):Prop:=∃tt l,∃zs:List Str,H q=some (.tup [.ref tt,.ref l])/\H tt=some (.tup R.1.vs)/\H l=some (.lst (zs.map V.str))/\(∀z,z∈zs↔z∈R.2)/\zs.length<=4
theorem G3c(b:Bool)(z:Str):(G8m b z).length<=1:=by cases b<;>simp[G8m]
theorem J8f{b:Bool}{z y:Str}:z∈G8m b y↔b=true/\z=y:=by cases b<;>simp[G8m]
theorem Z4d(n:Nat):decide (V.str ⟨#[(Nat.digitChar (n % 10)).toNat]⟩=V.str "0")=decide (n % 10=0):=by
 have h:n % 10<10:=Nat.mod_lt _ (by decide)
 generalize n % 10=d at*
 rcases(by omega:d=0\/d=1\/d=2\/d=3\/d=4\/d=5\/d=6\/d=7\/d=8\/d=9) with rfl|rfl|rfl|rfl|rfl|rfl|rfl|rfl|rfl|rfl<;>decide+kernel
theorem U9w{U r:Int}(u0:0<=U)(u1:U<=B7 r)(r1:1<=r)(r2:r<=24):U9 U>r↔U=B7 r:=by
 have tp:=J9h r1
 rcases(show U=0\/0<U by omega) with e|e
 . rw[e]
   have:U9 0=1:=by decide+kernel
   omega
 . refine⟨fun h=>?_,fun h=>?_⟩
   . refine Classical.byContradiction fun z=>?_
     have:=(Z9t e (show U<B7 r by omega) r2).2.1
     omega
   . have b:=D2z (SzL.sz (t:=U) ⟨e,Int.lt_of_le_of_lt u1 (Int.lt_of_lt_of_le (show B7 r<B7 25 from Int.lt_of_le_of_lt (V5 r2) (by decide+kernel)) (V5 (by decide)))⟩)
     refine Classical.byContradiction fun z=>?_
     have:=V5 (show U9 U<=r by omega)
     omega
noncomputable def Y4x (b:Bool):List Str:=if b=true then ["faint","sunk"] else []
theorem Y5p(b:Bool):(List.replicate (if b=true then(1:Int) else 0).toNat [V.str "faint",V.str "sunk"]).flatten=(Y4x b).map V.str:=by cases b<;>rfl
theorem Y4r(b:Bool)(y z:V):(List.replicate (if b=true then(1:Int) else 0).toNat [y,z]).flatten.length<=2:=by cases b<;>simp
theorem Y5e(b:Bool)(y z:V): [y,z].length*(if b=true then(1:Int) else 0).toNat<=sizeLine:=by
 cases b
 . exact D6 (by simp)
 . exact D6 (by simp)
section
variable{P:Program}{w:World}{K:Frag}{mg:Str ->Option Value}{base:Heap}
noncomputable def G2e:Sp:=fun vs H Q _=>∃pq eq,∃(v:Cv) (s t b n i:Int),vs=[.ref pq,.int s,.ref eq,.int i]/\H pq=some (.tup v.vs)/\v.Ok/\H eq=some (.tup [.int t,.int b,.int n])/\RatIn t b n/\0<=s/\s<=1/\∀q H',Same H H' ->J9s H' q (setL v s (.rat t b n) i) ->Q (.ref q) H'
theorem scLSet12:FnScope ["_law_parts","_law_sign","_law_exact","_law_ideal","_law_room","_law_name","_law_least","_law_most","_law_top_here","_law_bottom","_law_power","_law_first","_law_finest","_law_high","_law_low","_law_whole_here","_law_left","_law_some","_law_part"] ["_law_parts","_law_sign","_law_exact","_law_ideal"] (A1 A5h):=scK
theorem U1q (D :Def K mg "_law_settled" ["_law_parts","_law_sign","_law_exact","_law_ideal"] A5h f fd) (dA:Def K mg "_law_ten" ["_law_count"] B5k f1 fd1) (dB:FnOk P w K mg base (CX1 P w) 1 f1 fd1 ["_law_count"] D2e)
   (dC:Def K mg "_law_goes_up" ["_law_name","_law_sign","_law_near","_law_part"] B3n f2 fd2) (dD:FnOk P w K mg base (CX1 P w) 1 f2 fd2 ["_law_name","_law_sign","_law_near","_law_part"] J7w) (dE:Def K mg "_law_to_end" ["_law_name","_law_sign"] A5n f3 fd3) (dF:FnOk P w K mg base (CX1 P w) 1 f3 fd3 ["_law_name","_law_sign"] G3d)
   (dG:Def K mg "_law_lead" ["_law_whole_here","_law_power"] G7e f4 fd4) (dH:FnOk P w K mg base (CX1 P w) 1 f4 fd4 ["_law_whole_here","_law_power"] Z1y) (O:Own mg):FnOk P w K mg base (CX1 P w) 2 f fd ["_law_parts","_law_sign","_law_exact","_law_ideal"] G2e:=by
 refine D.F.okE scLSet12 (fun vs H Q E h=>?_) (fun X cdv A outer s H vs Q E hX hr hx h=>?_)
 . obtain⟨pq,eq,v,sg,t,b,n,i,rfl,_⟩:=h
   rfl
 . subst hX
   obtain⟨pq,eq,v,sg,t,b,n,i,rfl,ep,ok,ee,ri,s0,s1,k⟩:=h
   refine⟨_,(B0 (D0 (G8d (pv 0) (G6m rfl (A0e (Y3 (i:=4) scLSet12.nd rfl (Or.inl rfl)) (A0e (Y3 (i:=5) scLSet12.nd rfl (Or.inl rfl)) (A0e (Y3 (i:=6) scLSet12.nd rfl (Or.inl rfl)) (A0e (Y3 (i:=7) scLSet12.nd rfl (Or.inl rfl)) D3d)))))))
     (B0 (D0 (G8d (pv 2) (G6m rfl (A0e (Y3 (i:=8) scLSet12.nd rfl (Or.inl rfl)) (A0e (Y3 (i:=9) scLSet12.nd rfl (Or.inl rfl)) (A0e (Y3 (i:=10) scLSet12.nd rfl (Or.inl rfl)) D3d))))))
     (B0 (D0 (G0 (i:=11) scLSet12.nd rfl (Or.inl rfl) (B9 V2 (B9 U8 (V3 A0f (by rfl) O.len_ PySem.boot_len (A0 (J9 Y7 (by rfl) O.str_ boot_str (A0 (pv 8) A7)) A7)) (V3 A0f (by rfl) O.len_ PySem.boot_len (A0 (J9 Y7 (by rfl) O.str_ boot_str (A0 (pv 9) A7)) A7))) (pv 10))))
     (B0 (D0 (J0 (D5 C1z (B9 U3 (pv 8) (D8 dA dB hr hx (A0 (V3 (Z0 rfl) (by rfl) O.max_ boot_max (A0 (B9 U8 (pv 10) (pv 11)) (A0 A3 A7))) A7))) (B9 U3 (pv 9) (D8 dA dB hr hx (A0 (V3 (Z0 rfl) (by rfl) O.max_ boot_max (A0 (B9 U8 (pv 11) (pv 10)) (A0 A3 A7))) A7))) (D4 _)) (B5 (D0 (B3c (i:=11) scLSet12.nd rfl (Or.inl rfl) A3 Z4b))) D7))
     (B0 (D0 (G0 (i:=12) scLSet12.nd rfl (Or.inl rfl) (V3 (Z0 rfl) (by rfl) O.max_ boot_max (A0 (B9 V2 (B9 U8 (pv 11) (pv 4)) A3) (A0 (B9 V2 (B9 U8 (pv 6) (pv 4)) A3) A7)))))
     (B0 (D0 (G0 (i:=13) scLSet12.nd rfl (Or.inl rfl) (B9 U3 (pv 8) (D8 dA dB hr hx (A0 (V3 (Z0 rfl) (by rfl) O.max_ boot_max (A0 (B9 U8 (pv 10) (pv 12)) (A0 A3 A7))) A7)))))
     (B0 (D0 (G0 (i:=14) scLSet12.nd rfl (Or.inl rfl) (B9 U3 (pv 9) (D8 dA dB hr hx (A0 (V3 (Z0 rfl) (by rfl) O.max_ boot_max (A0 (B9 U8 (pv 12) (pv 10)) (A0 A3 A7))) A7)))))
     (B0 (D0 (G0 (i:=15) scLSet12.nd rfl (Or.inl rfl) (B9 J1 (pv 13) (pv 14))))
     (B0 (D0 (G0 (i:=16) scLSet12.nd rfl (Or.inl rfl) (B9 U8 (pv 13) (B9 U3 (pv 15) (pv 14)))))
     (B0 (D0 (G0 (i:=17) scLSet12.nd rfl (Or.inl rfl) (U1 A7)))
     (B0 (D0 (J0 (D5 U2 (pv 16) A3 (D4 _)) (B0 (D0 (B5e PassesOwn.leaving (PW.pt (D1s (D5 C1z (pv 12) (pv 3) (D4 _)) (C1c (D5 U2 (U6 U8n (J9 Y7 (by rfl) O.str_ boot_str (A0 (pv 15) A7)) (D0p B6m A3) (fun _ _=>rfl)) C9 (D4 _))))) (B0 (D0 (G0 (i:=15) scLSet12.nd rfl (Or.inl rfl) (B9 J1 (pv 15) A3)))
     (B5 (D0 (B3c (i:=12) scLSet12.nd rfl (Or.inl rfl) A3 D2s))))))
     (B5 (D0 (G0 (i:=17) scLSet12.nd rfl (Or.inl rfl) (B9 A8q (B9 A5m (U1 (A0 C9 A7)) (J9 Y0 (by rfl) O.int_ boot_int (A0 (G9 C2x (pv 12) (pv 3) (D4 _)) A7))) (B9 A5m (U1 (A0 C9 A7)) (J9 Y0 (by rfl) O.int_ boot_int (A0 (G9 C1z (pv 11) (pv 6) (D4 _)) A7)))))))) (B0 (D0 (G0 (i:=18) scLSet12.nd rfl (Or.inl rfl) (B9 V2 (B9 V2 A3 (J9 Y0 (by rfl) O.int_ boot_int (A0 (G9 J9e (B9 U3 A3 (pv 16)) (pv 14) (D4 _)) A7))) (J9 Y0 (by rfl) O.int_ boot_int (A0 (G9 C2x (B9 U3 A3 (pv 16)) (pv 14) (D4 _)) A7)))))
     (B0 (D0 (B3c (i:=15) scLSet12.nd rfl (Or.inl rfl) (J9 Y0 (by rfl) O.int_ boot_int (A0 (D8 dC dD hr hx (A0 (pv 5) (A0 (pv 1) (A0 (pv 15) (A0 (pv 18) A7))))) A7)) D2s))
     (B0 (D0 (J0 (D5 C2x (V3 A0f (by rfl) O.len_ PySem.boot_len (A0 (J9 Y7 (by rfl) O.str_ boot_str (A0 (pv 15) A7)) A7)) (pv 4) (D4 _)) (B0 (D0 (G0 (i:=15) scLSet12.nd rfl (Or.inl rfl) (B9 J1 (pv 15) A3)))
     (B5 (D0 (B3c (i:=12) scLSet12.nd rfl (Or.inl rfl) A3 D2s)))) D7))
     (B5 (D0 (G0 (i:=17) scLSet12.nd rfl (Or.inl rfl) (B9 A8q (U1 (A0 C9 (A0 C9 A7))) (B9 A5m (U1 (A0 C9 (A0 C9 A7))) (J9 Y0 (by rfl) O.int_ boot_int (A0 (G9 C1z (pv 11) (pv 6) (D4 _)) A7))))))))))))
     (B0 (D0 (J0 (PW.pt (B5b (D5 U2 (pv 15) A3 (D4 _)) (A8c (D5 V0u (D8 dG dH hr hx (A0 (pv 15) (A0 (pv 12) A7))) (pv 7) (D4 _))))) (B5 (C7 (V4 (A0 (V4 (A0 C9 (A0 (pv 1) (A0 (pv 15) (A0 (pv 12) A7))))) (A0 (pv 17) A7))))) D7))
     (B0 (D0 (J0 (Y6 (D8 dE dF hr hx (A0 (pv 5) (A0 (pv 1) A7)))) (B5 (C7 (V4 (A0 (V4 (A0 C9 (A0 (pv 1) (A0 A3 (A0 A3 A7))))) (A0 (U1 (A0 C9 (A0 C9 (A0 C9 A7)))) A7))))) D7))
     (B5 (C7 (V4 (A0 (V4 (A0 C9 (A0 (pv 1) (A0 (B9 U8 (D8 dA dB hr hx (A0 (pv 4) A7)) A3) (A0 (B9 V2 (B9 U8 (pv 7) (pv 4)) A3) A7))))) (A0 (U1 (A0 C9 (A0 C9 (A0 C9 A7)))) A7)))))))))))))))))),?_⟩
   have S:=ri.set (v:=v) ok s0 s1
   have t1:=ri.t1;have b1:=ri.b1;have n0:=ri.n0;have n1:=ri.n1
   have r1:=ok.r1;have r2:=ok.r2;have l1:=ok.l1;have l2:=ok.l2;have m1:=ok.m1;have m2:=ok.m2
   have lt:=ri.st.log
   have lb:=ri.sb.log
   have ht:=ri.st.sz
   have hb:=ri.sb.sz
   have lf:=ri.lf
   have ft:=J9n ri.t1 ri.t2 (by decide)
   have fb:=J9n ri.b1 ri.b2 (by decide)
   have z0:0<=sizeLine:=Nat.zero_le _
   have z1:1<=sizeLine:=D6 (by decide)
   have z2:2<=sizeLine:=D6 (by decide)
   have z3:3<=sizeLine:=D6 (by decide)
   have z4:4<=sizeLine:=D6 (by decide)
   refine⟨fun σ' H'=>H'=H/\σ'=[some (.ref pq),some (.int sg),some (.ref eq),some (.int i),some (.int v.r),some (.str v.y.name),some (.int v.l),some (.int v.m),none,none,none,none,none,none,none,none,none,none,none],⟨_,rfl,pq,_,rfl,SqT.of ep,rfl,_,_,rfl,_,_,rfl,_,_,rfl,_,_,rfl,rfl,rfl,rfl⟩,?_⟩
   rintro σ' H1 ⟨rfl,rfl⟩
   refine⟨fun σ' H'=>H'=H1/\σ'=stS pq eq sg i v t b n none none none none none none none none,⟨_,rfl,eq,_,rfl,SqT.of ee,rfl,_,_,rfl,_,_,rfl,_,_,rfl,rfl,rfl,rfl⟩,?_⟩
   rintro σ' H2 ⟨rfl,rfl⟩
   refine⟨fun σ' H'=>H'=H2/\σ'=stS pq eq sg i v t b n (some (.int (U9 t-U9 b+n))) none none none none none none none,⟨_,rfl,_,rfl,lt,_,rfl,int_text_fits lt,_,rfl,_,rfl,lb,_,rfl,int_text_fits lb,_,_,rfl,rfl,_,rfl,_,_,rfl,rfl,rfl,rfl⟩,?_⟩
   rintro σ' H3 ⟨rfl,rfl⟩
   have e1:n-(U9 t-U9 b+n)= -(U9 t-U9 b):=by omega
   have e2:U9 t-U9 b+n-n=U9 t-U9 b:=by omega
   refine⟨fun σ' H'=>H'=H3/\σ'=stS pq eq sg i v t b n (some (.int (n+B8 t b))) none none none none none none none,?_,?_⟩
   . refine⟨_,rfl,_,rfl,_,rfl,_,_,rfl,rfl,_,_,rfl,(n-(U9 t-U9 b+n)).toNat,Y5j _,by omega,_,_,rfl,rfl,B6e ht (by omega),_,rfl,_,rfl,_,rfl,_,_,rfl,rfl,_,_,rfl,(U9 t-U9 b+n-n).toNat,Y5j _,by omega,_,_,rfl,rfl,B6e hb (by omega),_,_,rfl,rfl,_,rfl,Y5 (fun c=>?_) (fun c=>⟨rfl,?_⟩)⟩
     . have c:t*B7 (n-(U9 t-U9 b+n))<b*B7 (U9 t-U9 b+n-n):=c
       rw[e1,e2] at c
       refine⟨_,?_,fun _ _ h=>h⟩
       refine⟨_,rfl,_,_,rfl,rfl,rfl,?_⟩
       unfold B8
       rw[if_pos c,show n+(U9 t-U9 b-1)=U9 t-U9 b+n-1 by omega]
       rfl
     . have c:¬t*B7 (n-(U9 t-U9 b+n))<b*B7 (U9 t-U9 b+n-n):=c
       rw[e1,e2] at c
       unfold B8
       rw[if_neg c,show n+(U9 t-U9 b)=U9 t-U9 b+n by omega]
   rintro σ' H4 ⟨rfl,rfl⟩
   refine⟨fun σ' H'=>H'=H4/\σ'=stS pq eq sg i v t b n (some (.int (n+B8 t b))) (some (.int (v.fin (n+B8 t b)))) none none none none none none,⟨_,rfl,_,rfl,_,_,rfl,rfl,_,_,rfl,rfl,_,rfl,_,rfl,_,_,rfl,rfl,_,_,rfl,rfl,_,_,rfl,rfl,rfl⟩,?_⟩
   rintro σ' H5 ⟨rfl,rfl⟩
   have fb':=A0af ok (n+B8 t b)
   have w0:=S.w0
   have w1:=S.w1
   have nr:=S.near i
   have u0:=S.up0
   have sle:=Y5d v sg (.rat t b n) i
   have p0':=pt_0 S.ps (v.fin (n+B8 t b))
   have pti:=A0bc (.rat t b n) (v.fin (n+B8 t b)) S.ps
   have eqn:v.fin (n+B8 t b)-n= -(n-v.fin (n+B8 t b)):=by omega
   have n600:n-v.fin (n+B8 t b)<=600/\ -(n-v.fin (n+B8 t b))<=600:=by omega
   refine⟨fun σ' H'=>H'=H5/\σ'=stS pq eq sg i v t b n (some (.int (n+B8 t b))) (some (.int (v.fin (n+B8 t b)))) (some (.int (t*B7 (n-v.fin (n+B8 t b))))) none none none none none,⟨_,rfl,_,rfl,_,rfl,_,_,rfl,rfl,_,_,rfl,(n-v.fin (n+B8 t b)).toNat,Y5j _,by omega,_,_,rfl,rfl,B6e ht (by omega),rfl,rfl⟩,?_⟩
   rintro σ' H6 ⟨rfl,rfl⟩
   refine⟨fun σ' H'=>H'=H6/\σ'=stS pq eq sg i v t b n (some (.int (n+B8 t b))) (some (.int (v.fin (n+B8 t b)))) (some (.int (t*B7 (n-v.fin (n+B8 t b))))) (some (.int (b*B7 (-(n-v.fin (n+B8 t b)))))) none none none none,?_,?_⟩
   . refine⟨_,rfl,_,rfl,_,rfl,_,_,rfl,rfl,_,_,rfl,(v.fin (n+B8 t b)-n).toNat,Y5j _,by omega,_,_,rfl,rfl,B6e hb (by omega),rfl,?_⟩
     rw[<-eqn]
     rfl
   rintro σ' H7 ⟨rfl,rfl⟩
   have lp:0<(b*B7 (-(n-v.fin (n+B8 t b)))):=Int.mul_pos (by omega) (G5 _)
   have ll:(b*B7 (-(n-v.fin (n+B8 t b)))).natAbs.log2<9000:=U7h hb (by omega)
   refine⟨fun σ' H'=>H'=H7/\σ'=stS pq eq sg i v t b n (some (.int (n+B8 t b))) (some (.int (v.fin (n+B8 t b)))) (some (.int (t*B7 (n-v.fin (n+B8 t b))))) (some (.int (b*B7 (-(n-v.fin (n+B8 t b)))))) (some (.int (whI t b (n-v.fin (n+B8 t b))))) none none none,⟨_,rfl,_,rfl,_,_,rfl,rfl,⟨lp,ll⟩,rfl,rfl⟩,?_⟩
   rintro σ' H8 ⟨rfl,rfl⟩
   refine⟨fun σ' H'=>H'=H8/\σ'=stS pq eq sg i v t b n (some (.int (n+B8 t b))) (some (.int (v.fin (n+B8 t b)))) (some (.int (t*B7 (n-v.fin (n+B8 t b))))) (some (.int (b*B7 (-(n-v.fin (n+B8 t b)))))) (some (.int (whI t b (n-v.fin (n+B8 t b))))) (some (.int ((t*B7 (n-v.fin (n+B8 t b)))- (whI t b (n-v.fin (n+B8 t b)))*(b*B7 (-(n-v.fin (n+B8 t b))))))) none none,⟨_,rfl,_,rfl,_,rfl,_,_,rfl,rfl,Z1m ht hb (by omega) (by omega),_,_,rfl,rfl,rfl,rfl⟩,?_⟩
   rintro σ' H9 ⟨rfl,rfl⟩
   refine⟨fun σ' H'=>∃l,Same H9 H'/\σ'=stS pq eq sg i v t b n (some (.int (n+B8 t b))) (some (.int (v.fin (n+B8 t b)))) (some (.int (t*B7 (n-v.fin (n+B8 t b))))) (some (.int (b*B7 (-(n-v.fin (n+B8 t b)))))) (some (.int (whI t b (n-v.fin (n+B8 t b))))) (some (.int ((t*B7 (n-v.fin (n+B8 t b)))- (whI t b (n-v.fin (n+B8 t b)))*(b*B7 (-(n-v.fin (n+B8 t b))))))) (some (.ref l)) none,⟨Nat.zero_le _,fun l nl=>⟨l,Same.upd nl,rfl⟩⟩,?_⟩
   rintro σ' H10 ⟨l0,s10,rfl⟩
   have wl:=D1x (t:=t) (s:=n-v.fin (n+B8 t b)) (show 0<b by omega)
   have wsz:(whI t b (n-v.fin (n+B8 t b)))<B7 v.r:=w1
   have w0:0<=(whI t b (n-v.fin (n+B8 t b))):=w0
   have zero:(t*B7 (n-v.fin (n+B8 t b)))- (whI t b (n-v.fin (n+B8 t b)))*(b*B7 (-(n-v.fin (n+B8 t b))))=0↔(ptI t b (n-v.fin (n+B8 t b)))=0:=by
     unfold ptI
     generalize (t*B7 (n-v.fin (n+B8 t b)))- (whI t b (n-v.fin (n+B8 t b)))*(b*B7 (-(n-v.fin (n+B8 t b))))=a at wl
     generalize (b*B7 (-(n-v.fin (n+B8 t b))))=c at wl
     refine⟨fun z=>U9m z (by omega),fun z=>Classical.byContradiction fun y=>?_⟩
     unfold Z8 at z
     rw[decide_eq_true (show 0<a by omega)] at z
     have x1:=Z1x (decide (c<=2*a))
     have x2:=Z1x (decide (c<2*a))
     have z:(1:Int)+(if decide (c<=2*a)=true then 1 else 0)+(if decide (c<2*a)=true then 1 else 0)=0:=z
     omega
   have t24:B7 v.r<=B7 24:=V5 r2
   refine⟨fun σ' H'=>∃F G z13 z14 z16 l z18,∃zs:List Str,Same H9 H'/\Z5 v sg (whI t b (n-v.fin (n+B8 t b))) (ptI t b (n-v.fin (n+B8 t b))) (v.fin (n+B8 t b)) i=(F,G)/\H' l=some (.lst (zs.map V.str))/\(∀z,z∈zs↔z∈A0v (ptI t b (n-v.fin (n+B8 t b))) (decide (G>i))++A0x v.l (n+B8 t b) (ptI t b (n-v.fin (n+B8 t b))))/\zs.length<=4/\σ'=stS pq eq sg i v t b n (some (.int (n+B8 t b))) (some (.int G)) z13 z14 (some (.int F)) z16 (some (.ref l)) z18,?_,?_⟩
   . refine ⟨_,rfl,rfl,_,rfl,?_⟩
     by_cases z:(t*B7 (n-v.fin (n+B8 t b)))- (whI t b (n-v.fin (n+B8 t b)))*(b*B7 (-(n-v.fin (n+B8 t b))))=0
     . have pz :=zero.mp z
       rw[decide_eq_true (congrArg V.int z)]
       refine Z2 ?_
       have en:Z5 v sg (whI t b (n-v.fin (n+B8 t b))) (ptI t b (n-v.fin (n+B8 t b))) (v.fin (n+B8 t b)) i=Z7 i (whI t b (n-v.fin (n+B8 t b))) (v.fin (n+B8 t b)):=by unfold Z5;rw[if_pos pz]
       refine⟨fun σ' H'=>H'=H10/\∃F G:Int,Z7 i (whI t b (n-v.fin (n+B8 t b))) (v.fin (n+B8 t b))=(F,G)/\σ'=stS pq eq sg i v t b n (some (.int (n+B8 t b))) (some (.int G)) (some (.int (t*B7 (n-v.fin (n+B8 t b))))) (some (.int (b*B7 (-(n-v.fin (n+B8 t b)))))) (some (.int F)) (some (.int ((t*B7 (n-v.fin (n+B8 t b)))- (whI t b (n-v.fin (n+B8 t b)))*(b*B7 (-(n-v.fin (n+B8 t b))))))) (some (.ref l0)) none,?_,?_⟩
       . refine B5a (fun σ H5=>H5=H10/\∃F G:Int,0<=F/\F<=(whI t b (n-v.fin (n+B8 t b)))/\Z7 i F G=Z7 i (whI t b (n-v.fin (n+B8 t b))) (v.fin (n+B8 t b))/\σ=stS pq eq sg i v t b n (some (.int (n+B8 t b))) (some (.int G)) (some (.int (t*B7 (n-v.fin (n+B8 t b))))) (some (.int (b*B7 (-(n-v.fin (n+B8 t b)))))) (some (.int F)) (some (.int ((t*B7 (n-v.fin (n+B8 t b)))- (whI t b (n-v.fin (n+B8 t b)))*(b*B7 (-(n-v.fin (n+B8 t b))))))) (some (.ref l0)) none) (fun σ _=>match σ with| [_,_,_,_,_,_,_,_,_,_,_,_,some (.int g),_,_,_,_,_,_]=>(i-g).toNat|_=>0) ⟨rfl,_,_,w0,Int.le_refl _,rfl,rfl⟩ ?_ ?_
         . rintro σ H5 ⟨rfl,F,G,F0,F1,es,rfl⟩
           obtain⟨nF,enF⟩:=Int.eq_ofNat_of_zero_le F0
           have stop:¬(G<i/\F % 10=0) ->Z7 i (whI t b (n-v.fin (n+B8 t b))) (v.fin (n+B8 t b))=(F,G):=fun h=>by rw[<-es];exact C1p h
           refine⟨_,rfl,_,rfl,_,_,rfl,rfl,_,rfl,Y5 (fun c=>?_) (fun c=>U5 ⟨rfl,F,G,stop (fun h=>c h.1),rfl⟩)⟩
           have lg:F.natAbs.log2<1920:=G7x F0 (by omega)
           refine⟨_,rfl,_,rfl,lg,_,rfl,_,_,_,rfl,rfl,int_text_fits lg,by rw[enF];exact J8q nF,rfl,_,rfl,?_⟩
           rw[Z4d]
           by_cases d:nF % 10=0
           . rw[decide_eq_true d]
             refine Z2 ?_
             refine⟨fun σ' H'=>H'=H5/\σ'=stS pq eq sg i v t b n (some (.int (n+B8 t b))) (some (.int G)) (some (.int (t*B7 (n-v.fin (n+B8 t b))))) (some (.int (b*B7 (-(n-v.fin (n+B8 t b)))))) (some (.int (F/10))) (some (.int ((t*B7 (n-v.fin (n+B8 t b)))- (whI t b (n-v.fin (n+B8 t b)))*(b*B7 (-(n-v.fin (n+B8 t b))))))) (some (.ref l0)) none,⟨_,rfl,_,_,rfl,rfl,⟨by decide,by decide+kernel⟩,rfl,rfl⟩,?_⟩
             rintro σ' H6' ⟨rfl,rfl⟩
             refine⟨_,?_,fun _ _ h=>h⟩
             refine⟨_,rfl,_,_,rfl,rfl,⟨rfl,F/10,G+1,by omega,by omega,?_,rfl⟩,?_⟩
             . rw[<-es]
               exact(C2d c (by omega)).symm
             . show(i-(G+1)).toNat<(i-G).toNat
               have c:G<i:=c
               omega
           . rw[decide_eq_false d]
             exact U5 ⟨rfl,F,G,stop (fun h=>d (by have:=h.2;omega)),rfl⟩
         . rintro σ H5 Q1 Q2 hQ ⟨v1,e1,v2,e2,i1,j1,e6,e7,bb,eb,z⟩
           refine⟨v1,e1,v2,e2,i1,j1,e6,e7,bb,eb,?_⟩
           by_cases hb:bb=true
           . rw[if_pos hb] at z ⊢
             obtain⟨u1,f1,u2,f2,lg,u3,f3,a1,a2,a3,f4,f5,f6,f7,f8,u4,f9,z⟩:=z
             exact⟨u1,f1,u2,f2,lg,u3,f3,a1,a2,a3,f4,f5,f6,f7,f8,u4,f9,hQ _ _ z⟩
           . rw[if_neg hb] at z ⊢
             exact hQ _ _ z
       rintro σ' H11 ⟨rfl,F,G,es,rfl⟩
       refine⟨_,?_,fun _ _ h=>h⟩
       refine⟨z1,fun l1 n1=>⟨_,rfl,_,rfl,_,_,rfl,rfl,.inr ⟨_,rfl,l1,_,_,rfl,rfl,A9,(C0g _ .non).1,(C0g _ .non).2.1,(C0g _ _).2.2,fun p1 np1=>?_⟩⟩⟩
       refine⟨z1,fun l2 n2=>⟨_,rfl,_,rfl,_,_,rfl,rfl,.inr ⟨_,rfl,l2,_,_,rfl,rfl,A9,(C0g _ .non).1,(C0g _ .non).2.1,(C0g _ _).2.2,fun p2 np2=>?_⟩⟩⟩
       refine⟨p1,p2,_,_,rfl,rfl,Same.upd np2 _ _ (Same.upd n2 _ _ A9),A9,D6 (Nat.le_trans (Nat.add_le_add (J8c _ _) (J8c _ _)) (by decide)),fun p3 np3=>?_⟩
       refine⟨F,G,_,_,_,p3,none,G8m (decide (G>i)) "cut"++G8m (decide (n+B8 t b<v.l)) "faint",s10.trans ((Same.upd n1).trans ((Same.upd np1).trans ((Same.upd n2).trans ((Same.upd np2).trans (Same.upd np3))))),by rw[en,es],by rw[A9,J7z,J7z,List.map_append],fun y=>?_,?_,rfl⟩
       . rw[List.mem_append,J8f,J8f,List.mem_append]
         unfold A0v A0x
         rw[if_pos pz,if_pos pz]
         by_cases c1:G>i
         . rw[decide_eq_true c1,if_pos rfl]
           by_cases c2:n+B8 t b>=v.l
           . rw[if_pos c2,decide_eq_false (by omega)];simp
           . rw[if_neg c2,decide_eq_true (by omega)];simp
         . rw[decide_eq_false c1,if_neg Bool.false_ne_true]
           by_cases c2:n+B8 t b>=v.l
           . rw[if_pos c2,decide_eq_false (by omega)];simp
           . rw[if_neg c2,decide_eq_true (by omega)];simp
       . rw[List.length_append]
         have:=G3c (decide (G>i)) "cut"
         have:=G3c (decide (n+B8 t b<v.l)) "faint"
         omega
     . have pz:(ptI t b (n-v.fin (n+B8 t b)))≠0:=fun y=>z (zero.mpr y)
       rw[decide_eq_false (fun y=>z (V.int.inj y))]
       refine U5 ?_
       have wl0:0<((t*B7 (n-v.fin (n+B8 t b)))- (whI t b (n-v.fin (n+B8 t b)))*(b*B7 (-(n-v.fin (n+B8 t b))))):=by omega
       have ept:(ptI t b (n-v.fin (n+B8 t b)))=1+(if decide (2*((t*B7 (n-v.fin (n+B8 t b)))- (whI t b (n-v.fin (n+B8 t b)))*(b*B7 (-(n-v.fin (n+B8 t b)))))>=(b*B7 (-(n-v.fin (n+B8 t b)))))=true then(1:Int) else 0)+(if decide (2*((t*B7 (n-v.fin (n+B8 t b)))- (whI t b (n-v.fin (n+B8 t b)))*(b*B7 (-(n-v.fin (n+B8 t b)))))>(b*B7 (-(n-v.fin (n+B8 t b)))))=true then(1:Int) else 0):=by
         unfold ptI Z8
         rw[decide_eq_true wl0]
         rfl
       have mC:∀x:Int,IntMulOk 2 x:=fun x=>CMul.ok (.inl ⟨by decide,by decide⟩)
       refine⟨fun σ' H'=>H'=H10/\σ'=stS pq eq sg i v t b n (some (.int (n+B8 t b))) (some (.int (v.fin (n+B8 t b)))) (some (.int (t*B7 (n-v.fin (n+B8 t b))))) (some (.int (b*B7 (-(n-v.fin (n+B8 t b)))))) (some (.int (whI t b (n-v.fin (n+B8 t b))))) (some (.int ((t*B7 (n-v.fin (n+B8 t b)))- (whI t b (n-v.fin (n+B8 t b)))*(b*B7 (-(n-v.fin (n+B8 t b))))))) (some (.ref l0)) (some (.int (ptI t b (n-v.fin (n+B8 t b))))),?_,?_⟩
       . refine⟨_,rfl,_,_,rfl,rfl,mC _,_,rfl,_,_,rfl,rfl,.inr ⟨_,rfl,_,_,rfl,rfl,_,rfl,_,_,rfl,rfl,mC _,_,rfl,_,_,rfl,rfl,.inr ⟨_,rfl,_,_,rfl,rfl,rfl,?_⟩⟩⟩
         rw[ept]
         rfl
       rintro σ' H11 ⟨rfl,rfl⟩
       have up:=S.up0
       have up:0<=(upI v.y sg (whI t b (n-v.fin (n+B8 t b))) (ptI t b (n-v.fin (n+B8 t b))))/\(upI v.y sg (whI t b (n-v.fin (n+B8 t b))) (ptI t b (n-v.fin (n+B8 t b))))<=B7 v.r:=up
       refine⟨fun σ' H'=>Same H11 H'/\σ'=stS pq eq sg i v t b n (some (.int (n+B8 t b))) (some (.int (v.fin (n+B8 t b)))) (some (.int (t*B7 (n-v.fin (n+B8 t b))))) (some (.int (b*B7 (-(n-v.fin (n+B8 t b)))))) (some (.int (upI v.y sg (whI t b (n-v.fin (n+B8 t b))) (ptI t b (n-v.fin (n+B8 t b)))))) (some (.int ((t*B7 (n-v.fin (n+B8 t b)))- (whI t b (n-v.fin (n+B8 t b)))*(b*B7 (-(n-v.fin (n+B8 t b))))))) (some (.ref l0)) (some (.int (ptI t b (n-v.fin (n+B8 t b))))),?_,?_⟩
       . obtain⟨nw,enw⟩:=Int.eq_ofNat_of_zero_le w0
         have pti:0<=(ptI t b (n-v.fin (n+B8 t b)))/\(ptI t b (n-v.fin (n+B8 t b)))<=3:=pti
         refine⟨_,rfl,_,rfl,_,rfl,_,rfl,_,rfl,v.y,sg,(ptI t b (n-v.fin (n+B8 t b))),nw,by rw[<-enw];rfl,?_,by omega,by omega,fun H8 s8=> .inr ⟨_,rfl,_,_,rfl,rfl,s8,?_⟩⟩
         . have e3:B7 24<2^300:=by decide+kernel
           have:(nw:Int)<((2^300:Nat):Int):=by
             rw[<-enw]
             show _<(2:Int)^300
             omega
           exact Int.ofNat_lt.mp this
         . rw[Z9k pz,enw]
           rfl
       rintro σ' H12 ⟨s12,rfl⟩
       have lgU:(upI v.y sg (whI t b (n-v.fin (n+B8 t b))) (ptI t b (n-v.fin (n+B8 t b)))).natAbs.log2<1920:=G7x up.1 (by omega)
       have fr:=U9w up.1 up.2 r1 r2
       refine⟨fun σ' H'=>H'=H12/\∃F G:Int,B5c v.r (upI v.y sg (whI t b (n-v.fin (n+B8 t b))) (ptI t b (n-v.fin (n+B8 t b)))) (v.fin (n+B8 t b))=(F,G)/\σ'=stS pq eq sg i v t b n (some (.int (n+B8 t b))) (some (.int G)) (some (.int (t*B7 (n-v.fin (n+B8 t b))))) (some (.int (b*B7 (-(n-v.fin (n+B8 t b)))))) (some (.int F)) (some (.int ((t*B7 (n-v.fin (n+B8 t b)))- (whI t b (n-v.fin (n+B8 t b)))*(b*B7 (-(n-v.fin (n+B8 t b))))))) (some (.ref l0)) (some (.int (ptI t b (n-v.fin (n+B8 t b))))),?_,?_⟩
       . refine⟨_,rfl,_,rfl,lgU,_,rfl,int_text_fits lgU,_,rfl,_,_,rfl,rfl,_,rfl,Y5 (fun c=>?_) (fun c=>?_)⟩
         . have c:U9 (upI v.y sg (whI t b (n-v.fin (n+B8 t b))) (ptI t b (n-v.fin (n+B8 t b))))>v.r:=c
           refine⟨fun σ' H'=>H'=H12/\σ'=stS pq eq sg i v t b n (some (.int (n+B8 t b))) (some (.int (v.fin (n+B8 t b)))) (some (.int (t*B7 (n-v.fin (n+B8 t b))))) (some (.int (b*B7 (-(n-v.fin (n+B8 t b)))))) (some (.int ((upI v.y sg (whI t b (n-v.fin (n+B8 t b))) (ptI t b (n-v.fin (n+B8 t b))))/10))) (some (.int ((t*B7 (n-v.fin (n+B8 t b)))- (whI t b (n-v.fin (n+B8 t b)))*(b*B7 (-(n-v.fin (n+B8 t b))))))) (some (.ref l0)) (some (.int (ptI t b (n-v.fin (n+B8 t b))))),⟨_,rfl,_,_,rfl,rfl,⟨by decide,by decide+kernel⟩,rfl,rfl⟩,?_⟩
           rintro σ' H13 ⟨rfl,rfl⟩
           refine⟨_,?_,fun _ _ h=>h⟩
           refine⟨_,rfl,_,_,rfl,rfl,rfl,(upI v.y sg (whI t b (n-v.fin (n+B8 t b))) (ptI t b (n-v.fin (n+B8 t b))))/10,(v.fin (n+B8 t b))+1,?_,rfl⟩
           unfold B5c
           rw[if_pos (fr.mp c)]
         . have c:¬U9 (upI v.y sg (whI t b (n-v.fin (n+B8 t b))) (ptI t b (n-v.fin (n+B8 t b))))>v.r:=c
           refine⟨rfl,(upI v.y sg (whI t b (n-v.fin (n+B8 t b))) (ptI t b (n-v.fin (n+B8 t b)))),(v.fin (n+B8 t b)),?_,rfl⟩
           unfold B5c
           rw[if_neg (fun y=>c (fr.mpr y))]
       rintro σ' H13 ⟨rfl,F,G,eR,rfl⟩
       refine⟨_,?_,fun _ _ h=>h⟩
       refine⟨z2,fun l1 n1=>⟨z2,fun l2 n2=>⟨_,rfl,_,rfl,_,_,rfl,rfl,.inr ⟨_,rfl,l2,_,_,rfl,rfl,A9,(C0g _ .non).1,(C0g _ .non).2.1,Y5e _ _ _,fun p2 np2=>?_⟩⟩⟩⟩
       refine⟨l1,p2,_,_,rfl,rfl,Same.upd np2 _ _ (Same.upd n2 _ _ A9),A9,D6 (Nat.le_trans (Nat.add_le_add (Nat.le_refl 2) (Y4r _ _ _)) (by decide)),fun p3 np3=>?_⟩
       refine⟨F,G,_,_,_,p3,_,(["off","cut"]:List Str)++Y4x (decide (n+B8 t b<v.l)),s10.trans (s12.trans ((Same.upd n1).trans ((Same.upd n2).trans ((Same.upd np2).trans (Same.upd np3))))),?_,?_,fun y=>?_,?_,rfl⟩
       . unfold Z5
         rw[if_neg pz]
         exact eR
       . rw[A9,Y5p,List.map_append]
         rfl
       . unfold A0v A0x Y4x
         rw[if_neg pz,if_neg pz]
         by_cases c2:n+B8 t b>=v.l
         . rw[if_pos c2,decide_eq_false (by omega)];simp
         . rw[if_neg c2,decide_eq_true (by omega),if_pos rfl]
           rw[List.mem_append,List.mem_append]
           refine or_congr Iff.rfl ?_
           simp only[List.mem_cons,List.not_mem_nil,or_false]
           exact Or.comm
       . unfold Y4x
         split<;>decide
   rintro σ' H11 ⟨F,G,z13,z14,z16,l,z18,zs,s11,en,el,mem,l4,rfl⟩
   have sn:neL v sg (.rat t b n) i=(F,G):=en
   rw[sn] at sle nr
   have nf0:0<=F:=nr.f0
   have nf1:F<B7 v.r:=nr.f1
   have lgF:F.natAbs.log2<1920:=G7x nf0 (by omega)
   by_cases bc:A2k v.m F G=true
   . rw[if_pos bc] at sle
     unfold A2k at bc
     have f0:F≠0:=fun y=>by rw[if_pos y] at bc;cases bc
     rw[if_neg f0] at bc
     have bc:=of_decide_eq_true bc
     refine⟨fun σ' H'=>H'=H11/\σ'=stS pq eq sg i v t b n (some (.int (n+B8 t b))) (some (.int G)) z13 z14 (some (.int F)) z16 (some (.ref l)) z18,?_,?_⟩
     . exact⟨_,rfl,rfl,_,rfl,V8 (fun y=>f0 (V.int.inj y)) ⟨_,rfl,_,rfl,F,G,rfl,lgF,_,rfl,_,_,rfl,rfl,_,rfl,V8 (show¬U9 F-1+G<=v.m by omega) ⟨rfl,rfl⟩⟩⟩
     rintro σ' H12 ⟨rfl,rfl⟩
     refine⟨fun σ' H'=>Same H12 H'/\v.y.toEnd sg=false/\σ'=stS pq eq sg i v t b n (some (.int (n+B8 t b))) (some (.int G)) z13 z14 (some (.int F)) z16 (some (.ref l)) z18,?_,?_⟩
     . refine⟨_,rfl,_,rfl,v.y,sg,rfl,s0,s1,fun H13 s13=>⟨_,rfl,Z3q (fun e=>?_) (fun e=>⟨s13,e,rfl⟩)⟩⟩
       refine⟨_,rfl,z4,fun p1 np1=>⟨z3,fun p2 np2=>⟨z2,fun p3 np3=>k p3 _ (s11.trans (s13.trans ((Same.upd np1).trans ((Same.upd np2).trans (Same.upd np3))))) ?_⟩⟩⟩
       rw[sle]
       refine⟨p1,p2,["burst","off","cut"],A9,?_,Same.upd np3 _ _ A9,fun _=>Iff.rfl,by decide⟩
       rw[(Same.upd np2).trans (Same.upd np3) _ _ A9]
       unfold B6j
       rw[if_pos e]
       rfl
     rintro σ' H13 ⟨s13,e,rfl⟩
     obtain⟨nr',enr,eTr⟩:=Y6g (show 0<=v.r by omega)
     refine⟨_,rfl,_,rfl,nr',by show [V.int v.r]=_;rw[enr],by omega,_,_,rfl,rfl,_,rfl,_,rfl,_,_,rfl,rfl,_,_,rfl,rfl,z4,fun p1 np1=>⟨z3,fun p2 np2=>⟨z2,fun p3 np3=>k p3 _ (s11.trans (s13.trans ((Same.upd np1).trans ((Same.upd np2).trans (Same.upd np3))))) ?_⟩⟩⟩
     rw[sle]
     refine⟨p1,p2,["burst","off","cut"],A9,?_,Same.upd np3 _ _ A9,fun _=>Iff.rfl,by decide⟩
     rw[(Same.upd np2).trans (Same.upd np3) _ _ A9,eTr]
     unfold B6j
     rw[if_neg (by rw[e];exact Bool.false_ne_true)]
     rfl
   . rw[if_neg bc] at sle
     refine⟨fun σ' H'=>False,?_,fun _ _ h=>h.elim⟩
     have fin:∀p1,H11 p1=none ->∀p2,upd H11 p1 (.tup [.str "plain",.int sg,.int F,.int G]) p2=none ->Q (.ref p2) (upd (upd H11 p1 (.tup [.str "plain",.int sg,.int F,.int G])) p2 (.tup [.ref p1,.ref l])):=fun p1 np1 p2 np2=>by
       refine k p2 _ (s11.trans ((Same.upd np1).trans (Same.upd np2))) ?_
       rw[sle]
       exact⟨p1,l,zs,A9,Same.upd np2 _ _ A9,(Same.upd np1).trans (Same.upd np2) _ _ el,mem,l4⟩
     refine⟨_,rfl,rfl,_,rfl,Y5 (fun y=>?_) (fun y=>?_)⟩
     . exact⟨_,rfl,_,rfl,_,rfl,z4,fun p1 np1=>⟨_,rfl,z2,fun p2 np2=>fin p1 np1 p2 np2⟩⟩
     . have f0:F≠0:=fun h=>y (congrArg V.int h)
       unfold A2k at bc
       rw[if_neg f0] at bc
       have bc:¬G+U9 F-1>v.m:=fun h=>bc (decide_eq_true h)
       exact⟨_,rfl,_,rfl,F,G,rfl,lgF,_,rfl,_,_,rfl,rfl,_,rfl,A1p (show U9 F-1+G<=v.m by omega) ⟨_,rfl,_,rfl,_,rfl,z4,fun p1 np1=>⟨_,rfl,z2,fun p2 np2=>fin p1 np1 p2 np2⟩⟩⟩
end
noncomputable abbrev A1b:Stmt:=(top 71)
noncomputable abbrev G1s:Stmt:=(top 76)
noncomputable abbrev A5b:Stmt:=(top 74)
noncomputable abbrev B3h:Stmt:=(top 73)
noncomputable abbrev G7z:Stmt:=(top 77)
structure Nm.D12(x:Nm):Prop where
 s0:0<=x.s
 s1:x.s<=1
 f0:0<=x.f
 f1:x.f<B7 60
 p0: -200<=x.p
 p1:x.p<=200
 e:x.k= .end_ ->x.f=0/\x.p=0
 n:x.k= .none ->x.s=0/\x.f=0/\x.p=0
theorem Nm.D12.wf{x:Nm}(h:x.D12):x.Ok:=by
 have e:B7 60=10^60:=by decide+kernel
 have:=h.f1
 exact⟨h.s0,h.s1,h.f0,by omega,h.p0,h.p1⟩
noncomputable def dueN (v:Cv) (x:Nm):Nm×List Str:=
 match x.k with
 | .plain=>if x.f=0 then(C1a v x.s x.p,[]) else setL v x.s (.rat x.f 1 x.p) x.p
 |_=>(x,[])
section
variable{P:Program}{w:World}{K:Frag}{mg:Str ->Option Value}{base:Heap}
noncomputable def U9e:Sp:=fun vs H Q _=>∃p,∃(v:Cv) (i:Int),vs=[.ref p,.int i]/\H p=some (.tup v.vs)/\Q (.int (C2b (A7z i (v.l-v.r+1)) v.m)) H
theorem A0bp:FnScope ["_law_parts","_law_ideal"] ["_law_parts","_law_ideal"] (A1 G1s):=scK
theorem Z2g(D:Def K mg "_law_nought_power" ["_law_parts","_law_ideal"] G1s f fd)(O:Own mg):FnOk P w K mg base (CX1 P w) 1 f fd ["_law_parts","_law_ideal"] U9e:=by
 refine FnOk.up (D.F.ok A0bp (fun vs H Q E h=>?_) (fun cdv A outer s H vs Q E hr h=>?_))
 . obtain⟨p,v,i,rfl,_⟩:=h
   rfl
 . obtain⟨p,v,i,rfl,ep,k⟩:=h
   refine⟨_,(B5 (C7 (V3 (D0b rfl) (by rfl) O.min_ boot_min (A0 (V3 (Z0 rfl) (by rfl) O.max_ boot_max (A0 (pv 1) (A0 (B9 V2 (B9 U8 (U6 U7 (pv 0) A3 (fun _ _=>rfl)) (U6 U7 (pv 0) A3 (fun _ _=>rfl))) A3) A7))) (A0 (U6 U7 (pv 0) A3 (fun _ _=>rfl)) A7))))),?_⟩
   exact⟨_,rfl,_,rfl,p,_,_,_,rfl,rfl,SqT.of ep,D9 (j:=2) rfl,_,rfl,p,_,_,_,rfl,rfl,SqT.of ep,D9 (j:=0) rfl,_,_,rfl,rfl,_,_,rfl,rfl,_,_,rfl,_,rfl,p,_,_,_,rfl,rfl,SqT.of ep,D9 (j:=3) rfl,_,_,rfl,k⟩
noncomputable def G2a (CN:Addr):Sp:=fun vs H Q _=>∃t,∃x:Nm,vs=[.ref t]/\H t=some (.tup x.vs)/\x.D12/\∀n H',H n=none ->Same H H' ->NumIs CN H' n x ->Q (.ref n) H'
theorem U8x:FnScope ["_law_parts"] ["_law_parts"] (A1 A5b):=scK
theorem U2g{f f1 f2 f3 CN CB:Addr}(D:Def K mg "_law_number" ["_law_parts"] A5b f fd)(dA:Def K mg "plain" ["sign","figures","power"] B3e f1 fd1)(dB:FnOk P w K mg base (CX1 P w) 3 f1 fd1 ["sign","figures","power"] (J8v K CN CB))
   (dC:Def K mg "end" ["sign"] G1v f2 fd2) (dD:FnOk P w K mg base (CX1 P w) 3 f2 fd2 ["sign"] (U7x K CN CB)) (dE:Def K mg "nothing" [] A1t f3 fd3) (dF:FnOk P w K mg base (CX1 P w) 3 f3 fd3 [] (B6t CN)):FnOk P w K mg base (CX1 P w) 4 f fd ["_law_parts"] (G2a CN):=by
 refine D.F.okE U8x (fun vs H Q E h=>?_) (fun X cdv A outer s H vs Q E hX hr hx h=>?_)
 . obtain⟨t,x,rfl,_⟩:=h
   rfl
 . subst hX
   obtain⟨t,x,rfl,et,dx,k⟩:=h
   refine⟨_,(B0 (D0 (J0 (D5 U2 (U6 U7 (pv 0) A3 (fun _ _=>rfl)) C9 (D4 _)) (B5 (C7 (D8 dC dD hr hx (A0 (U6 U7 (pv 0) A3 (fun _ _=>rfl)) A7)))) D7))
     (B0 (D0 (J0 (D5 U2 (U6 U7 (pv 0) A3 (fun _ _=>rfl)) C9 (D4 _)) (B5 (C7 (C3d dE dF hr hx))) D7))
     (B5 (C7 (D8 dA dB hr hx (A0 (U6 U7 (pv 0) A3 (fun _ _=>rfl)) (A0 (U6 U7 (pv 0) A3 (fun _ _=>rfl)) (A0 (U6 U7 (pv 0) A3 (fun _ _=>rfl)) A7)))))))),?_⟩
   have ok:=dx.wf
   have g1:A4q 0 1 (.int x.s):=⟨_,rfl,ok.s0,ok.s1⟩
   have g2:A4q 0 (10^60-1) (.int x.f):=⟨_,rfl,ok.f0,ok.f1⟩
   have g3:A4q (-200) 200 (.int x.p):=⟨_,rfl,ok.p0,ok.p1⟩
   refine⟨fun σ' H'=>H'=H/\x.k≠ .end_/\σ'=[some (.ref t)],?_,?_⟩
   . refine⟨_,rfl,t,_,_,_,rfl,rfl,SqT.of et,D9 (j:=0) rfl,rfl,_,rfl,Y5 (fun h=>?_) (fun h=>⟨rfl,neS (b:= .end_) h,rfl⟩)⟩
     have hk:x.k= .end_:=eqS (b:= .end_) h
     obtain⟨ef,ep⟩:=dx.e hk
     refine⟨_,rfl,t,_,_,_,rfl,rfl,SqT.of et,D9 (j:=1) rfl,_,rfl,.inl ⟨g1,fun n H' nn sm num=>k n H' nn sm ?_⟩⟩
     unfold NumIs
     rw[hk,ef,ep]
     exact num
   rintro σ' H1 ⟨rfl,ne,rfl⟩
   refine⟨fun σ' H'=>H'=H1/\x.k= .plain/\σ'=[some (.ref t)],?_,?_⟩
   . refine⟨_,rfl,t,_,_,_,rfl,rfl,SqT.of et,D9 (j:=0) rfl,rfl,_,rfl,Y5 (fun h=>?_) (fun h=>⟨rfl,?_,rfl⟩)⟩
     . have hk:x.k= .none:=eqS (b:= .none) h
       obtain⟨es,ef,ep⟩:=dx.n hk
       refine⟨rfl,fun n H' nn sm num=>k n H' nn sm ?_⟩
       unfold NumIs
       rw[hk,es,ef,ep]
       exact num
     . have a:=neS (b:= .none) h
       cases q:x.k with
       |plain=>rfl
       |end_=>exact absurd q ne
       |none=>exact absurd q a
   rintro σ' H2 ⟨rfl,hk,rfl⟩
   refine⟨_,rfl,t,_,_,_,rfl,rfl,SqT.of et,D9 (j:=1) rfl,_,rfl,t,_,_,_,rfl,rfl,SqT.of et,D9 (j:=2) rfl,_,rfl,t,_,_,_,rfl,rfl,SqT.of et,D9 (j:=3) rfl,_,_,_,rfl,.inl ⟨g1,g2,g3,fun n H' nn sm num=>k n H' nn sm ?_⟩⟩
   unfold NumIs
   rw[hk]
   exact num
noncomputable def J8b:Sp:=fun vs H Q _=>∃c pq,∃v:Cv,vs=[.int c,.ref pq]/\H pq=some (.tup v.vs)/\v.Ok/\∀q x H',Nm.D12 x ->Same H H' ->H' q=some (.tup x.vs) ->Q (.ref q) H'
theorem scLDn12:FnScope ["_law_cell","_law_parts","_law_number_here","_law_sign","_law_far","_law_power","_law_top_here"] ["_law_cell","_law_parts"] (A1 B3h):=scK
theorem U6s(D:Def K mg "_law_drawn_number" ["_law_cell","_law_parts"] B3h f fd)(dA:Def K mg "_law_mixed" ["_law_cell","_law_k"] A8t f1 fd1)(dB:FnOk P w K mg base (CX1 P w) 1 f1 fd1 ["_law_cell","_law_k"] D1u)
   (dC:Def K mg "_law_top" ["_law_cell"] C1s f2 fd2) (dD:FnOk P w K mg base (CX1 P w) 2 f2 fd2 ["_law_cell"] U7g) (dE:Def K mg "_law_ten" ["_law_count"] B5k f3 fd3) (dF:FnOk P w K mg base (CX1 P w) 1 f3 fd3 ["_law_count"] D2e):FnOk P w K mg base (CX1 P w) 3 f fd ["_law_cell","_law_parts"] J8b:=by
 refine D.F.okE scLDn12 (fun vs H Q E h=>?_) (fun X cdv A outer s H vs Q E hX hr hx h=>?_)
 . obtain⟨c,pq,v,rfl,_⟩:=h
   rfl
 . subst hX
   obtain⟨c,pq,v,rfl,ep,ok,k⟩:=h
   refine⟨_,(B0 (D0 (G0 (i:=2) scLDn12.nd rfl (Or.inl rfl) (D8 dA dB hr hx (A0 (pv 0) (A0 A3 A7)))))
     (B0 (D0 (G0 (i:=3) scLDn12.nd rfl (Or.inl rfl) (B9 U0 (pv 2) A3)))
     (B0 (D0 (J0 (D5 U2 (B9 U0 (B9 J1 (pv 2) A3) A3) A3 (D4 _)) (B5 (C7 (U6 A1g (U1 (A0 (V4 (A0 C9 (A0 (pv 3) (A0 A3 (A0 A3 A7))))) (A0 (V4 (A0 C9 (A0 A3 (A0 A3 (A0 A3 A7))))) A7))) (B9 U0 (B9 J1 (pv 2) A3) A3) (fun _ _=>rfl)))) D7))
     (B0 (D0 (G0 (i:=4) scLDn12.nd rfl (Or.inl rfl) (B9 J1 (pv 2) A3)))
     (B0 (D0 (G0 (i:=5) scLDn12.nd rfl (Or.inl rfl) (U1 (A0 (B9 U8 (B9 U0 (pv 4) A3) A3) (A0 (B9 U8 (B9 U0 (pv 4) A3) A3) (A0 (B9 U8 (U6 U7 (pv 1) A3 (fun _ _=>rfl)) (B9 U0 (pv 4) A3)) (A0 (B9 U8 (U6 U7 (pv 1) A3 (fun _ _=>rfl)) (B9 U0 (pv 4) A3)) A7)))))))
     (B0 (D0 (J0 (D5 U2 (B9 U0 (B9 J1 (pv 2) A3) A3) A3 (D4 _)) (B5 (C7 (V4 (A0 C9 (A0 (pv 3) (A0 A3 (A0 (U6 A1g (pv 5) (B9 U0 (B9 J1 (pv 2) A3) A3) (fun _ _=>rfl)) A7))))))) D7))
     (B0 (D0 (G0 (i:=6) scLDn12.nd rfl (Or.inl rfl) (B9 U0 (D8 dC dD hr hx (A0 (D8 dA dB hr hx (A0 (pv 0) (A0 A3 A7))) A7)) (D8 dE dF hr hx (A0 A3 A7)))))
     (B5 (C7 (V4 (A0 C9 (A0 (pv 3) (A0 (V0f (pv 6) (A0y A3)) (A0 (U6 A1g (pv 5) (B9 U0 (B9 J1 (pv 2) A3) A3) (fun _ _=>rfl)) A7)))))))))))))),?_⟩
   have r1:=ok.r1;have r2:=ok.r2;have l1:=ok.l1;have l2:=ok.l2;have m1:=ok.m1;have m2:=ok.m2
   have z2:2<=sizeLine:=D6 (by decide)
   have z4:4<=sizeLine:=D6 (by decide)
   have p2:(0:Int)<2:=by decide
   have p8:(0:Int)<8:=by decide
   have t60:B7 27<B7 60:=by decide+kernel
   refine⟨fun σ' H'=>∃n:Int,H'=H/\σ'=[some (.int c),some (.ref pq),some (.int n),none,none,none,none],⟨_,rfl,c,5,rfl,by decide,by decide,fun m _ _=>⟨m,rfl,rfl⟩⟩,?_⟩
   rintro σ' H1 ⟨n,rfl,rfl⟩
   refine⟨fun σ' H'=>∃sg:Int,H'=H1/\0<=sg/\sg<=1/\σ'=[some (.int c),some (.ref pq),some (.int n),some (.int sg),none,none,none],⟨_,rfl,_,_,rfl,rfl,p2,_,rfl,by omega,by omega,rfl⟩,?_⟩
   rintro σ' H2 ⟨sg,rfl,g0,g1,rfl⟩
   refine⟨fun σ' H'=>H'=H2/\σ'=[some (.int c),some (.ref pq),some (.int n),some (.int sg),none,none,none],?_,?_⟩
   . refine⟨_,rfl,_,_,rfl,rfl,dv (n:=2) (by decide) (by decide+kernel),_,_,rfl,rfl,p8,rfl,_,rfl,Y5 (fun _=>?_) (fun _=>⟨rfl,rfl⟩)⟩
     refine⟨_,rfl,z4,fun q1 n1=>⟨z4,fun q2 n2=>⟨z2,fun l nl=>⟨_,rfl,_,_,rfl,rfl,dv (n:=16) (by decide) (by decide+kernel),_,_,rfl,rfl,p2,?_⟩⟩⟩⟩
     have u1:=Same.upd (o:= .tup [.str "end",.int sg,.int 0,.int 0]) n1
     have u2:=Same.upd (o:= .tup [.str "none",.int 0,.int 0,.int 0]) n2
     have u3:=Same.upd (o:= .lst [.ref q1,.ref q2]) nl
     rcases(by omega:n/16 % 2=0\/n/16 % 2=1) with e|e
     . exact⟨l,_,_,_,rfl,rfl,SqL.of A9,by rw[e];exact D9 (j:=0) rfl,k q1 ⟨.end_,sg,0,0⟩ _ ⟨g0,g1,Int.le_refl _,G5 _,(show(-200:Int)<=0 by decide),(show(0:Int)<=200 by decide),fun _=>⟨rfl,rfl⟩,fun z=>by cases z⟩ (u1.trans (u2.trans u3)) (u3 _ _ (u2 _ _ A9))⟩
     . exact⟨l,_,_,_,rfl,rfl,SqL.of A9,by rw[e];exact D9 (j:=1) rfl,k q2 ⟨.none,0,0,0⟩ _ ⟨Int.le_refl _,by decide,Int.le_refl _,G5 _,by decide,by decide,(fun z=>by cases z),fun _=>⟨rfl,rfl,rfl⟩⟩ (u1.trans (u2.trans u3)) (u3 _ _ A9)⟩
   rintro σ' H3 ⟨rfl,rfl⟩
   refine⟨fun σ' H'=>∃fr:Int,H'=H3/\σ'=[some (.int c),some (.ref pq),some (.int n),some (.int sg),some (.int fr),none,none],⟨_,rfl,_,_,rfl,rfl,dv (n:=16) (by decide) (by decide+kernel),_,rfl,rfl⟩,?_⟩
   rintro σ' H4 ⟨fr,rfl,rfl⟩
   refine⟨fun σ' H'=>∃(l:Addr) (xs:List Int),Same H4 H'/\H' l=some (.lst (xs.map V.int))/\xs.length=4/\(∀x∈xs, -200<=x/\x<=200)/\σ'=[some (.int c),some (.ref pq),some (.int n),some (.int sg),some (.int fr),some (.ref l),none],?_,?_⟩
   . refine⟨_,rfl,_,_,rfl,rfl,(by decide:(0:Int)<401),_,_,rfl,rfl,_,rfl,_,_,rfl,rfl,(by decide:(0:Int)<21),_,_,rfl,rfl,_,rfl,pq,_,_,_,rfl,rfl,SqT.of ep,D9 (j:=2) rfl,_,rfl,_,_,rfl,rfl,(by decide:(0:Int)<30),_,_,rfl,rfl,_,rfl,pq,_,_,_,rfl,rfl,SqT.of ep,D9 (j:=3) rfl,_,rfl,_,_,rfl,rfl,(by decide:(0:Int)<30),_,_,rfl,rfl,z4,fun l nl=>⟨l,[fr % 401-200,fr % 21-10,v.l-fr % 30,v.m-fr % 30],Same.upd nl,A9,rfl,fun x hx=>?_,rfl⟩⟩
     simp only[List.mem_cons,List.not_mem_nil,or_false] at hx
     rcases hx with rfl|rfl|rfl|rfl<;>omega
   rintro σ' H5 ⟨l,xs,s5,el,len,all,rfl⟩
   obtain⟨pw,hpw,ix⟩:=ixs (xs:=xs) (i:=n/512 % 4) (Int.emod_nonneg _ (by decide)) (by rw[len];exact Int.emod_lt_of_pos _ (by decide))
   have pb:=all pw hpw
   refine⟨fun σ' H'=>H'=H5/\σ'=[some (.int c),some (.ref pq),some (.int n),some (.int sg),some (.int fr),some (.ref l),none],?_,?_⟩
   . refine⟨_,rfl,_,_,rfl,rfl,dv (n:=2) (by decide) (by decide+kernel),_,_,rfl,rfl,p8,rfl,_,rfl,Y5 (fun _=>?_) (fun _=>⟨rfl,rfl⟩)⟩
     exact⟨_,rfl,_,rfl,_,rfl,_,_,rfl,rfl,dv (n:=512) (by decide) (by decide+kernel),_,_,rfl,rfl,(by decide:(0:Int)<4),l,_,_,_,rfl,rfl,SqL.of el,ix,z4,fun q nq=>k q ⟨.plain,sg,0,pw⟩ _ ⟨g0,g1,Int.le_refl _,G5 _,pb.1,pb.2,(fun z=>by cases z),(fun z=>by cases z)⟩ (s5.trans (Same.upd nq)) A9⟩
   rintro σ' H6 ⟨rfl,rfl⟩
   refine⟨fun σ' H'=>∃t:Int,Same H6 H'/\1<=t/\t<B7 60/\σ'=[some (.int c),some (.ref pq),some (.int n),some (.int sg),some (.int fr),some (.ref l),some (.int t)],?_,?_⟩
   . refine⟨_,rfl,c,6,rfl,by decide,by decide,fun m _ _=>⟨m,rfl,fun t H' t1 t2 s'=>⟨60,rfl,by decide,_,_,rfl,rfl,(show(0:Int)<B7 60 from G5 _),_,s',?_,?_,rfl⟩⟩⟩
     . show 1<=t % B7 60
       rw[Int.emod_eq_of_lt (by omega) (by omega)]
       exact t1
     . show t % B7 60<B7 60
       exact Int.emod_lt_of_pos _ (G5 _)
   rintro σ' H7 ⟨t,s7,t1,t2,rfl⟩
   refine⟨_,rfl,_,rfl,_,rfl,?_⟩
   rw[if_neg (show¬t=0 by omega)]
   exact⟨_,rfl,_,rfl,_,_,rfl,rfl,dv (n:=512) (by decide) (by decide+kernel),_,_,rfl,rfl,(by decide:(0:Int)<4),l,_,_,_,rfl,rfl,SqL.of (s7 _ _ el),ix,z4,fun q nq=>k q ⟨.plain,sg,t,pw⟩ _ ⟨g0,g1,by show 0<=t;omega,t2,pb.1,pb.2,(fun z=>by cases z),(fun z=>by cases z)⟩ (s5.trans (s7.trans (Same.upd nq))) A9⟩
end
noncomputable abbrev C2a:Stmt:=(top 70)
noncomputable abbrev A5p:Stmt:=(top 75)
structure CaughtA(K:Frag)(mg:Str ->Option Value)(CT CR:Addr):Prop where
 gT:mg "Trapped"=some (.ref CT)
 gR:mg "ReckonError"=some (.ref CR)
 c:Clause K CR
 sub:subIn K (.ref CT) (.ref CR)=some true
 k:ExcK K CT
 dict:∃cd,clsIn K CT=some cd/\cd.hasDict=true
 nosig:findIn K (.ref CT) "signal"=some none
 kT:kitOne K (.ref CT) (.ref CT)=some true
 kv:kitOne K (.ref CT) (.type "ValueError")=some true
noncomputable def AnsT (H:Hp) (t:Addr):Prop:=(∃x:Nm,H t=some (.tup x.vs))\/∃z:Str,H t=some (.tup [.str "refused",.str z])
theorem Z3b(k:Kd):¬V.str k.str=V.str "refused":=by cases k<;>decide+kernel
section
variable{P:Program}{w:World}{K:Frag}{mg:Str ->Option Value}{base:Heap}
noncomputable def C3c:Sp:=fun vs H Q _=>∃t,vs=[.ref t]/\AnsT H t/\∀H',Same H H' ->Q (.bl true) H'
theorem G8g:FnScope ["_law_found"] ["_law_found"] (A1 A1b):=scK
theorem G2z(D:Def K mg "_law_whole" ["_law_found"] A1b f fd)(O:Own mg)(T:Kit K):FnOk P w K mg base (CX1 P w) 1 f fd ["_law_found"] C3c:=by
 refine FnOk.up (D.F.ok G8g (fun vs H Q E h=>?_) (fun cdv A outer s H vs Q E hr h=>?_))
 . obtain⟨t,rfl,_⟩:=h
   rfl
 . obtain ⟨t,rfl,an,k⟩:=h
   refine⟨_,(B0 (D0 (J0 (PW.pt (B5b (A2e (Y6 (B3b O.isi (pv 0) (pty O.tuple_ boot_tuple)))) (A8c (A2e (Y6 (B3b O.isi (U6 U7 (pv 0) A3 (fun _ _=>rfl)) (pty O.str_ boot_str))))))) (B5 (C7 A0j)) D7))
     (B0 (D0 (J0 (D5 U2 (U6 U7 (pv 0) A3 (fun _ _=>rfl)) C9 (D4 _)) (B5 (C7 A0j)) D7))
     (B5 (C7 (V3 (U9b hr.hd) (by rfl) O.all_ boot_all (A0 (U2f (N:=["_law_one"]) (F:=[]) (js:=[]) (CompScopeF.of0 ⟨rfl,by decide+kernel,by decide+kernel,by decide+kernel,by decide+kernel⟩ (by rfl)) (.inl hr.hd) rfl (U9k (G1w V0j (pv 0) (J8s A3) J7y)) rfl (fun C s₀ H₀ ex pn h=>Y3 (i:=0) (by decide+kernel:(["_law_one"]:List Str).Nodup) rfl (Or.inl rfl)) (fun C s₀ H₀ ex pn h=>(A8n (J9m (K:=K) rfl O.isi (pv 0) (pty O.int_ boot_int)) (A0y (G8f (J9m (K:=K) rfl O.isi (pv 0) (pty O.bool_ boot_bool))))))) A7)))))),?_⟩
   rcases an with⟨x,et⟩|⟨z,et⟩
   . refine⟨fun σ' H'=>H'=H/\σ'=[some (.ref t)],⟨_,rfl,_,_,_,_,true,rfl,rfl,V1a et,T.tuple_tuple,_,rfl,U5 ⟨_,rfl,t,_,_,_,rfl,rfl,SqT.of et,D9 (j:=0) rfl,_,_,_,_,true,rfl,rfl,C9t _,T.str_str,_,rfl,U5 ⟨rfl,rfl⟩⟩⟩,?_⟩
     rintro σ' H1 ⟨rfl,rfl⟩
     refine⟨fun σ' H'=>H'=H1/\σ'=[some (.ref t)],⟨_,rfl,t,_,_,_,rfl,rfl,SqT.of et,D9 (j:=0) rfl,rfl,_,rfl,V8 (Z3b _) ⟨rfl,rfl⟩⟩,?_⟩
     rintro σ' H2 ⟨rfl,rfl⟩
     refine⟨_,rfl,_,rfl,t,_,rfl,SqT.of et,(show¬(HT.sIx 4 0 (some 1)=0/\HT.sIx 4 4 none=4) by decide),fun p np=>?_⟩
     have u:=Same.upd (o:= .tup [.int x.s,.int x.f,.int x.p]) np
     refine⟨p,rfl,⟨_,SqT.of A9⟩,U0y (J:=Itt K p) (n:=3) (fun _ y _=>y= .bl true) (by decide) (fun _ _ _ _ _ _ h _ _=>h) (fun i H3 Qy hi sm hy=>?_) (fun H3 sm=>⟨_,SqT.of (sm _ _ A9),Nat.le_refl 3⟩) (fun D H3 ys sm nD eD hl hr'=>?_)⟩
     . have at_:∃j:Int,([.int x.s,.int x.f,.int x.p]:List V)[i]?=some (.int j):=by
         rcases(by omega:i=0\/i=1\/i=2) with rfl|rfl|rfl<;>exact⟨_,rfl⟩
       obtain⟨j,hj⟩:=at_
       refine⟨⟨_,_,SqT.of (sm _ _ A9),hj⟩,fun y H4 yl=>?_⟩
       obtain⟨rfl,yl⟩:=yl
       have e:([.int x.s,.int x.f,.int x.p]:List V)[i]?=some y:=yl _ (SqT.of (sm _ _ A9))
       rw[hj] at e
       obtain rfl:=(Option.some.inj e).symm
       exact⟨_,rfl,_,_,_,_,true,rfl,rfl,G3e _,T.int_int,_,rfl,Z2 ⟨_,rfl,_,_,_,_,false,rfl,rfl,G3e _,T.int_bool,_,rfl,hy _ _ (Same.refl _) rfl⟩⟩
     . have ey:ys=[.bl true,.bl true,.bl true]:=by
         have a:∀i<3,ys[i]?=some (.bl true):=fun i hi=>by
           have h1:i<ys.length:=by omega
           rw[List.getElem?_eq_getElem h1,hr' i ys[i] (List.getElem?_eq_getElem h1)]
         apply List.ext_getElem?
         intro i
         rcases(show i<3\/3<=i by omega) with h|h
         . rw[a i h]
           rcases(by omega:i=0\/i=1\/i=2) with rfl|rfl|rfl<;>rfl
         . rw[List.getElem?_eq_none (by omega),List.getElem?_eq_none (by show 3<=i;omega)]
       exact⟨D,[true,true,true],rfl,SqL.of (by rw[eD,ey];rfl),k _ (u.trans sm)⟩
   . refine⟨fun σ' H'=>H'=H/\σ'=[some (.ref t)],⟨_,rfl,_,_,_,_,true,rfl,rfl,V1a et,T.tuple_tuple,_,rfl,U5 ⟨_,rfl,t,_,_,_,rfl,rfl,SqT.of et,D9 (j:=0) rfl,_,_,_,_,true,rfl,rfl,C9t _,T.str_str,_,rfl,U5 ⟨rfl,rfl⟩⟩⟩,?_⟩
     rintro σ' H1 ⟨rfl,rfl⟩
     refine⟨fun σ' H'=>False,⟨_,rfl,t,_,_,_,rfl,rfl,SqT.of et,D9 (j:=0) rfl,rfl,_,rfl,A1p rfl (k _ (Same.refl _))⟩,fun _ _ h=>h.elim⟩
noncomputable def Z1p:Sp:=fun vs H Q _=>∃p q,∃(v:Cv) (x:Nm),vs=[.ref p,.ref q]/\H p=some (.tup v.vs)/\v.Ok/\H q=some (.tup x.vs)/\x.D12/\∀r H',Same H H' ->J9s H' r (dueN v x) ->Q (.ref r) H'
theorem Z8q:FnScope ["_law_parts","_law_number_here"] ["_law_parts","_law_number_here"] (A1 G7z):=scK
theorem Z4a(D:Def K mg "_law_rounded_due" ["_law_parts","_law_number_here"] G7z f fd)(dA:Def K mg "_law_nought_power" ["_law_parts","_law_ideal"] G1s f1 fd1)(dB:FnOk P w K mg base (CX1 P w) 1 f1 fd1 ["_law_parts","_law_ideal"] U9e)
   (dC:Def K mg "_law_settled" ["_law_parts","_law_sign","_law_exact","_law_ideal"] A5h f2 fd2) (dD:FnOk P w K mg base (CX1 P w) 2 f2 fd2 ["_law_parts","_law_sign","_law_exact","_law_ideal"] G2e):FnOk P w K mg base (CX1 P w) 3 f fd ["_law_parts","_law_number_here"] Z1p:=by
 refine D.F.okE Z8q (fun vs H Q E h=>?_) (fun X cdv A outer s H vs Q E hX hr hx h=>?_)
 . obtain⟨p,q,v,x,rfl,_⟩:=h
   rfl
 . subst hX
   obtain⟨p,q,v,x,rfl,ep,ok,eq,dx,k⟩:=h
   refine⟨_,(B0 (D0 (J0 (D5 C1k (U6 U7 (pv 1) A3 (fun _ _=>rfl)) C9 (D4 _)) (B5 (C7 (V4 (A0 (pv 1) (A0 (U1 A7) A7))))) D7))
     (B0 (D0 (J0 (D5 U2 (U6 U7 (pv 1) A3 (fun _ _=>rfl)) A3 (D4 _)) (B5 (C7 (V4 (A0 (B9 Y4m (G1w V0j (pv 1) J7y (J8s A3)) (V4 (A0 (D8 dA dB hr hx (A0 (pv 0) (A0 (U6 U7 (pv 1) A3 (fun _ _=>rfl)) A7))) A7))) (A0 (U1 A7) A7))))) D7))
     (B5 (C7 (D8 dC dD hr hx (A0 (pv 0) (A0 (U6 U7 (pv 1) A3 (fun _ _=>rfl)) (A0 (V4 (A0 (U6 U7 (pv 1) A3 (fun _ _=>rfl)) (A0 A3 (A0 (U6 U7 (pv 1) A3 (fun _ _=>rfl)) A7)))) (A0 (U6 U7 (pv 1) A3 (fun _ _=>rfl)) A7))))))))),?_⟩
   have z2:2<=sizeLine:=D6 (by decide)
   have z3:3<=sizeLine:=D6 (by decide)
   by_cases hk:x.k= .plain
   . refine⟨fun σ' H'=>H'=H/\σ'=[some (.ref p),some (.ref q)],⟨_,rfl,q,_,_,_,rfl,rfl,SqT.of eq,D9 (j:=0) rfl,rfl,_,rfl,J9j (by rw[hk];rfl) ⟨rfl,rfl⟩⟩,?_⟩
     rintro σ' H1 ⟨rfl,rfl⟩
     by_cases hf:x.f=0
     . have ed:dueN v x=(C1a v x.s x.p,[]):=by unfold dueN;rw[hk,if_pos hf]
       rw[ed] at k
       refine⟨fun σ' H'=>False,?_,fun _ _ h=>h.elim⟩
       refine⟨_,rfl,q,_,_,_,rfl,rfl,SqT.of eq,D9 (j:=2) rfl,rfl,_,rfl,A1p (congrArg V.int hf) ?_⟩
       refine⟨_,rfl,_,rfl,q,_,rfl,SqT.of eq,(show¬(HT.sIx 4 0 none=0/\HT.sIx 4 4 (some 3)=4) by decide),fun p1 np1=>?_⟩
       have u1:=Same.upd (o:= .tup (U1j x.vs none (some 3))) np1
       refine⟨_,rfl,_,rfl,q,_,_,_,rfl,rfl,SqT.of (u1 _ _ eq),D9 (j:=3) rfl,p,v,x.p,rfl,u1 _ _ ep,D6 (show 1<=1000 by decide),fun p2 np2=>?_⟩
       have u2:=Same.upd (o:= .tup [.int (C2b (A7z x.p (v.l-v.r+1)) v.m)]) np2
       refine⟨p1,p2,_,_,rfl,rfl,SqT.of (u2 _ _ A9),SqT.of A9,List.cons_ne_nil _ _,D6 (show 3+1<=1000 by decide),fun z=>absurd z (List.cons_ne_nil _ _),fun _ p3 np3=>⟨Nat.zero_le _,fun l nl=>⟨z2,fun r nr=>?_⟩⟩⟩
       have u3:=Same.upd (o:= .tup (U1j x.vs none (some 3)++ [.int (C2b (A7z x.p (v.l-v.r+1)) v.m)])) np3
       have u4:=Same.upd (o:= .lst []) nl
       have u5:=Same.upd (o:= .tup [.ref p3,.ref l]) nr
       refine k r _ (u1.trans (u2.trans (u3.trans (u4.trans u5)))) ⟨p3,l,[],A9,?_,u5 _ _ A9,fun _=>Iff.rfl,by decide⟩
       refine Eq.trans (u5 _ _ (u4 _ _ A9)) ?_
       show some (HO.tup [.str x.k.str,.int x.s,.int x.f,.int (C2b (A7z x.p (v.l-v.r+1)) v.m)])=_
       rw[hk,hf]
       rfl
     . have ed:dueN v x=setL v x.s (.rat x.f 1 x.p) x.p:=by unfold dueN;rw[hk];exact if_neg hf
       rw[ed] at k
       refine⟨fun σ' H'=>H'=H1/\σ'=[some (.ref p),some (.ref q)],⟨_,rfl,q,_,_,_,rfl,rfl,SqT.of eq,D9 (j:=2) rfl,rfl,_,rfl,V8 (fun h=>hf (V.int.inj h)) ⟨rfl,rfl⟩⟩,?_⟩
       rintro σ' H2 ⟨rfl,rfl⟩
       refine⟨_,rfl,_,rfl,q,_,_,_,rfl,rfl,SqT.of eq,D9 (j:=1) rfl,_,rfl,q,_,_,_,rfl,rfl,SqT.of eq,D9 (j:=2) rfl,_,rfl,q,_,_,_,rfl,rfl,SqT.of eq,D9 (j:=3) rfl,z3,fun e ne=>?_⟩
       have u:=Same.upd (o:= .tup [.int x.f,.int 1,.int x.p]) ne
       have f0:=dx.f0;have f1:=dx.f1
       exact⟨_,rfl,q,_,_,_,rfl,rfl,SqT.of (u _ _ eq),D9 (j:=3) rfl,p,e,v,x.s,x.f,1,x.p,x.p,rfl,u _ _ ep,ok,A9,⟨by omega,Int.lt_of_lt_of_le f1 (V5 (by decide)),Int.le_refl _,by decide+kernel,dx.p0,dx.p1⟩,dx.s0,dx.s1,fun r H' s' h=>k r H' (u.trans s') h⟩
   . have ed:dueN v x=(x,[]):=by
       unfold dueN
       cases h:x.k with
       |plain=>exact absurd h hk
       |end_=>rfl
       |none=>rfl
     rw[ed] at k
     refine⟨fun σ' H'=>False,?_,fun _ _ h=>h.elim⟩
     refine⟨_,rfl,q,_,_,_,rfl,rfl,SqT.of eq,D9 (j:=0) rfl,rfl,_,rfl,Z1u (fun z=>hk (eqS (b:= .plain) z)) ?_⟩
     exact⟨_,rfl,Nat.zero_le _,fun l nl=>⟨z2,fun r nr=>k r _ ((Same.upd nl).trans (Same.upd nr)) ⟨q,l,[],A9,(Same.upd nl).trans (Same.upd nr) _ _ eq,Same.upd nr _ _ A9,fun _=>Iff.rfl,by decide⟩⟩⟩
end
noncomputable abbrev C2p:Stmt:=(top 62)
section
variable{P:Program}{w:World}{K:Frag}{mg:Str ->Option Value}{base:Heap}
noncomputable def V0p (K:Frag) (C1 C2 C3 C4 C5:Addr):Sp:=fun vs H Q _=>∃a C d b1 b2 b3 b4 b5,vs=[.ref a]/\ExcAt H a C d/\Fits K C C1 C2 C3 C4 C5 b1 b2 b3 b4 b5/\
 ∀H',Same H H' ->Q (.str (Z9v b1 b2 b3 b4 b5)) H'
theorem scWord:FnScope ["_law_e","_law_found"] ["_law_e"] (A1 C2p):=scK
theorem Y7b{f C1 C2 C3 C4 C5:Addr}(D:Def K mg "_law_word" ["_law_e"] C2p f fd)(O:Own mg)(E:Errs mg C1 C2 C3 C4 C5):FnOkH P w K mg base 1 f fd ["_law_e"] (V0p K C1 C2 C3 C4 C5):=by
 refine D.F.okH scWord (fun vs H Q E h=>?_) (fun cdv A outer s H vs Q hr hd h=>?_)
 . obtain⟨a,C,d,b1,b2,b3,b4,b5,rfl,_⟩:=h
   rfl
 . obtain⟨a,C,d,b1,b2,b3,b4,b5,rfl,ha,F,k⟩:=h
   refine⟨_,(B0 (G0 (i:=1) scWord.nd rfl (Or.inl rfl) (B9 A8q (B9 A5m (U1 (A0 C9 A7)) (J9 Y0 (by rfl) O.int_ boot_int (A0 (B3b O.isi (pv 0) (D2k E.g1)) A7))) (B9 A5m (U1 (A0 C9 A7)) (J9 Y0 (by rfl) O.int_ boot_int (A0 (B3b O.isi (pv 0) (D2k E.g2)) A7)))))
     (B0 (B3c (i:=1) scWord.nd rfl (Or.inl rfl) (B9 A8q (B9 A5m (U1 (A0 C9 A7)) (J9 Y0 (by rfl) O.int_ boot_int (A0 (B3b O.isi (pv 0) (D2k E.g3)) A7))) (B9 A5m (U1 (A0 C9 A7)) (J9 Y0 (by rfl) O.int_ boot_int (A0 (B3b O.isi (pv 0) (D2k E.g4)) A7)))) U9u)
     (B0 (B3c (i:=1) scWord.nd rfl (Or.inl rfl) (B9 A8q (B9 A5m (U1 (A0 C9 A7)) (J9 Y0 (by rfl) O.int_ boot_int (A0 (B3b O.isi (pv 0) (D2k E.g5)) A7))) (B9 A5m (U1 (A0 C9 A7)) (J9 Y0 (by rfl) O.int_ boot_int (A0 (G8f (B3b O.isi (pv 0) (pty O.ValueError_ (show bootBuiltins "ValueError"=some (.type "ValueError") by decide+kernel)))) A7)))) U9u)
     (B5 (C7 (U9p PySem.F.plainAttrs_str PySem.F.slot_str_join PySem.F.type_str_join Y5m C9 (A0 (pv 1) A7))))))),?_⟩
   refine D2y (fun H' Q' z q=>B5f rfl ha F.k F.h1 z q) (fun H' Q' z q=>B5f rfl ha F.k F.h2 z q) fun l H1 s1 n1 e1=>?_
   refine⟨_,rfl,D2y (fun H' Q' z q=>B5f rfl (ha.same s1) F.k F.h3 z q) (fun H' Q' z q=>B5f rfl (ha.same s1) F.k F.h4 z q) fun l2 H2 s2 n2 e2=>?_⟩
   have zz:∀(x y:Str) (b c:Bool),((A2f x b++A2f y c).map V.str).length<=2:=fun x y b c=>by cases b<;>cases c<;>simp[A2f]
   refine⟨l,l2,_,_,rfl,rfl,s2 _ _ e1,e2,D6 (by have:=zz "context" "number" b1 b2;have:=zz "text" "count" b3 b4;omega),?_⟩
   have s3:Same H (upd H2 l (.lst ((A2f "context" b1++A2f "number" b2).map V.str++(A2f "text" b3++A2f "count" b4).map V.str))):=fun b o z=>by
     rw[D3 (G2 z n1)]
     exact(s1.trans s2) _ _ z
   refine⟨_,rfl,D2y (c:=false) (fun H' Q' z q=>B5f rfl (ha.same s3) F.k F.h5 z q) (fun H' Q' z q=>⟨_,rfl,_,_,_,_,true,rfl,rfl,(ha.same (s3.trans z)).ty F.k,F.hv,_,rfl,q⟩) fun l3 H3 s4 n3 e3=>?_⟩
   refine⟨l,l3,_,_,rfl,rfl,s4 _ _ A9,e3,D6 (by have:=zz "context" "number" b1 b2;have:=zz "text" "count" b3 b4;have:=zz "trapped" "bare" b5 false;rw[List.length_append];omega),?_⟩
   have s5:Same H (upd H3 l (.lst (((A2f "context" b1++A2f "number" b2).map V.str++(A2f "text" b3++A2f "count" b4).map V.str)++(A2f "trapped" b5++A2f "bare" false).map V.str))):=fun b o z=>by
     rw[D3 (G2 z n1)]
     exact(s3.trans s4) _ _ z
   refine⟨rfl,_,rfl,_,l,D2h b1 b2 b3 b4 b5,rfl,rfl,SqL.of ?_,Y6k _ _ _ _ _,k _ s5⟩
   rw[A9]
   simp only[D2h,List.map_append]
end
section
variable{P:Program}{w:World}{K:Frag}{mg:Str ->Option Value}{base:Heap}
theorem U7r{X:Cx}{e:Expr}{f:Str}{pos:Pos}{ta:TE}(hK:X.K=K)(he:PE X e ta)(hb:attributeBase e f X.env (eval e X.env)=eval e X.env):PE X (.Attribute e f pos) (Z1t K ta f):=by
 subst hK
 exact Y4u he hb
theorem U1v{X:Cx}{k:Nat}{EH:EK}{x y:Str}{p p1 pos:Pos}{i i1:Nat}(hx:G7 X EH)(hr:Room k X.A)(hN:X.N[i]?=some x)(hv:Vis X.env.scope x)(hN1:X.N[i1]?=some y)(hv1:Vis X.env.scope y)(e1:X.prog=P)(e2:X.w=w)(e3:X.K=K)(e4:X.mg=mg)(e5:X.base=base)(hex:X.ex=[]:=by rfl)(hd:(x==("__debug__":Str))=false:=by decide)(hcd:(x==("__classdict__":Str))=false:=by decide)(hd1:(y==("__debug__":Str))=false:=by decide)(hcd1:(y==("__classdict__":Str))=false:=by decide)
   (he:starEach [.Name y p1] X.env=(false,eval (.Name y p1) X.env)::starEach [] X.env:=by rfl) (hpl:(backTo pos (starEach [] X.env)).any (·.1)=false:=by rfl):
   PE X (.Call (.Name x p) [.Name y p1] [] pos) (U7p P w K mg base k i i1 EH):=by
 subst e1 e2 e3 e4 e5
 exact V0d hN hv hN1 hv1 hr hx hex hd hcd hd1 hcd1 he hpl
noncomputable def AnsQ (CN:Addr) (Q:VK):VK:=fun v H1=>∃n x,v= .ref n/\NumIs CN H1 n x/\∀t,H1 t=none ->Q (.ref t) (upd H1 t (.tup (Nm.vs x)))
noncomputable def AnsE (CT:Addr) (Q:VK):XK:=fun C dd H1=>∃d sg,C= .ref CT/\dd=some d/\H1 d=some (.xd [("signal",.str sg)])/\∀t H2,Same H1 H2 ->H1 t=none ->H2 t=some (.tup [.str "refused",.str sg]) ->Q (.ref t) H2
noncomputable def G8p (P:Program) (w:World) (K:Frag) (mg:Str ->Option Value) (base:Heap) (k:Nat) (CN CT:Addr):Sp:=fun vs H Q _=>∃f v J spd,vs=[.ref f,v]/\DeedOk1 P w K mg base k f J spd/\J H/\
 ∀(Qd:VK) (Ed:XK),(∀v H1,AnsQ CN Q v H1 ->Qd v H1) ->(∀C dd H1,AnsE CT Q C dd H1 ->Ed C dd H1) ->spd v H Qd Ed
theorem scLAns:FnScope ["_law_deed","_law_context","_law_e"] ["_law_deed","_law_context"] (A1 C2a):=scK
theorem Y5b{k:Nat}{f f1 CN CB CT CR:Addr}(hk:2<=k)(D:Def K mg "_law_answer" ["_law_deed","_law_context"] C2a f fd)(dA:Def K mg "told" ["number"] C0m f1 fd1)(dB:FnOk P w K mg base (CX1 P w) 2 f1 fd1 ["number"] (G7n K CN CB))(R:CaughtA K mg CT CR)(O:Own mg):
   FnOk P w K mg base (CX1 P w) (k+1) f fd ["_law_deed","_law_context"] (G8p P w K mg base k CN CT):=by
 refine D.F.okE scLAns (fun vs H Q E h=>?_) (fun X cdv A outer s H vs Q E hX hr hx h=>?_)
 . obtain⟨f,v,J,spd,rfl,_⟩:=h
   rfl
 . subst hX
   obtain⟨g,v,J,spd,rfl,DO,hJ,h⟩:=h
   have z2:2<=sizeLine:=D6 (by decide)
   refine⟨_,(B0 (V0k ⟨rfl,rfl,rfl⟩ (by rfl) R.gR R.c scLAns.nd (i:=2) rfl rfl (fun pins Ew EHb hc=>(B5 (C7 (D8 (hj:=hk) dA dB hr hc (A0 (U1v (P:=P) (w:=w) (K:=K) (mg:=mg) (base:=base) (i:=0) (i1:=1) hc hr rfl (.inl rfl) rfl (.inl rfl) rfl rfl rfl rfl rfl) A7)))))
     (fun pins a=>(B5 (J0 (PW.pt (D1s (Y6 (J9m (K:=K) rfl O.isi (pv 2) (D2k R.gT))) (C1c (Y6 (J9m (K:=K) rfl O.isi (pv 2) (pty O.ValueError_ (show bootBuiltins "ValueError"=some (.type "ValueError") by decide+kernel))))))) (B5 (C7 (V4 (A0 C9 (A0 (U7r (K:=K) rfl (pv 2) rfl) A7))))) D7))))
     (B5 (C7 (V4 (A0 C9 (A0 C9 A7)))))),?_⟩
   refine⟨g,v,J,_,rfl,rfl,DO,hJ,h _ _ (fun v H1 ⟨n,x,ev,num,k⟩=>?_) (fun C dd H1 ⟨d,sg,eC,ed,e,k⟩=>?_)⟩
   . subst ev
     exact⟨_,rfl,.inl ⟨n,_,_,_,_,rfl,num,k⟩⟩
   . subst eC ed
     refine⟨R.sub,fun a t T na=>?_⟩
     have u:=Same.upd (o:= .frz (Z4 (.ref CT) t (some d) (.ref T)) (.own a)) na
     have u2:∀p,upd H1 a (.frz (Z4 (.ref CT) t (some d) (.ref T)) (.own a)) p=none ->H1 p=none:=fun p np=>u.free np
     have ty:TyE K (upd H1 a (.frz (Z4 (.ref CT) t (some d) (.ref T)) (.own a))) (.ref a) (.ref CT):= .excD A9 (u _ _ e) R.k
     refine⟨_,rfl,_,_,_,_,true,rfl,rfl,ty,R.kT,_,rfl,Z2 ⟨_,rfl,_,_,_,_,true,rfl,rfl,ty,R.kv,_,rfl,Z2 ?_⟩⟩
     refine⟨_,rfl,a,CT,_,_,d,_,_,_,rfl,A9,u _ _ e,R.k,R.dict,R.nosig,rfl,z2,fun p np=>?_⟩
     exact k p _ (u.trans (Same.upd np)) (u2 p np) A9
noncomputable def C2v (K:Frag) (CN CB:Addr):Sp:=fun vs H Q E=>∃c v,vs=[c,v]/\C2f K CN H v/\E (.ref CB) none H
theorem G2p{f f1 f2 f3 fI CN CC CB' CT CR CE:Addr}{fd fd1 fd2 fd3 fdI:FuncData}{d0:Value}{gP:List Value ->List Value ->List Value}{vP:List V ->List V ->List V}(D:Def K mg "rounded" ["context","number"] A0d f fd)
   (dA:Def K mg "need_number" ["thing"] A5r f1 fd1) (dB:FnOk P w K mg base (CX1 P w) 1 f1 fd1 ["thing"] (D3c K CN CB')) (dC:Def K mg "nought" ["context","sign","ideal"] A1j f2 fd2) (dD:FnOk P w K mg base (CX1 P w) 3 f2 fd2 ["context","sign","ideal"] (B5h CN CC))
   (dE:Def K mg "settled" ["context","sign","exact","ideal"] A1m f3 fd3) (dF:FnOk P w K mg base (CX1 P w) 6 f3 fd3 ["context","sign","exact","ideal"] (B6p CN CC CT CR)) (MR:MakeR P w K mg base CR fI fdI d0 gP vP) (R:RatC K mg CR CE) (N:Num K mg CN):
   FnOk P w K mg base (CX1 P w) 7 f fd ["context","number"] (C2v K CN CB'):=by
 refine D.F.okE D0a (fun vs H Q E h=>?_) (fun X cdv A outer s H vs Q E hX hr hx h=>?_)
 . obtain⟨c,v,rfl,_⟩:=h
   rfl
 . subst hX
   obtain⟨c,v,rfl,nn,k⟩:=h
   refine⟨_,(B0 (Y2 (D8 dA dB hr hx (A0 (pv 1) A7)))
     (B0 (J0 (D5 C1k (G8 (pv 1) rfl) C9 (D4 _)) (B5 (C7 (pv 1))) D7)
     (B0 (J0 (D5 U2 (G8 (pv 1) rfl) A3 (D4 _)) (B5 (C7 (D8 dC dD hr hx (A0 (pv 0) (A0 (G8 (pv 1) rfl) (A0 (G8 (pv 1) rfl) A7)))))) D7)
     (B5 (C7 (D8 dE dF hr hx (A0 (pv 0) (A0 (G8 (pv 1) rfl) (A0 (C0k MR.m MR.g hr R.g MR.b3 .nil hx (A0 (G8 (pv 1) rfl) (A0 A3 (A0 (G8 (pv 1) rfl) A7)))) (A0 (G8 (pv 1) rfl) A7)))))))))),?_⟩
   exact⟨_,rfl,_,rfl,.inr ⟨nn,k⟩⟩
structure CaughtB(K:Frag)(mg:Str ->Option Value)(CR C1 CB C3 C4 C5:Addr):Prop where
 g:mg "ReckonError"=some (.ref CR)
 c:Clause K CR
 sub:subIn K (.ref CB) (.ref CR)=some true
 fits:Fits K CB C1 CB C3 C4 C5 false true false false false
noncomputable def G1t (K:Frag) (CN:Addr):Sp:=fun vs H Q _=>∃c v,vs=[c,v]/\C2f K CN H v/\∀H',Same H H' ->Q (.bl true) H'
theorem scLRef12:FnScope ["_law_context","_law_thing","_law_e"] ["_law_context","_law_thing"] (A1 A5p):=scK
theorem U0x{f f1 f2 CN CR C1 CB C3 C4 C5:Addr}(D:Def K mg "_law_refused" ["_law_context","_law_thing"] A5p f fd)(dA:Def K mg "rounded" ["context","number"] A0d f1 fd1)(dB:FnOk P w K mg base (CX1 P w) 7 f1 fd1 ["context","number"] (C2v K CN CB))
   (dC:Def K mg "_law_word" ["_law_e"] C2p f2 fd2) (dD:FnOkH P w K mg base 1 f2 fd2 ["_law_e"] (V0p K C1 CB C3 C4 C5)) (C:CaughtB K mg CR C1 CB C3 C4 C5):FnOk P w K mg base (CX1 P w) 8 f fd ["_law_context","_law_thing"] (G1t K CN):=by
 refine FnOk.up (D.F.ok scLRef12 (fun vs H Q E h=>?_) (fun cdv A outer s H vs Q E hr h=>?_))
 . obtain⟨c,v,rfl,_⟩:=h
   rfl
 . obtain⟨c,v,rfl,bad,k⟩:=h
   refine⟨_,(B0 (V0k ⟨rfl,rfl,rfl⟩ (by rfl) C.g C.c scLRef12.nd (i:=2) rfl rfl (fun pins Ew EHb hc=>(B5 (Y2 (D8 dA dB hr hc (A0 (pv 0) (A0 (pv 1) A7))))))
     (fun pins a=>(B5 (C7 (G9 U2 (Y5q (a:=a) rfl dC dD (hr.hm _) (A0 (pv 2) A7)) C9 (D4 _))))))
     (B5 (C7 A0j))),?_⟩
   refine⟨_,rfl,_,rfl,_,_,rfl,bad,C.sub,fun a t T na=>?_⟩
   have u:=Same.upd (o:= .frz (Z4 (.ref CB) t none (.ref T)) (.own a)) na
   refine⟨_,rfl,⟨_,_,_,A9,rfl,rfl⟩,a,CB,_,false,true,false,false,false,rfl,⟨_,_,_,A9,fun _ e=>by cases e⟩,C.fits,fun H' sm=>?_⟩
   refine⟨rfl,?_⟩
   exact k H' (u.trans sm)
end
theorem CtxAt.hide{CC:Addr}{H:Hp}{cs:List Addr}{c:Addr}{r:Int}{y:Wy}{l m:Int}{a b:Addr}{xs ys:List V}(h:CtxAt CC H c r y l m a b xs ys)(A:AllFrz cs H):CtxAt CC (V7 cs H) c r y l m a b xs ys:=by
 obtain⟨⟨dx,e⟩,ha,hb⟩:=h
 exact⟨⟨dx,A.hide e (fun _ z=>by cases z)⟩,A.hide ha (fun _ z=>by cases z),A.hide hb (fun _ z=>by cases z)⟩
theorem NumIs.hide{CN:Addr}{H:Hp}{cs:List Addr}{n:Addr}{x:Nm}(h:NumIs CN H n x)(A:AllFrz cs H):NumIs CN (V7 cs H) n x:=by
 obtain⟨dx,e⟩:=h
 exact⟨dx,A.hide e (fun _ z=>by cases z)⟩
theorem NumIs.back{CN:Addr}{H H':Hp}{cs:List Addr}{n:Addr}{x:Nm}(h:NumIs CN H' n x)(hn:∀c∈cs,H' c=none):NumIs CN (Z6 cs H H') n x:=by
 obtain⟨dx,e⟩:=h
 exact⟨dx,by rw[V6 fun z=>by rw[hn n z] at e;cases e];exact e⟩
theorem NumIs.keep{CN:Addr}{H H':Hp}{n:Addr}{x:Nm}(h:NumIs CN H n x)(s:Y5w H H'):NumIs CN H' n x:=by
 obtain⟨dx,e⟩:=h
 exact⟨dx,s _ _ (fun _ z=>by cases z) e⟩
theorem CtxAt.keep{CC:Addr}{H H':Hp}{c:Addr}{r:Int}{y:Wy}{l m:Int}{a b:Addr}{xs ys:List V}(h:CtxAt CC H c r y l m a b xs ys)(s:Y5w H H'):CtxAt CC H' c r y l m a b xs ys:=by
 obtain⟨⟨dx,e⟩,ha,hb⟩:=h
 exact⟨⟨dx,s _ _ (fun _ z=>by cases z) e⟩,s _ _ (fun _ z=>by cases z) ha,s _ _ (fun _ z=>by cases z) hb⟩
theorem G2f{cs:List Addr}{c:Addr}{H H1:Hp}(x:Exc c (V7 cs H) H1):Exc c H (Z6 cs H H1):=fun b o e n=>by
 by_cases hb:b∈cs
 . rw[D2b hb];exact e
 . rw[V6 hb]
   exact x b o (by rw[Y4 hb];exact e) n
theorem CtxAt.back{CC:Addr}{H H':Hp}{cs:List Addr}{c:Addr}{r:Int}{y:Wy}{l m:Int}{a b:Addr}{xs ys:List V}(h:CtxAt CC H' c r y l m a b xs ys)(hn:∀c∈cs,H' c=none):CtxAt CC (Z6 cs H H') c r y l m a b xs ys:=by
 obtain⟨⟨dx,e⟩,ha,hb⟩:=h
 have out:∀{p:Addr} {o:HO},H' p=some o ->p ∉ cs:=fun e z=>by rw[hn _ z] at e;cases e
 exact⟨⟨dx,by rw[V6 (out e)];exact e⟩,by rw[V6 (out ha)];exact ha,by rw[V6 (out hb)];exact hb⟩
theorem Ends2.hide{CN CC CT:Addr}{H:Hp}{cs:List Addr}{c:Addr}{v:Cv}{b:Addr}{xs ys:List Str}{res:Nm×List Str}{Q:VK}{E:XK}(k:Ends2 CN CC CT H c v b xs ys res Q E):
   Ends2 CN CC CT (V7 cs H) c v b xs ys res (fun u H1=>(∀c∈cs,H1 c=none) ->Q u (Z6 cs H H1)) (fun C d H1=>(∀c∈cs,H1 c=none) ->E C d (Z6 cs H H1)):=
 ⟨fun hn m a' H1 x ct nm no=>k.1 hn m a' _ (G2f x) (CtxAt.back ct no) (nm.back no),fun z hz a' d H1 x ct ed no=>k.2 z hz a' d _ (G2f x) (CtxAt.back ct no) (by rw[V6 fun q=>by rw[no _ q] at ed;cases ed];exact ed)⟩
theorem FnOk.toG{P:Program}{w:World}{K:Frag}{mg:Str ->Option Value}{base:Heap}{CX:CXT}{k:Nat}{ps:List Str}{sp:Sp}(F:FnOk P w K mg base CX k f fd ps sp):FnOkG P w K mg base CX k f fd ps sp:=⟨F.len,fun A outer s H args us vs Q E _=>F.run A outer s H args us vs Q E⟩
theorem B4t{P:Program}{w:World}{K:Frag}{mg:Str ->Option Value}{base:Heap}{k:Nat}{qual:Str}{params:Arguments}{body:Expr}{scope:Scope}{cl:List (Str×Addr)}{vs:List V}{sp:V ->Hp ->VK ->XK ->Prop}{pr:Str}{H0:Hp}(_:LamAt H0 f qual params body scope cl)
   (S:LamS (cl.map (·.1)) scope) (hp:scope.names.lookup pr=some .local) (hF:cl.length=vs.length) (hnd:(cl.map (·.2)).Nodup)
   (hb0:∀(pm:Value) (c':Addr) (ctv:Value) (u:Value),bindArgs (kla_fn "<lambda>" qual params body scope cl pm (.ref c') ctv) ⟨[u],[]⟩=pure [(pr,u)])
   (hbody:∀(X:Cx) (cdv:Value) (A:Around) (outer:List Env) (s:Shared) (H:Hp) (y:V) (Q:VK) (E:XK),X=C2y (CX1 P w) P w K mg base (pr::cl.map (·.1)) qual scope f cdv cl A outer s (V7 (cl.map (·.2)) H) (fun C d H'=>(∀c∈cl.map (·.2),H' c=none) ->E C d (Z6 (cl.map (·.2)) H H')) ->Room k X.A ->
     G7 X (fun C dd _ H'=>(∀c∈cl.map (·.2),H' c=none) ->E C dd (Z6 (cl.map (·.2)) H H')) ->sp y H Q E ->AllFrz (cl.map (·.2)) H ->
     ∃t,PE (C2y (CX1 P w) P w K mg base (pr::cl.map (·.1)) qual scope f cdv cl A outer s (V7 (cl.map (·.2)) H) (fun C d H'=>(∀c∈cl.map (·.2),H' c=none) ->E C d (Z6 (cl.map (·.2)) H H'))) body t/\t (some y::vs.map some) (V7 (cl.map (·.2)) H) (fun v H'=>(∀c∈cl.map (·.2),H' c=none) ->Q v (Z6 (cl.map (·.2)) H H'))):
   DeedOk1 P w K mg base (k+1) f (Z3f f qual params body scope cl vs) sp:=U9q S hp hF hnd hb0 hbody
theorem TabOk.exc{P0:Addr}{pos:Pos}{q:Str}{H3 H6:Hp}{c C0 d0:Addr}{F:List (Str×V)}(h:TabOk P0 pos q H3)(x:Exc c H3 H6)(ec:H3 c=some (.ins C0 d0 F)):TabOk P0 pos q H6:=by
 obtain⟨ps,eP,rest⟩:=id h
 refine h.at fun b o e hb=>?_
 rcases hb with rfl|⟨oc,rfl⟩
 . rw[eP] at e
   cases e
   exact x _ _ eP (A4r eP ec (by intro z;cases z))
 . exact x _ _ e (A4r e ec (by intro z;cases z))
section
variable{P:Program}{w:World}{K:Frag}{mg:Str ->Option Value}{base:Heap}{CN CC CT:Addr}
theorem D2r{k:Nat}{qual:Str}{params:Arguments}{body:Expr}{scope:Scope}{cl:List (Str×Addr)}{vs:List V}{spd:V ->Hp ->VK ->XK ->Prop}{H3 H4:Hp}{f c a b:Addr}{v:Cv}{xs ys:List Str}{res:Nm×List Str}{Q:VK}{E:XK}
   (la:LamAt H3 f qual params body scope cl) (hn:∀c∈cl.map (·.2),H3 c=none) (ho:∀b,b ∉ cl.map (·.2) ->H4 b=H3 b) (A4:AllFrz (cl.map (·.2)) H4) (kn:∀(i:Nat) (x:Str) (c:Addr),cl[i]?=some (x,c) ->∃v,vs[i]?=some v/\U8b H4 c v)
   (DO:DeedOk1 P w K mg base k f (Z3f f qual params body scope cl vs) spd) (ct:CtxV CC H3 c v a b xs ys)
   (hD:∀Qd Ed,Same H3 H4 ->CtxV CC H4 c v a b xs ys ->Ends2 CN CC CT H4 c v b xs ys res Qd Ed ->spd (.ref c) H4 Qd Ed)
   (fin1:hit ys res.2=none ->∀tt a' H6,Exc c H3 H6 ->CtxV CC H6 c v a' b (V1 (xs++res.2)) ys ->H6 tt=some (.tup res.1.vs) ->Q (.ref tt) H6)
   (fin2:∀z,hit ys res.2=some z ->∀tt a' H6,Exc c H3 H6 ->CtxV CC H6 c v a' b (V1 (xs++res.2)) ys ->H6 tt=some (.tup [.str "refused",.str z]) ->Q (.ref tt) H6):
   G8p P w K mg base k CN CT [.ref f,.ref c] H4 (fun u H'=>(∀c∈cl.map (·.2),H' c=H4 c) ->Q u (V7 (cl.map (·.2)) H')) E:=by
 have k34:Same H3 H4:=fun b o e=>by
   rw[ho b fun z=>by rw[hn b z] at e;cases e]
   exact e
 obtain⟨dx,ec⟩:=(ct.same k34).ins
 have rest:∀{H5 H6:Hp} {tt:Addr} {o:HO},Exc c H4 H5 ->Same H5 H6 ->H5 tt=none ->H6 tt=some o ->AllFrz (cl.map (·.2)) H6/\Exc c H3 (V7 (cl.map (·.2)) H6)/\V7 (cl.map (·.2)) H6 tt=some o:=fun{H5 H6 tt o} x5 s6 nt et=>by
   have A5:∀c'∈cl.map (·.2),∃o,H5 c'=some (.frz o (.own c')):=fun c' hc'=>by
     obtain⟨o,e⟩:=A4 c' hc'
     exact⟨o,x5 _ _ e (A4r e ec (by intro z;cases z))⟩
   refine⟨fun c' hc'=>?_,fun b o e nb=>?_,?_⟩
   . obtain⟨o,e⟩:=A5 c' hc'
     exact⟨o,s6 _ _ e⟩
   . rw[Y4 fun z=>by rw[hn b z] at e;cases e]
     exact s6 _ _ (x5 _ _ (k34 _ _ e) nb)
   . rw[Y4 fun z=>?_]
     . exact et
     . obtain⟨o,e⟩:=A5 tt z
       rw[nt] at e
       cases e
 refine⟨f,.ref c,_,spd,rfl,DO,⟨la.kept (fun b o e=>k34 b _ e),kn⟩,fun Qd Ed hQ hE=>hD Qd Ed k34 (ct.same k34) ⟨fun hh m a' H5 x5 ct5 num=>hQ _ _ ⟨m,res.1,rfl,num,fun tt nt _=>?_⟩,fun z hz a' d H5 x5 ct5 ed=>hE _ _ _ ⟨d,z,rfl,rfl,ed,fun tt H6 s6 nt et _=>?_⟩⟩⟩
 . obtain⟨r1,r2,r3⟩:=rest x5 (Same.upd nt) nt (A9 (o:= .tup res.1.vs))
   exact fin1 hh tt a' _ r2 (CtxAt.hide (ct5.same (Same.upd nt)) r1) r3
 . obtain⟨r1,r2,r3⟩:=rest x5 s6 nt et
   exact fin2 z hz tt a' _ r2 (CtxAt.hide (ct5.same s6) r1) r3
end
noncomputable abbrev C0y:Stmt:=(top 78)
noncomputable def A5g:Str:=("law":Str)++".<locals>."++"<lambda>"
noncomputable def pL0:Pos:=⟨452,39,452,88⟩
noncomputable def pL1:Pos:=⟨457,33,457,100⟩
noncomputable def pL2:Pos:=⟨465,19,465,52⟩
noncomputable def pL3:Pos:=⟨468,29,468,62⟩
theorem flat_strs(zs:List Str):(zs.map V.str).all B2p=true:=by
 rw[List.all_eq_true]
 intro x hx
 obtain⟨z,_,rfl⟩:=List.mem_map.mp hx
 rfl
theorem D0w{K:Frag}{l:Addr}{zs:List Str}{g:TG}{tc:TT}{te:TE}{σ0:L2.St}{H1:Hp}{QD:Addr ->Hp ->Prop}(f:Str ->Bool)(el:H1 l=some (.lst (zs.map V.str)))(hn:zs.length<=1000)
   (step:∀(z:Str) (H3:Hp) (Qy:VK) (Qn:Hp ->Prop),Same H1 H3 ->(f z=true ->Qy (.str z) H3) ->(f z=false ->Qn H3) ->g (.str z) σ0 H3 fun σ4 H4=>tc σ4 H4 fun b H5=>if b=true then te σ4 H5 Qy else Qn H5)
   (k:∀D H',Same H1 H' ->H1 D=none ->H' D=some (.lst ((zs.filter f).map V.str)) ->QD D H'):∀D,H1 D=none ->
   ∃ (m:Nat) (W:Nat ->List V ->Hp ->Prop),W 0 [] (upd H1 D (.lst []))/\∀i ys H2,W i ys H2 ->i<=m/\H2 D=some (.lst ys)/\(((Itl K l).stop i H2/\QD D H2)\/(i<m/\(Itl K l).go i H2/\∀x H3,(Itl K l).yld i H2 x H3 ->
     g x σ0 H3 fun σ4 H4=>tc σ4 H4 fun b H5=>if b=true then te σ4 H5 fun y H6=>H6 D=some (.lst ys)/\ys.length<sizeLine/\W (i+1) (ys++ [y]) (upd H6 D (.lst (ys++ [y]))) else W (i+1) ys H5)):=by
 have sq:∀{H2},Same H1 H2 ->SqL K H2 l (zs.map V.str):=fun s=>SqL.of (s _ _ el)
 refine U9n (J:=Itl K l) (n:=zs.length) (fun i=>f (zs.getD i "")) (fun i y _=>y= .str (zs.getD i "")) hn (fun _ _ _ _ _ _ h _ _=>h) (fun i H2 Qy Qn hi sm hy hnn=>?_) (fun H2 s2=>⟨_,sq s2,by rw[List.length_map];exact Nat.le_refl _⟩) (fun D H' ys s' nD eD hl hr=>k D H' s' nD ?_)
 . have at_:(zs.map V.str)[i]?=some (.str (zs.getD i "")):=by
     rw[List.getElem?_map,List.getElem?_eq_getElem hi]
     simp[hi]
   refine⟨⟨_,_,sq sm,at_⟩,fun x H3 y=>?_⟩
   obtain⟨rfl,yl⟩:=y
   have ex:=yl _ (sq sm)
   rw[at_] at ex
   obtain rfl:=(Option.some.inj ex).symm
   exact step _ _ Qy Qn sm (fun e=>hy e _ _ (Same.refl _) rfl) (fun e=>hnn e _ (Same.refl _))
 . rw[eD,Y5v hl hr]
theorem U8u(us:List Str):sigS.filter (fun z=>inV (.str z) (us.map V.str))=V1 us:=by
 unfold V1
 refine List.filter_congr fun z _=>?_
 rw[A2n]
theorem U7b{us zs ws:List Str}(h:∀z,z∈zs↔z∈ws):V1 (V1 us++ws)=V1 (us++zs):=by
 unfold V1
 refine List.filter_congr fun z hz=>?_
 rw[Bool.eq_iff_iff,List.contains_iff_mem,List.contains_iff_mem,List.mem_append,List.mem_append,List.mem_filter,List.contains_iff_mem,h]
 exact or_congr ⟨fun x=>x.2,fun x=>⟨hz,x⟩⟩ Iff.rfl
theorem C1r(us:List Str):V1 (V1 us)=V1 us:=by
 have:=U7b (us:=us) (zs:=[]) (ws:=[]) (fun _=>Iff.rfl)
 rw[List.append_nil,List.append_nil] at this
 exact this
theorem V0g(us:List Str):(V1 us).length<=7:=List.length_filter_le _ _
theorem D3h(us:List Str):OkL (V1 us):=(U9z us).ok
theorem U1u{v:Cv}{x:Nm}:B3k v x (x.p+B8 x.f 1)=dueN v x:=by
 unfold B3k dueN
 cases x.k with
 |plain=>rfl
 |end_=>rfl
 |none=>rfl
theorem NumIs.exc1{CN:Addr}{H H':Hp}{n c:Addr}{x:Nm}(h:NumIs CN H n x)(s:Exc c H H')(nc:n≠c):NumIs CN H' n x:=by
 obtain⟨dx,z⟩:=h
 exact⟨dx,s _ _ z nc⟩
structure H12(CC P0:Addr)(K:Frag)(sc:Addr)(ns:List Int)(t c b ul:Addr)(v:Cv)(xs us:List Str)(H:Hp)(a:Addr):Prop where
 et:H t=some (.tup v.vs)
 ct:CtxV CC H c v a b xs []
 eu:H ul=some (.lst (us.map V.str))
 t0:TabOk P0 pL0 A5g H
 t1:TabOk P0 pL1 A5g H
 t2:TabOk P0 pL2 A5g H
 t3:TabOk P0 pL3 A5g H
 scr:SqL K H sc (ns.map V.int)
section
variable{CC P0:Addr}{K:Frag}{sc:Addr}{ns:List Int}{t c b ul:Addr}{v:Cv}{xs us:List Str}{H H':Hp}{a:Addr}
theorem H12.same(h:H12 CC P0 K sc ns t c b ul v xs us H a)(s:Same H H'):H12 CC P0 K sc ns t c b ul v xs us H' a:=⟨s _ _ h.et,h.ct.same s,s _ _ h.eu,h.t0.same s,h.t1.same s,h.t2.same s,h.t3.same s,s.seq h.scr⟩
theorem H12.lam(h:H12 CC P0 K sc ns t c b ul v xs us H a)(s:SameT P0 H H')(t0:TabOk P0 pL0 A5g H')(t1:TabOk P0 pL1 A5g H')(t2:TabOk P0 pL2 A5g H')(t3:TabOk P0 pL3 A5g H'):H12 CC P0 K sc ns t c b ul v xs us H' a/\Y5w H H':=by
 obtain⟨ps,eP,_⟩:=h.t0
 have k:=s.keep eP
 refine⟨⟨k _ _ (fun _ z=>by cases z) h.et,CtxAt.keep h.ct k,k _ _ (fun _ z=>by cases z) h.eu,t0,t1,t2,t3,h.scr.kept fun o e hb=>k _ _ ?_ e⟩,k⟩
 rcases hb with rfl|⟨oc,rfl⟩<;>exact fun _ z=>by cases z
theorem H12.exc{xs':List Str}{a':Addr}(h:H12 CC P0 K sc ns t c b ul v xs us H a)(x:Exc c H H')(ct:CtxV CC H' c v a' b xs' []):H12 CC P0 K sc ns t c b ul v xs' us H' a':=by
 obtain⟨dx,ec⟩:=h.ct.ins
 refine⟨x _ _ h.et (A4r h.et ec (by intro z;cases z)),ct,x _ _ h.eu (A4r h.eu ec (by intro z;cases z)),TR.TabOk.exc h.t0 x ec,TR.TabOk.exc h.t1 x ec,TR.TabOk.exc h.t2 x ec,TR.TabOk.exc h.t3 x ec,h.scr.kept fun o e hb=>?_⟩
 rcases hb with rfl|⟨oc,rfl⟩
 . exact x _ _ e (A4r e ec (by intro z;cases z))
 . exact x _ _ e (A4r e ec (by intro z;cases z))
end
structure OddC(K:Frag)(CC CN:Addr):Prop where
 ca:findIn K (.ref CC) "__class__"=some (some (.builtin "object.__class__"))
 sn:specialIn K (.builtin "object.__class__") "__get__"=some (some (.builtin "getset_descriptor.__get__"))
 tk:takesIn K (.builtin "object.__class__")=some true
 ob:mroIn K CC (.type "object")=some true
 no:kitOne K (.ref CC) (.ref CN)=some false
noncomputable def U8y (a b:Str):PyData:= .tuple [.str a,.str b]
theorem rdR2{K:Frag}{H:Hp}{d:Addr}{a b:Str}(h:H d=some (.tup [.str a,.str b])):RdD K H (.ref d) (U8y a b):= .tup (SqT.of h) (.cons (.str _) (.cons (.str _) .nil))
noncomputable abbrev A8a (sc t c ul:Addr) (k cell nq n dt dl ans ideal found odd:Option V):L2.St:=[some (.ref sc),some (.ref t),some (.ref c),some (.ref ul),k,cell,nq,n,dt,dl,ans,ideal,found,odd]
theorem Z2w(n:Nat):([n+1+1+1+1,n+1+1]:List Nat).Nodup:=by
 refine List.nodup_cons.mpr ⟨fun h=>?_,List.nodup_cons.mpr ⟨fun h=>?_,List.nodup_nil⟩⟩
 . simp only[List.mem_cons,List.not_mem_nil,or_false] at h
   omega
 . simp only[List.not_mem_nil] at h
section
variable{P:Program}{w:World}{K:Frag}{mg:Str ->Option Value}{base:Heap}
noncomputable def spDR (CN CC CT c n:Addr) (v:Cv) (b:Addr) (xs:List Str) (x:Nm):V ->Hp ->VK ->XK ->Prop:=fun y H Q E=>y= .ref c/\(∃a,CtxV CC H c v a b xs [])/\NumIs CN H n x/\Ends2 CN CC CT H c v b xs [] (dueN v x) Q E
noncomputable def Z2k (CN CC CT c:Addr) (v:Cv) (b:Addr) (xs ys:List Str) (res:Nm×List Str):V ->Hp ->VK ->XK ->Prop:=fun y H Q E=>y= .ref c/\(∃a,CtxV CC H c v a b xs ys)/\Ends2 CN CC CT H c v b xs ys res Q E
noncomputable def J9g (K:Frag) (P0:Addr):Sp:=fun vs H Q _=>∃a ns,vs=[.ref a]/\(ns:List Int).length<=63/\SqL K H a (ns.map V.int)/\H P0=some (.tbl #[])/\∀H',Q (.bl true) H'
theorem scLaw:FnScope ["_law_script","_law_parts","_law_context","_law_up","_law_k","_law_cell","_law_number_here","_law_handed","_law_due","_law_some","_law_answer_here","_law_ideal","_law_found","_law_odd"] ["_law_script"] (A1 C0y):=scK
theorem Z4h{f cc P0 f1 f2 f3 f4 f5 f6 f7 f8 f9 f10 f11 f12 f13 f14 CC CN CB CB' CT C2:Addr}{fd fd1 fd2 fd3 fd4 fd5 fd6 fd7 fd8 fd9 fd10 fd11 fd12 fd13 fd14 fdI:FuncData}(D:Def K mg "law" ["_law_script"] C0y f fd)(hcode:fd.code= .ref cc)(LB:LamB mg base cc P0)
   (dC:Def K mg "_law_cell_at" ["_law_script","_law_k"] C1q f1 fd1) (dD:FnOk P w K mg base (CX1 P w) 1 f1 fd1 ["_law_script","_law_k"] (U9f K)) (dE:Def K mg "_law_mixed" ["_law_cell","_law_k"] A8t f2 fd2) (dF:FnOk P w K mg base (CX1 P w) 1 f2 fd2 ["_law_cell","_law_k"] D1u)
   (dP:Def K mg "_law_drawn_context" ["_law_cell"] B3f f3 fd3) (dQ:FnOk P w K mg base (CX1 P w) 2 f3 fd3 ["_law_cell"] J8p) (dS:Def K mg "_law_drawn_number" ["_law_cell","_law_parts"] B3h f4 fd4) (dU:FnOk P w K mg base (CX1 P w) 3 f4 fd4 ["_law_cell","_law_parts"] J8b)
   (dW:Def K mg "_law_number" ["_law_parts"] A5b f5 fd5) (dX:FnOk P w K mg base (CX1 P w) 4 f5 fd5 ["_law_parts"] (G2a CN)) (dY:Def K mg "_law_rounded_due" ["_law_parts","_law_number_here"] G7z f6 fd6) (dZ:FnOk P w K mg base (CX1 P w) 3 f6 fd6 ["_law_parts","_law_number_here"] Z1p)
   (dA:Def K mg "_law_answer" ["_law_deed","_law_context"] C2a f7 fd7) (dB:FnOkG P w K mg base (CX1 P w) 9 f7 fd7 ["_law_deed","_law_context"] (G8p P w K mg base 8 CN CT)) (dG:Def K mg "_law_whole" ["_law_found"] A1b f8 fd8) (dH:FnOk P w K mg base (CX1 P w) 1 f8 fd8 ["_law_found"] C3c)
   (gA:Def K mg "_law_nought_power" ["_law_parts","_law_ideal"] G1s f9 fd9) (gB:FnOk P w K mg base (CX1 P w) 1 f9 fd9 ["_law_parts","_law_ideal"] U9e) (dJ:Def K mg "_law_signals" [] C3e f10 fd10) (dL:FnOk P w K mg base (CX1 P w) 1 f10 fd10 [] U9s)
   (gC:Def K mg "_law_refused" ["_law_context","_law_thing"] A5p f11 fd11) (gD:FnOk P w K mg base (CX1 P w) 8 f11 fd11 ["_law_context","_law_thing"] (G1t K CN)) (gE:Def K mg "told" ["number"] C0m f12 fd12) (gF:FnOk P w K mg base (CX1 P w) 2 f12 fd12 ["number"] (G7n K CN CB'))
   (gG:Def K mg "rounded" ["context","number"] A0d f13 fd13) (gH:FnOk P w K mg base (CX1 P w) 7 f13 fd13 ["context","number"] (G3f CN CC CT)) (gJ:Def K mg "nought" ["context","sign","ideal"] A1j f14 fd14) (gK:FnOk P w K mg base (CX1 P w) 3 f14 fd14 ["context","sign","ideal"] (B5h CN CC))
   (dM:Def K mg "void" ["context"] C1t C2 fdI) (dN:FnOk P w K mg base (CX1 P w) 4 C2 fdI ["context"] (V0s CN CC CT))
   {fJ:Addr} {fdJ:FuncData} (MC:MakeC P w K mg base CC CB fJ fdJ) (B4:L2.Binds K fdJ ["self","room","way","least","most"] []) (C:CtxC K mg CC) (MF:Has P w K mg base CC "flags" 1 ["self"] (B3p CC)) (MT:Has P w K mg base CC "traps" 1 ["self"] (B3m CC)) (MP:Has P w K mg base CC "trap" 2 ["self","names"] (G7k K CC CB)) (O:Own mg) (O4:Own4 K CN) (OC:OddC K CC CN):FnOkG P w K mg base (CX1 P w) 10 f fd ["_law_script"] (J9g K P0):=by
 refine D.F.okEL hcode scLaw (fun vs H Q E h=>?_) (fun X A outer s H vs Q E hX HG hr hx h=>?_)
 . obtain⟨a,ns,rfl,_⟩:=h
   rfl
 . subst hX
   obtain⟨sc,ns,rfl,n63,hS,hP,kk⟩:=h
   obtain⟨ff,fdf,mf,gf,bf⟩:=MF
   obtain⟨ft,fdt,mt,gt,bt⟩:=MT
   obtain⟨fp,fdp,mp,gp,bp⟩:=MP
   have HU:=Nat.lt_of_le_of_lt (Nat.add_le_add_left (by decide:1<=64) _) hr.units
   have CZ0:CellsZ [("_law_handed",s.heap.objs.size+1+1+1)] [7] ["_law_script","_law_parts","_law_context","_law_up","_law_k","_law_cell","_law_number_here","_law_handed","_law_due","_law_some","_law_answer_here","_law_ideal","_law_found","_law_odd"] (envOfC "law" (A1 C0y) s.heap.objs.size f (.ref cc)):=⟨fun i x c h=>by
     rcases i with _|i
     . obtain⟨rfl,rfl⟩:=Prod.mk.inj (Option.some.inj h)
       exact⟨rfl,rfl,fun j hj=>by cases hj;rfl⟩
     . cases h⟩
   have CZ1:CellsZ [("_law_ideal",s.heap.objs.size+1+1+1+1),("_law_cell",s.heap.objs.size+1+1)] [11,5] ["_law_script","_law_parts","_law_context","_law_up","_law_k","_law_cell","_law_number_here","_law_handed","_law_due","_law_some","_law_answer_here","_law_ideal","_law_found","_law_odd"] (envOfC "law" (A1 C0y) s.heap.objs.size f (.ref cc)):=⟨fun i x c h=>by
     rcases i with _|_|i
     . obtain⟨rfl,rfl⟩:=Prod.mk.inj (Option.some.inj h)
       exact⟨rfl,rfl,fun j hj=>by cases hj;rfl⟩
     . obtain⟨rfl,rfl⟩:=Prod.mk.inj (Option.some.inj h)
       exact⟨rfl,rfl,fun j hj=>by cases hj;rfl⟩
     . cases h⟩
   have CZ2:CellsZ [] [] ["_law_script","_law_parts","_law_context","_law_up","_law_k","_law_cell","_law_number_here","_law_handed","_law_due","_law_some","_law_answer_here","_law_ideal","_law_found","_law_odd"] (envOfC "law" (A1 C0y) s.heap.objs.size f (.ref cc)):=⟨fun i x c h=>by cases h⟩
   have CZ3:=CZ2
   refine⟨_,(B0 (D0 (G0 (i:=1) scLaw.nd rfl (Or.inl rfl) (D8 dP dQ hr hx (A0 (D8 dE dF hr hx (A0 (D8 dC dD hr hx (A0 (pv 0) (A0 A3 A7))) (A0 A3 A7))) A7))))
     (B0 (D0 (G0 (i:=2) scLaw.nd rfl (Or.inl rfl) (C0k MC.m MC.g hr C.g B4 .nil hx (A0 (U6 U7 (pv 1) A3 (fun _ _=>rfl)) (A0 (U6 U7 (pv 1) A3 (fun _ _=>rfl)) (A0 (U6 U7 (pv 1) A3 (fun _ _=>rfl)) (A0 (U6 U7 (pv 1) A3 (fun _ _=>rfl)) A7)))))))
     (B0 (D0 (G0 (i:=3) scLaw.nd rfl (Or.inr rfl) (U1 A7)))
     (B0 (D0 (G6y PassesOwn.leaving rfl (U1m rfl O.range_ (A0 A3 A7)) (Y3 (i:=4) scLaw.nd rfl (Or.inl rfl)) (B0 (D0 (G0 (i:=5) scLaw.nd rfl (Or.inr rfl) (D8 dE dF hr hx (A0 (D8 dC dD hr hx (A0 (pv 0) (A0 (B9 V2 A3 (pv 4)) A7))) (A0 (B9 V2 A3 (pv 4)) A7)))))
     (B0 (D0 (G0 (i:=6) scLaw.nd rfl (Or.inl rfl) (D8 dS dU hr hx (A0 (pv 5) (A0 (pv 1) A7)))))
     (B0 (D0 (G0 (i:=7) scLaw.nd rfl (Or.inr rfl) (D8 dW dX hr hx (A0 (pv 6) A7))))
     (B0 (D0 (G8d (D8 dY dZ hr hx (A0 (pv 1) (A0 (pv 6) A7))) (G6m rfl (A0e (Y3 (i:=8) scLaw.nd rfl (Or.inl rfl)) (A0e (Y3 (i:=9) scLaw.nd rfl (Or.inl rfl)) D3d)))))
     (B0 (D0 (G0 (i:=10) scLaw.nd rfl (Or.inl rfl) (D2n dA dB HG hr hx CZ0 (A0 (B1x LB rfl (by rfl)) (A0 (pv 2) A7)))))
     (B0 (D0 (G0 (i:=3) scLaw.nd rfl (Or.inr rfl) (B9 A8q (pv 3) (pv 9))))
     (B0 (D0 (J0 (PW.pt (B5b (A2e (Y6 (D8 dG dH hr hx (A0 (pv 10) A7)))) (B5b (D5 (B6c hr.units) (pv 10) (pv 8) (D4 _)) (A8c (D5 (B6c hr.units) (D8 gE gF hr hx (A0 (pv 7) A7)) (pv 6) (D4 _)))))) (B5 (C7 A0j)) D7))
     (B0 (D0 (G0 (i:=11) scLaw.nd rfl (Or.inr rfl) (B9 U8 (B9 U0 (B9 J1 (pv 5) A3) (U6 A1g (U1 (A0 A3 (A0 A3 A7))) (B9 U0 (pv 5) A3) (fun _ _=>rfl))) (U6 A1g (U1 (A0 A3 (A0 A3 A7))) (B9 U0 (pv 5) A3) (fun _ _=>rfl)))))
     (B0 (D0 (G0 (i:=12) scLaw.nd rfl (Or.inl rfl) (D2n dA dB HG hr hx CZ1 (A0 (B1x LB rfl (by rfl)) (A0 (pv 2) A7)))))
     (B0 (D0 (J0 (PW.pt (B5b (A2e (Y6 (D8 dG dH hr hx (A0 (pv 12) A7)))) (A8c (D5 (B6c hr.units) (pv 12) (V4 (A0 C9 (A0 (B9 U0 (B9 J1 (pv 5) A3) A3) (A0 A3 (A0 (D8 gA gB hr hx (A0 (pv 1) (A0 (pv 11) A7))) A7))))) (D4 _))))) (B5 (C7 A0j)) D7))
     (B5 (D0 (J0 (D5 (B6c hr.units) (A3e (pv 2) C.cl mf gf hr bf .nil hx) (C2t (N:=["_law_name"]) (F:=["_law_up"]) (js:=[3]) (CompScopeF.of1 ⟨rfl,by decide+kernel,by decide+kernel,by decide+kernel,by decide+kernel⟩ (by rfl) (by rfl) ⟨_,by rfl⟩ (by rfl) (by rfl)) (.inl hr.hd) rfl (C1d (C3d dJ dL hr hx)) rfl (fun C s₀ H₀ ex pn h=>Y3 (i:=0) (by decide+kernel:(["_law_name","_law_up"]:List Str).Nodup) rfl (Or.inl rfl)) (fun C s₀ H₀ ex pn h=>(D5 (B3d (K:=K) rfl) (pv 0) (pv 1) (by rfl))) (fun C s₀ H₀ ex pn h=>(pv 0))) (D4 _)) (B5 (C7 A0j)) D7)))))))))))))))
     (B0 (D0 (G0 (i:=13) scLaw.nd rfl (Or.inl rfl) (U6 A1g (U1 (A0 U9t (A0 A3 (A0 C9 (A0 A0j (A0 (V4 (A0 C9 (A0 A3 (A0 A3 (A0 A3 A7))))) (A0 (U1 A7) (A0 V0m (A0 (pv 2) A7))))))))) (B9 U0 (D8 dC dD hr hx (A0 (pv 0) (A0 A3 A7))) A3) (fun _ _=>rfl))))
     (B0 (D0 (J0 (PW.pt (B5b (A2e (Y6 (D8 gC gD hr hx (A0 (pv 2) (A0 (pv 13) A7))))) (A8c (D5 (B6c hr.units) (A3e (pv 2) C.cl mf gf hr bf .nil hx) (C2t (N:=["_law_name"]) (F:=["_law_up"]) (js:=[3]) (CompScopeF.of1 ⟨rfl,by decide+kernel,by decide+kernel,by decide+kernel,by decide+kernel⟩ (by rfl) (by rfl) ⟨_,by rfl⟩ (by rfl) (by rfl)) (.inl hr.hd) rfl (C1d (C3d dJ dL hr hx)) rfl (fun C s₀ H₀ ex pn h=>Y3 (i:=0) (by decide+kernel:(["_law_name","_law_up"]:List Str).Nodup) rfl (Or.inl rfl)) (fun C s₀ H₀ ex pn h=>(D5 (B3d (K:=K) rfl) (pv 0) (pv 1) (by rfl))) (fun C s₀ H₀ ex pn h=>(pv 0))) (D4 _))))) (B5 (C7 A0j)) D7))
     (B0 (D0 (J0 (PW.pt (B5b (D5 (B6c hr.units) (D2n dA dB HG hr hx CZ2 (A0 (B1x LB rfl (by rfl)) (A0 (pv 2) A7))) (V4 (A0 C9 (A0 A3 (A0 A3 (A0 A3 A7))))) (D4 _)) (A8c (D5 B4w C9 (A3e (pv 2) C.cl mf gf hr bf .nil hx) (by rfl))))) (B5 (C7 A0j)) D7))
     (B0 (D0 (Y2 (C0q (pv 2) C.cl mp gp hr bp .nil hx (A0 (U1 (A0 C9 (A0 C9 A7))) A7))))
     (B0 (D0 (G0 (i:=12) scLaw.nd rfl (Or.inl rfl) (D2n dA dB HG hr hx CZ3 (A0 (B1x LB rfl (by rfl)) (A0 (pv 2) A7)))))
     (B5 (C7 (A8n (G9 (U8d hr.units) (pv 12) (V4 (A0 C9 (A0 C9 A7))) (D4 _)) (A0y (G9 (U8d hr.units) (A3e (pv 2) C.cl mt gt hr bt .nil hx) (U1 (A0 C9 (A0 C9 A7))) (D4 _))))))))))))))),?_⟩
   have tb:∀pos,TabOk P0 pos A5g H:=fun pos=>⟨_,hP,trivial,.inl rfl⟩
   have z4v:4<=sizeLine:=D6 (by decide)
   have z2:2<=sizeLine:=D6 (by decide)
   refine⟨fun σ' H'=>∃t v,Same H H'/\H' t=some (.tup (Cv.vs v))/\v.Ok/\σ'=[some (.ref sc),some (.ref t),none,none,none,none,none,none,none,none,none,none,none,none],?_,?_⟩
   . exact⟨_,rfl,sc,ns,0,rfl,hS,by decide,fun c0=>⟨c0,1,rfl,by decide,by decide,fun m m0 m1=>⟨m,rfl,m0,fun t r y l mo H' r1 r2 l1 l2 m1 m2 s' e=>⟨t,⟨r,y,l,mo⟩,s',e,⟨r1,r2,l1,l2,m1,m2⟩,rfl⟩⟩⟩⟩
   rintro σ' H1 ⟨t,v,s1,et,ok,rfl⟩
   refine⟨fun σ' H'=>∃c a b,Same H H'/\H' t=some (.tup v.vs)/\CtxV CC H' c v a b [] []/\σ'=[some (.ref sc),some (.ref t),some (.ref c),none,none,none,none,none,none,none,none,none,none,none],?_,?_⟩
   . exact⟨_,rfl,t,_,_,_,rfl,rfl,SqT.of et,D9 (j:=0) rfl,_,rfl,t,_,_,_,rfl,rfl,SqT.of et,D9 (j:=1) rfl,_,rfl,t,_,_,_,rfl,rfl,SqT.of et,D9 (j:=2) rfl,_,rfl,t,_,_,_,rfl,rfl,SqT.of et,D9 (j:=3) rfl,fun x dx n1 n2 ne=>Z8z n1 n2 ne rfl ok.r1 ok.r2 rfl (.inr ⟨rfl,ok.l1,ok.l2⟩) rfl ok.m1 ok.m2 fun a b H4 s4 hc=>⟨rfl,x,a,b,s1.trans s4,s4 _ _ et,hc,rfl⟩⟩
   clear et s1 H1
   rintro σ' H1 ⟨c,a,b,s1,et,ct,rfl⟩
   refine⟨fun σ' H'=>∃ul,H12 CC P0 K sc ns t c b ul v [] [] H' a/\σ'=A8a sc t c ul none none none none none none none none none none,?_,?_⟩
   . refine⟨Nat.zero_le _,fun ul nu=>?_⟩
     have u:=Same.upd (o:= .lst []) nu
     exact⟨ul,⟨u _ _ et,ct.same u,A9,(tb _).same (s1.trans u),(tb _).same (s1.trans u),(tb _).same (s1.trans u),(tb _).same (s1.trans u),(s1.trans u).seq hS⟩,rfl⟩
   clear et ct s1 tb hP hS
   rintro σ' H1 ⟨ul,h1,rfl⟩
   refine⟨fun σ' H'=>∃a ul us z4 z5 z6 z7 z8 z9 z10 z11 z12,us.length<=20/\H12 CC P0 K sc ns t c b ul v (V1 us) us H' a/\σ'=A8a sc t c ul z4 z5 z6 z7 z8 z9 z10 z11 z12 none,?_,?_⟩
   . refine⟨5,rfl,by decide,by decide,?_⟩
     refine U2r (fun i σ' H'=>∃a ul us z4 z5 z6 z7 z8 z9 z10 z11 z12,us.length<=4*i/\H12 CC P0 K sc ns t c b ul v (V1 us) us H' a/\σ'=A8a sc t c ul z4 z5 z6 z7 z8 z9 z10 z11 z12 none) ⟨a,ul,[],none,none,none,none,none,none,none,none,none,Nat.zero_le _,by rw[V0z];exact h1,rfl⟩ ?_ (fun σ' H' ⟨a,ul,us,z4,z5,z6,z7,z8,z9,z10,z11,z12,lu,h,e⟩=>⟨a,ul,us,z4,z5,z6,z7,z8,z9,z10,z11,z12,lu,h,e⟩)
     clear h1
     rintro i σ' H2 hi ⟨a,ul,us,z4,z5,z6,z7,z8,z9,z10,z11,z12,lu,h2,rfl⟩
     have lu20:us.length<=20:=by omega
     refine⟨fun σ' H'=>∃kx ce:Int,H'=H2/\σ'=A8a sc t c ul (some (.int kx)) (some (.int ce)) z6 z7 z8 z9 z10 z11 z12 none,?_,?_⟩
     . exact⟨_,rfl,_,rfl,_,_,rfl,rfl,sc,ns,_,rfl,h2.scr,by omega,fun c1=>⟨_,rfl,_,_,rfl,rfl,c1,_,rfl,by omega,by omega,fun m m0 m1=>⟨_,m,rfl,rfl⟩⟩⟩
     rintro σ' H3 ⟨kx,ce,rfl,rfl⟩
     refine⟨fun σ' H'=>∃q x,Same H3 H'/\Nm.D12 x/\H' q=some (.tup x.vs)/\σ'=A8a sc t c ul (some (.int kx)) (some (.int ce)) (some (.ref q)) z7 z8 z9 z10 z11 z12 none,?_,?_⟩
     . exact⟨_,rfl,_,rfl,ce,t,v,rfl,h2.et,ok,fun q x H' dx s' e=>⟨q,x,s',dx,e,rfl⟩⟩
     rintro σ' H4 ⟨q,x,s4,dx,eq,rfl⟩
     have h4:=h2.same s4
     refine⟨fun σ' H'=>∃n,Same H4 H'/\n≠c/\NumIs CN H' n x/\σ'=A8a sc t c ul (some (.int kx)) (some (.int ce)) (some (.ref q)) (some (.ref n)) z8 z9 z10 z11 z12 none,?_,?_⟩
     . refine⟨_,rfl,q,x,rfl,eq,dx,fun n H' nn s' num=>⟨n,s',fun z=>?_,num,rfl⟩⟩
       obtain⟨dc,ec⟩:=h4.ct.ins
       rw[z,ec] at nn
       cases nn
     rintro σ' H5 ⟨n,s5,nc,num,rfl⟩
     have h5:=h4.same s5
     have eq5:=s5 _ _ eq
     refine⟨fun σ' H'=>∃dt dl,∃zs:List Str,Same H5 H'/\H' dt=some (.tup (dueN v x).1.vs)/\H' dl=some (.lst (zs.map V.str))/\(∀z,z∈zs↔z∈(dueN v x).2)/\zs.length<=4/\σ'=A8a sc t c ul (some (.int kx)) (some (.int ce)) (some (.ref q)) (some (.ref n)) (some (.ref dt)) (some (.ref dl)) z10 z11 z12 none,?_,?_⟩
     . refine⟨_,rfl,_,rfl,t,q,v,x,rfl,h5.et,ok,eq5,dx,fun r H' s' du=>?_⟩
       obtain⟨dt,dl,zs,e1,e2,e3,mem,l4⟩:=du
       exact⟨r,_,rfl,SqT.of e1,rfl,_,_,rfl,_,_,rfl,rfl,dt,dl,zs,s',e2,e3,mem,l4,rfl⟩
     rintro σ' H6 ⟨dt,dl,zs,s6,edt,edl,mem,l4,rfl⟩
     have h6:=h5.same s6
     have eq6:=s6 _ _ eq5
     have num6:=num.same s6
     refine⟨fun σ' H'=>∃tt a',H12 CC P0 K sc ns t c b ul v (V1 (us++zs)) us H' a'/\NumIs CN H' n x/\H' q=some (.tup x.vs)/\H' dt=some (.tup (dueN v x).1.vs)/\H' dl=some (.lst (zs.map V.str))/\H' tt=some (.tup (dueN v x).1.vs)/\σ'=A8a sc t c ul (some (.int kx)) (some (.int ce)) (some (.ref q)) (some (.ref n)) (some (.ref dt)) (some (.ref dl)) (some (.ref tt)) z11 z12 none,?_,?_⟩
     . refine⟨h6.t0,fun fl H7 sT nf la tab7 oth=>?_⟩
       obtain⟨h7,k7⟩:=h6.lam sT tab7 (oth pL1 A5g (by decide) h6.t1) (oth pL2 A5g (by decide) h6.t2) (oth pL3 A5g (by decide) h6.t3)
       refine⟨_,rfl,?_⟩
       intro hn H8 ho A8 kn
       have DO:=B4t (P:=P) (w:=w) (K:=K) (mg:=mg) (base:=base) (k:=7) (pr:="_law_here") (vs:=[.ref n]) (sp:=spDR CN CC CT c n v b (V1 us) x) la (show LamS ["_law_handed"] _ from⟨rfl,rfl,rfl,by decide+kernel,by decide+kernel,by decide+kernel,by decide+kernel⟩) rfl rfl (List.nodup_cons.mpr ⟨fun h=>by simp at h,List.nodup_nil⟩) (fun _ _ _ _=>rfl) (fun X cdv A' outer' s' H' y Q' E' hX hr' hx' hsp af=>by
         subst hX
         obtain⟨rfl,⟨a',hc'⟩,hn',k'⟩:=hsp
         refine⟨_,D8 gG gH hr' hx' (A0 (pv 0) (A0 (pv 1) A7)),?_⟩
         refine⟨_,rfl,_,rfl,c,v,a',b,V1 us,[],n,x,x.p+B8 x.f 1,rfl,CtxAt.hide hc' af,ok,Nat.le_trans (V0g us) (by decide),C1r us,hn'.hide af,dx.s0,dx.s1,dx.f0,Int.lt_of_lt_of_le dx.f1 (V5 (by decide)),dx.p0,dx.p1,fun _ hf=>?_,?_⟩
         . have f0:=dx.f0
           exact D2m (SzL.sz ⟨by omega,Int.lt_of_lt_of_le dx.f1 (V5 (by decide))⟩) G7v _
         . rw[U1u]
           exact k'.hide)
       refine D2r la hn ho A8 (fun j x' c' hj=>?_) DO h7.ct (fun Qd Ed s78 ct8 en=>⟨rfl,⟨a,ct8⟩,(num6.keep k7).same s78,en⟩) (fun _ tt a' H9 x9 ct9 ett=>?_) (fun z hz=>by cases hz)
       . rcases j with _|j
         . exact⟨_,rfl,kn 0 x' c' 7 _ hj rfl rfl⟩
         . cases hj
       . obtain⟨dc,ec⟩:=h7.ct.ins
         rw[U7b mem] at ct9
         have ke:∀{p:Addr} {o:HO},(∀ps,o≠ .tbl ps) ->(∀C d F,o≠ .ins C d F) ->H6 p=some o ->H9 p=some o:=fun n1 n2 e=>x9 _ _ (k7 _ _ n1 e) (A4r (k7 _ _ n1 e) ec (n2 _ _ _))
         exact⟨tt,a',h7.exc x9 ct9,(num6.keep k7).exc1 x9 nc,ke (fun _ z=>by cases z) (fun _ _ _ z=>by cases z) eq6,ke (fun _ z=>by cases z) (fun _ _ _ z=>by cases z) edt,ke (fun _ z=>by cases z) (fun _ _ _ z=>by cases z) edl,ett,rfl⟩
     rintro σ' H9 ⟨tt,a9,h9,num9,eq9,edt9,edl9,ett9,rfl⟩
     refine⟨fun σ' H'=>∃ul',H12 CC P0 K sc ns t c b ul' v (V1 (us++zs)) (us++zs) H' a9/\Same H9 H'/\σ'=A8a sc t c ul' (some (.int kx)) (some (.int ce)) (some (.ref q)) (some (.ref n)) (some (.ref dt)) (some (.ref dl)) (some (.ref tt)) z11 z12 none,?_,?_⟩
     . refine⟨_,rfl,_,rfl,ul,dl,_,_,rfl,rfl,h9.eu,edl9,D6 (by rw[List.length_map,List.length_map];omega),fun p np=>?_⟩
       have u:=Same.upd (o:= .lst (us.map V.str++zs.map V.str)) np
       have h:=h9.same u
       exact⟨p,⟨h.et,h.ct,by rw[A9,List.map_append],h.t0,h.t1,h.t2,h.t3,h.scr⟩,u,rfl⟩
     rintro σ' H10 ⟨ul',h10,s10,rfl⟩
     have l24:(us++zs).length<=4*(i+1):=by rw[List.length_append];omega
     generalize us++zs=vs at h10 l24
     refine⟨fun σ' H'=>H12 CC P0 K sc ns t c b ul' v (V1 vs) vs H' a9/\σ'=A8a sc t c ul' (some (.int kx)) (some (.int ce)) (some (.ref q)) (some (.ref n)) (some (.ref dt)) (some (.ref dl)) (some (.ref tt)) z11 z12 none,?_,?_⟩
     . refine⟨_,rfl,tt,rfl,.inl ⟨_,s10 _ _ ett9⟩,fun H11 s11=>⟨_,rfl,U5 ?_⟩⟩
       have s9:=s10.trans s11
       refine⟨_,rfl,_,rfl,B5d _ _ _ _,B5d _ _ _ _,rdD (s9 _ _ ett9),rdD (s9 _ _ edt9),shD _ _ _ (okK _),shD _ _ _ (okK _),_,rfl,?_⟩
       rw[if_pos rfl,eqD]
       refine U5 ⟨_,rfl,_,rfl,.inl ⟨n,_,_,_,_,rfl,num9.same s9,fun t2 nt2=>?_⟩⟩
       have u2:=Same.upd (o:= .tup x.vs) nt2
       refine⟨_,rfl,B5d x.k.str x.s x.f x.p,B5d x.k.str x.s x.f x.p,rdD A9,rdD (u2 _ _ (s9 _ _ eq9)),shD _ _ _ (okK _),shD _ _ _ (okK _),_,rfl,?_⟩
       rw[if_pos rfl,eqD]
       exact U5 ⟨(h10.same s11).same u2,rfl⟩
     clear ett9 edt9 edl9 eq9 num9 h9 s10 h10 h6 eq6 num6 edt edl s6 h5 eq5 h4 num eq s5 s4 h2
     rintro σ' H11 ⟨h11,rfl⟩
     refine⟨fun σ' H'=>∃id:Int,H12 CC P0 K sc ns t c b ul' v (V1 vs) vs H' a9/\σ'=A8a sc t c ul' (some (.int kx)) (some (.int ce)) (some (.ref q)) (some (.ref n)) (some (.ref dt)) (some (.ref dl)) (some (.ref tt)) (some (.int id)) z12 none,?_,?_⟩
     . obtain⟨m1,hm1,ix1⟩:=ixs (xs:=[2001,61]) (i:=ce % 2) (Int.emod_nonneg _ (by decide)) (by show ce % 2<2;exact Int.emod_lt_of_pos _ (by decide))
       obtain⟨m2,hm2,ix2⟩:=ixs (xs:=[1000,30]) (i:=ce % 2) (Int.emod_nonneg _ (by decide)) (by show ce % 2<2;exact Int.emod_lt_of_pos _ (by decide))
       have mp1:0<m1:=by
         simp only[List.mem_cons,List.not_mem_nil,or_false] at hm1
         omega
       refine⟨_,rfl,_,_,rfl,rfl,dv (n:=7) (by decide) (by decide+kernel),z2,fun l1 n1=>⟨_,rfl,_,_,rfl,rfl,(by decide:(0:Int)<2),l1,_,_,_,rfl,rfl,SqL.of A9,ix1,_,_,rfl,rfl,mp1,z2,fun l2 n2=>⟨_,rfl,_,_,rfl,rfl,(by decide:(0:Int)<2),l2,_,_,_,rfl,rfl,SqL.of A9,ix2,_,_,rfl,rfl,?_⟩⟩⟩
       exact⟨_,(h11.same (Same.upd n1)).same (Same.upd n2),rfl⟩
     rintro σ' H12' ⟨id,h12,rfl⟩
     have ng0:=Int.emod_nonneg (ce/3) (show(2:Int)≠0 by decide)
     refine⟨fun σ' H'=>∃t2 a',H12 CC P0 K sc ns t c b ul' v (V1 vs) vs H' a'/\H' t2=some (.tup (C1a v (ce/3 % 2) id).vs)/\σ'=A8a sc t c ul' (some (.int kx)) (some (.int ce)) (some (.ref q)) (some (.ref n)) (some (.ref dt)) (some (.ref dl)) (some (.ref tt)) (some (.int id)) (some (.ref t2)) none,?_,?_⟩
     . refine⟨h12.t1,fun fl H13 sT nf la tab oth=>?_⟩
       obtain⟨h13,k13⟩:=h12.lam sT (oth pL0 A5g (by decide) h12.t0) tab (oth pL2 A5g (by decide) h12.t2) (oth pL3 A5g (by decide) h12.t3)
       refine⟨_,rfl,?_⟩
       intro hn H14 ho A14 kn
       have DO:=B4t (P:=P) (w:=w) (K:=K) (mg:=mg) (base:=base) (k:=7) (pr:="_law_here") (vs:=[.int id,.int ce]) (sp:=Z2k CN CC CT c v b (V1 vs) [] (C1a v (ce/3 % 2) id,[])) la (show LamS ["_law_ideal","_law_cell"] _ from⟨rfl,rfl,rfl,by decide+kernel,by decide+kernel,by decide+kernel,by decide+kernel⟩) rfl rfl (Z2w _) (fun _ _ _ _=>rfl) (fun X cdv A' outer' s' H' y Q' E' hX hr' hx' hsp af=>by
         subst hX
         obtain⟨rfl,⟨a',hc'⟩,k'⟩:=hsp
         refine⟨_,D8 gJ gK hr' hx' (A0 (pv 0) (A0 (B9 U0 (B9 J1 (pv 2) A3) A3) (A0 (pv 1) A7))),?_⟩
         exact⟨_,rfl,_,rfl,_,_,rfl,rfl,dv (n:=3) (by decide) (by decide+kernel),_,_,rfl,rfl,(by decide:(0:Int)<2),_,rfl,c,v,a',b,V1 vs,[],_,_,rfl,CtxAt.hide hc' af,fun n' H1 nn s1 nm1=>(k'.hide).calm (C1r vs) s1 (CtxAt.hide hc' af) nm1⟩)
       refine D2r la hn ho A14 (fun j x' c' hj=>?_) DO h13.ct (fun Qd Ed s78 ct8 en=>⟨rfl,⟨a9,ct8⟩,en⟩) (fun _ tt' a' H15 x15 ct15 ett=>?_) (fun z hz=>by cases hz)
       . rcases j with _|_|j
         . exact⟨_,rfl,kn 0 x' c' 11 _ hj rfl rfl⟩
         . exact⟨_,rfl,kn 1 x' c' 5 _ hj rfl rfl⟩
         . cases hj
       . rw[List.append_nil,C1r] at ct15
         exact⟨tt',a',h13.exc x15 ct15,ett,rfl⟩
     clear h12 h11
     rintro σ' H13 ⟨t2,a13,h13,et2,rfl⟩
     refine⟨fun σ' H'=>H12 CC P0 K sc ns t c b ul' v (V1 vs) vs H' a13/\σ'=A8a sc t c ul' (some (.int kx)) (some (.int ce)) (some (.ref q)) (some (.ref n)) (some (.ref dt)) (some (.ref dl)) (some (.ref tt)) (some (.int id)) (some (.ref t2)) none,?_,?_⟩
     . refine⟨_,rfl,t2,rfl,.inl ⟨_,et2⟩,fun H14 s14=>⟨_,rfl,U5 ⟨_,rfl,_,rfl,_,_,rfl,rfl,dv (n:=3) (by decide) (by decide+kernel),_,_,rfl,rfl,(by decide:(0:Int)<2),_,rfl,_,rfl,t,v,id,rfl,(h13.same s14).et,z4v,fun q2 nq2=>?_⟩⟩⟩
       have u2:=Same.upd (o:= .tup [.str "plain",.int (ce/3 % 2),.int 0,.int (C2b (A7z id (v.l-v.r+1)) v.m)]) nq2
       refine⟨B5d "plain" (ce/3 % 2) 0 (C2b (A7z id (v.l-v.r+1)) v.m),B5d "plain" (ce/3 % 2) 0 (C2b (A7z id (v.l-v.r+1)) v.m),rdD (u2 _ _ (s14 _ _ et2)),rdD A9,shD _ _ _ (okK .plain),shD _ _ _ (okK .plain),_,rfl,?_⟩
       rw[if_pos rfl,eqD]
       exact U5 ⟨(h13.same s14).same u2,rfl⟩
     rintro σ' H14 ⟨h14,rfl⟩
     refine⟨_,?_,fun _ _ h=>h⟩
     obtain⟨dc,ec⟩:=h14.ct.ins
     refine⟨_,rfl,c,dc,_,rfl,ec,A5j _ _ _ _ _ _,c,v.r,v.y,v.l,v.m,a13,b,_,_,rfl,h14.ct,fun l1 n1=>⟨rfl,fun l2 n2=>⟨l2,rfl,⟨_,SqL.of A9⟩,?_⟩⟩⟩
     have u1:=Same.upd (o:= .lst ((V1 vs).map V.str)) n1
     have u2:=Same.upd (o:= .lst (sigS.map V.str)) n2
     have h15:=(h14.same u1).same u2
     refine D0w (fun z=>inV (.str z) (vs.map V.str)) A9 (by decide) (fun z H3 Qy Qn sm hy hn=>⟨_,rfl,_,rfl,ul',_,rfl,.inl (SqL.of (sm _ _ h15.eu)),rfl,flat_strs _,_,rfl,Z3q (fun e=>⟨_,rfl,hy e⟩) hn⟩) (fun D H16 s16 nD eD=>?_)
     rw[U8u] at eD
     refine⟨rdS (V1 vs),rdS (V1 vs),B6h (s16 _ _ (u2 _ _ A9)),B6h eD,shS (D3h vs),shS (D3h vs),_,rfl,?_⟩
     rw[if_pos rfl,Z4n]
     exact U5 ⟨a13,ul',vs,_,_,_,_,_,_,_,_,_,l24,h15.same s16,rfl⟩
   rintro σ' H2 ⟨a,ul,us,z4,z5,z6,z7,z8,z9,z10,z11,z12,lu,h2,rfl⟩
   have z8':8<=sizeLine:=D6 (by decide)
   refine⟨fun σ' H'=>∃o,H12 CC P0 K sc ns t c b ul v (V1 us) us H' a/\C2f K CN H' o/\σ'=A8a sc t c ul z4 z5 z6 z7 z8 z9 z10 z11 z12 (some o),?_,?_⟩
   . refine⟨z4v,fun q1 n1=>⟨Nat.zero_le _,fun q2 n2=>fun q3 n3=>⟨_,rfl,z8',fun l nl=>?_⟩⟩⟩
     have u1:=Same.upd (o:= .tup [.str "plain",.int 0,.int 1,.int 0]) n1
     have u2:=Same.upd (o:= .lst []) n2
     have u3:=Same.upd (o:= .dK []) n3
     have u4:=Same.upd (o:= .lst [.non,.int 5,.str "1",.bl true,.ref q1,.ref q2,.ref q3,.ref c]) nl
     have h3:=h2.same (u1.trans (u2.trans (u3.trans u4)))
     refine⟨_,rfl,sc,ns,6,rfl,h3.scr,by decide,fun c6=>?_⟩
     obtain⟨o,ho,ix⟩:=ixv (xs:=[.non,.int 5,.str "1",.bl true,.ref q1,.ref q2,.ref q3,.ref c]) (i:=c6 % 8) (Int.emod_nonneg _ (by decide)) (by show c6 % 8<8;exact Int.emod_lt_of_pos _ (by decide))
     refine⟨_,_,rfl,rfl,(by decide:(0:Int)<8),l,_,_,_,rfl,rfl,SqL.of A9,ix,o,h3,?_,rfl⟩
     simp only[List.mem_cons,List.not_mem_nil,or_false] at ho
     rcases ho with rfl|rfl|rfl|rfl|rfl|rfl|rfl|rfl
     . exact⟨_,Z9s,O4.non⟩
     . exact⟨_,G3e _,O4.int⟩
     . exact⟨_,C9t _,O4.str⟩
     . exact⟨_,tyBl _,O4.bl⟩
     . exact⟨_,V1a ((u2.trans (u3.trans u4)) _ _ A9),O4.tup⟩
     . exact⟨_,U8k ((u3.trans u4) _ _ A9),O4.lst⟩
     . exact⟨_,A0aq (u4 _ _ A9),O4.dic⟩
     . obtain⟨dc,ec⟩:=h3.ct.ins
       exact⟨_,.of (.ins ec C.cl OC.ca OC.sn OC.tk OC.ob),OC.no⟩
   clear h2
   rintro σ' H3 ⟨o,h3,nn,rfl⟩
   refine⟨fun σ' H'=>H12 CC P0 K sc ns t c b ul v (V1 us) us H' a/\σ'=A8a sc t c ul z4 z5 z6 z7 z8 z9 z10 z11 z12 (some o),?_,?_⟩
   . refine⟨_,rfl,_,rfl,_,_,rfl,nn,fun H4 s4=>⟨_,rfl,U5 ?_⟩⟩
     have h4:=h3.same s4
     obtain⟨dc,ec⟩:=h4.ct.ins
     refine⟨_,rfl,c,dc,_,rfl,ec,A5j _ _ _ _ _ _,c,v.r,v.y,v.l,v.m,a,b,_,_,rfl,h4.ct,fun l1 n1=>⟨rfl,fun l2 n2=>⟨l2,rfl,⟨_,SqL.of A9⟩,?_⟩⟩⟩
     have u1:=Same.upd (o:= .lst ((V1 us).map V.str)) n1
     have u2:=Same.upd (o:= .lst (sigS.map V.str)) n2
     have h5:=(h4.same u1).same u2
     refine D0w (fun z=>inV (.str z) (us.map V.str)) A9 (by decide) (fun z H3 Qy Qn sm hy hn=>⟨_,rfl,_,rfl,ul,_,rfl,.inl (SqL.of (sm _ _ h5.eu)),rfl,flat_strs _,_,rfl,Z3q (fun e=>⟨_,rfl,hy e⟩) hn⟩) (fun D H6 s6 nD eD=>?_)
     rw[U8u] at eD
     refine⟨rdS (V1 us),rdS (V1 us),B6h (s6 _ _ (u2 _ _ A9)),B6h eD,shS (D3h us),shS (D3h us),_,rfl,?_⟩
     rw[if_pos rfl,Z4n]
     exact U5 ⟨h5.same s6,rfl⟩
   clear h3 nn
   rintro σ' H4 ⟨h4,rfl⟩
   refine⟨fun σ' H'=>∃a',H12 CC P0 K sc ns t c b ul v (V1 (V1 us++(["void"]:List Str))) us H' a'/\σ'=A8a sc t c ul z4 z5 z6 z7 z8 z9 z10 z11 z12 (some o),?_,?_⟩
   . refine⟨h4.t2,fun fl H5 sT nf la tab oth=>?_⟩
     obtain⟨h5,k5⟩:=h4.lam sT (oth pL0 A5g (by decide) h4.t0) (oth pL1 A5g (by decide) h4.t1) tab (oth pL3 A5g (by decide) h4.t3)
     refine⟨_,rfl,?_⟩
     intro hn H6 ho A6 kn
     have DO:=B4t (P:=P) (w:=w) (K:=K) (mg:=mg) (base:=base) (k:=7) (pr:="_law_here") (vs:=[]) (sp:=Z2k CN CC CT c v b (V1 us) [] (U6q,["void"])) la (show LamS [] _ from⟨rfl,rfl,rfl,by decide+kernel,by decide+kernel,by decide+kernel,by decide+kernel⟩) rfl rfl List.nodup_nil (fun _ _ _ _=>rfl) (fun X cdv A' outer' s' H' y Q' E' hX hr' hx' hsp af=>by
       subst hX
       obtain⟨rfl,⟨a',hc'⟩,k'⟩:=hsp
       refine⟨_,D8 dM dN hr' hx' (A0 (pv 0) A7),?_⟩
       exact⟨_,rfl,c,v,a',b,V1 us,[],rfl,CtxAt.hide hc' af,Nat.le_trans (V0g us) (by decide),k'.hide⟩)
     refine D2r la hn ho A6 (fun j x' c' hj=>by cases hj) DO h5.ct (fun Qd Ed s78 ct8 en=>⟨rfl,⟨a,ct8⟩,en⟩) (fun _ tt a' H7 x7 ct7 ett=>?_) (fun z hz=>by cases hz)
     have h7:=h5.exc x7 ct7
     refine⟨z4v,fun q2 nq2=>?_⟩
     have u2:=Same.upd (o:= .tup [.str "none",.int 0,.int 0,.int 0]) nq2
     refine⟨B5d "none" 0 0 0,B5d "none" 0 0 0,rdD (u2 _ _ ett),rdD A9,shD _ _ _ (okK .none),shD _ _ _ (okK .none),_,rfl,?_⟩
     rw[if_pos rfl,eqD]
     have h8:=h7.same u2
     obtain⟨dc,ec⟩:=h8.ct.ins
     refine U5 ⟨_,rfl,c,dc,_,rfl,ec,A5j _ _ _ _ _ _,c,v.r,v.y,v.l,v.m,a',b,_,_,rfl,h8.ct,fun l1 n1=>⟨l1,_,rfl,.inl (SqL.of A9),rfl,flat_strs _,_,rfl,?_⟩⟩
     have iv:inV (.str "void") ((V1 (V1 us++(["void"]:List Str))).map V.str)=true:=by
       rw[A2n,List.contains_iff_mem]
       unfold V1
       refine List.mem_filter.mpr ⟨by decide+kernel,?_⟩
       rw[List.contains_iff_mem]
       exact List.mem_append.mpr (.inr (List.mem_singleton.mpr rfl))
     rw[if_pos rfl]
     show if(!inV (.str "void") ((V1 (V1 us++(["void"]:List Str))).map V.str))=true then _ else _
     rw[iv]
     exact U5 ⟨a',h8.same (Same.upd n1),rfl⟩
   clear h4
   rintro σ' H5 ⟨a5,h5,rfl⟩
   generalize V1 us++(["void"]:List Str)=ws at h5
   refine⟨fun σ' H'=>∃b',CtxV CC H' c v a5 b' (V1 ws) ["void","cut"]/\TabOk P0 pL3 A5g H'/\σ'=A8a sc t c ul z4 z5 z6 z7 z8 z9 z10 z11 z12 (some o),?_,?_⟩
   . obtain⟨dc,ec⟩:=h5.ct.ins
     refine⟨_,rfl,c,dc,_,rfl,ec,G2u _ _ _ _ _ _,z2,fun l1 n1=>?_⟩
     have u1:=Same.upd (o:= .lst [.str "cut",.str "void"]) n1
     have h6:=h5.same u1
     obtain⟨dc6,ec6⟩:=h6.ct.ins
     refine⟨c,v.r,v.y,v.l,v.m,a5,b,_,_,_,rfl,h6.ct,.inl ⟨l1,["cut","void"],rfl,A9,by decide+kernel,fun b' H7 x7 nb ct7=>?_⟩⟩
     have eo:V1 (["cut","void"]:List Str)=(["void","cut"]:List Str):=by decide+kernel
     rw[eo] at ct7
     exact⟨b',ct7,TR.TabOk.exc h6.t3 x7 ec6,rfl⟩
   clear h5
   rintro σ' H6 ⟨b6,ct6,tab6,rfl⟩
   refine⟨fun σ' H'=>∃tt a',CtxV CC H' c v a' b6 (V1 (V1 ws++(["void"]:List Str))) ["void","cut"]/\H' tt=some (.tup [.str "refused",.str "void"])/\σ'=A8a sc t c ul z4 z5 z6 z7 z8 z9 z10 z11 (some (.ref tt)) (some o),?_,?_⟩
   . refine⟨tab6,fun fl H7 sT nf la tab oth=>?_⟩
     obtain⟨ps,eP,_⟩:=tab6
     have k7:=sT.keep eP
     have ct7:CtxV CC H7 c v a5 b6 (V1 ws) ["void","cut"]:=CtxAt.keep ct6 k7
     refine⟨_,rfl,?_⟩
     intro hn H8 ho A8 kn
     have DO:=B4t (P:=P) (w:=w) (K:=K) (mg:=mg) (base:=base) (k:=7) (pr:="_law_here") (vs:=[]) (sp:=Z2k CN CC CT c v b6 (V1 ws) ["void","cut"] (U6q,["void"])) la (show LamS [] _ from⟨rfl,rfl,rfl,by decide+kernel,by decide+kernel,by decide+kernel,by decide+kernel⟩) rfl rfl List.nodup_nil (fun _ _ _ _=>rfl) (fun X cdv A' outer' s' H' y Q' E' hX hr' hx' hsp af=>by
       subst hX
       obtain⟨rfl,⟨a',hc'⟩,k'⟩:=hsp
       refine⟨_,D8 dM dN hr' hx' (A0 (pv 0) A7),?_⟩
       exact⟨_,rfl,c,v,a',b6,V1 ws,["void","cut"],rfl,CtxAt.hide hc' af,Nat.le_trans (V0g ws) (by decide),k'.hide⟩)
     have eh:hit (["void","cut"]:List Str) (["void"]:List Str)=some "void":=by decide+kernel
     refine D2r la hn ho A8 (fun j x' c' hj=>by cases hj) DO ct7 (fun Qd Ed s78 ct8 en=>⟨rfl,⟨a5,ct8⟩,en⟩) (fun hz=>absurd (hz.symm.trans eh) (by intro z;cases z)) (fun z hz tt a' H9 x9 ct9 ett=>?_)
     obtain rfl:"void"=z:=Option.some.inj (eh.symm.trans hz)
     exact⟨tt,a',ct9,ett,rfl⟩
   rintro σ' H7 ⟨tt,a7,ct7,ett,rfl⟩
   refine⟨_,rfl,z2,fun q2 nq2=>?_⟩
   have u2:=Same.upd (o:= .tup [.str "refused",.str "void"]) nq2
   refine⟨U8y "refused" "void",U8y "refused" "void",rdR2 (u2 _ _ ett),rdR2 A9,by decide+kernel,by decide+kernel,_,rfl,?_⟩
   rw[if_neg Bool.false_ne_true,show PyData.eqv (U8y "refused" "void") (U8y "refused" "void")=true by decide+kernel]
   have ct8:=ct7.same u2
   obtain⟨dc,ec⟩:=ct8.ins
   refine Z2 ⟨_,rfl,c,dc,_,rfl,ec,D1y _ _ _ _ _ _,c,v.r,v.y,v.l,v.m,a7,b6,_,_,rfl,ct8,fun l1 n1=>⟨z2,fun l2 n2=>?_⟩⟩
   have v1:=Same.upd (o:= .lst [.str "void",.str "cut"]) n1
   have v2:=Same.upd (o:= .lst [.str "void",.str "cut"]) n2
   have okv:OkL (["void","cut"]:List Str):=⟨by decide+kernel,by decide+kernel⟩
   refine⟨rdS ["void","cut"],rdS ["void","cut"],B6h (v2 _ _ A9),B6h A9,shS okv,shS okv,?_⟩
   rw[if_neg Bool.false_ne_true,Z4n]
   exact kk _
end
end TR
namespace TR
open PySem L2 PySem.W PyProof.Rows
theorem all_mk{cc P0:Addr}{l:OpenLaw}{w:World}{K:Frag}{h:Heap}{mg:Str ->Option Value}{fa CW W0 A4z W1 A4v W2 A4x W3 A5a W4 A4t W5 A4u W6 A4w W7 A4s CN D1b A0u A1u A0r A1v A0q A2a A0t A2b A0k A2d A0s A1y A0m A1x A0p A1z CC D1a V6y A3k A2c B1c A1w CQ D0z V2r A1f B2j CE C1 C2 C3 C4 C5 CR fX aS A3j A4y B1k D8j C6c D8h D6u V4d B7r J7s J0w D6v V9t B9j B9x C3u B7u A9z C4d C5x D4y G0w B8w B6w C3n J0n B9g D7f B7f D8p D9z J5z D5p C3k G9b J1p D5k C3m J5d C6d J7f D7x B4e J6h C5y Y3k G9c G9n V7x V1e Y0g:Addr}(X:K.In h)(G:h.Ns mainGlobals mg)(hfa:mg "law"=some (.ref fa))
   {D6x D9w:Option Addr} {D3p:Array (Option Value)} {D4j D4t D6n G1b B5n D6d:Value}
   (B0c:nsIn K mainGlobals "product_of"=some (some (.ref B1k))) (B1a:K.lookup B1k=some ⟨D4j,D6x,.func (fnOf "product_of" "product_of" (C8 A0c) (C6 A0c) (A1 A0c) .none D4t D6n G1b D9w B5n D6d),D3p⟩) (B0s:codeIn K B5n "product_of"=true) (B1t:keepIn K (.ref B1k)=true)
   {V3b V1r:Option Addr} {Y2b:Array (Option Value)} {Y2y V9a Y3t Y0v G5t Y4d:Value}
   (D9f:nsIn K mainGlobals "ten_to"=some (some (.ref D8j))) (D5s:K.lookup D8j=some ⟨Y2y,V3b,.func (fnOf "ten_to" "ten_to" (C8 A3f) (C6 A3f) (A1 A3f) .none V9a Y3t Y0v V1r G5t Y4d),Y2b⟩) (D6r:codeIn K G5t "ten_to"=true) (D8b:keepIn K (.ref D8j)=true)
   {U6b U3j:Option Addr} {U4y:Array (Option Value)} {U4m U3p U6d U5y D1p U5b:Value}
   (C5a:nsIn K mainGlobals "part_of"=some (some (.ref C6c))) (C3f:K.lookup C6c=some ⟨U4m,U6b,.func (fnOf "part_of" "part_of" (C8 A5q) (C6 A5q) (A1 A5q) .none U3p U6d U5y U3j D1p U5b),U4y⟩) (C5k:codeIn K D1p "part_of"=true) (C3p:keepIn K (.ref C6c)=true)
   {V3f V4n:Option Addr} {V4a:Array (Option Value)} {V8x V4k V4r V8t G4v V1h:Value}
   (D6p:nsIn K mainGlobals "whole_lead"=some (some (.ref D8h))) (D9n:K.lookup D8h=some ⟨V8x,V3f,.func (fnOf "whole_lead" "whole_lead" (C8 A8u) (C6 A8u) (A1 A8u) .none V4k V4r V8t V4n G4v V1h),V4a⟩) (D7p:codeIn K G4v "whole_lead"=true) (D3k:keepIn K (.ref D8h)=true)
   {V1y V5z:Option Addr} {V7d:Array (Option Value)} {V6f V1p Y4c V6t G4d V8y:Value}
   (D7d:nsIn K mainGlobals "plain"=some (some (.ref D6u))) (D3u:K.lookup D6u=some ⟨V6f,V1y,.func (fnOf "plain" "plain" (C8 B3e) (C6 B3e) (A1 B3e) .none V1p Y4c V6t V5z G4d V8y),V7d⟩) (D7n:codeIn K G4d "plain"=true) (G0x:keepIn K (.ref D6u)=true)
   {Z5b Z5e:Option Addr} {Z4x:Array (Option Value)} {Z7u Z5s Z5n Z7y Y3c Z7n:Value}
   (Y3g:nsIn K mainGlobals "end"=some (some (.ref V4d))) (V9s:K.lookup V4d=some ⟨Z7u,Z5b,.func (fnOf "end" "end" (C8 G1v) (C6 G1v) (A1 G1v) .none Z5s Z5n Z7y Z5e Y3c Z7n),Z4x⟩) (Y0k:codeIn K Y3c "end"=true) (Y3f:keepIn K (.ref V4d)=true)
   {J0b G9v:Option Addr} {J2y:Array (Option Value)} {J0s J6v J6m G9a C4f J3h:Value}
   (B9e:nsIn K mainGlobals "nothing"=some (some (.ref B7r))) (B7k:K.lookup B7r=some ⟨J0s,J0b,.func (fnOf "nothing" "nothing" (C8 A1t) (C6 A1t) (A1 A1t) .none J6v J6m G9a G9v C4f J3h),J2y⟩) (C0d:codeIn K C4f "nothing"=true) (B7x:keepIn K (.ref B7r)=true)
   {Y7m Z0j:Option Addr} {Z0w:Array (Option Value)} {Z1d Y8x Y9t Y8d U0k Z0t:Value}
   (J1y:nsIn K mainGlobals "told"=some (some (.ref J7s))) (J0c:K.lookup J7s=some ⟨Z1d,Y7m,.func (fnOf "told" "told" (C8 C0m) (C6 C0m) (A1 C0m) .none Y8x Y9t Y8d Z0j U0k Z0t),Z0w⟩) (J2c:codeIn K U0k "told"=true) (J3m:keepIn K (.ref J7s)=true)
   {Z0f Z0g:Option Addr} {Y8z:Array (Option Value)} {Z1e Y7u Z0h Y7p U0a Y9p:Value}
   (J5b:nsIn K mainGlobals "lead_of"=some (some (.ref J0w))) (G8u:K.lookup J0w=some ⟨Z1e,Z0f,.func (fnOf "lead_of" "lead_of" (C8 C1h) (C6 C1h) (A1 C1h) .none Y7u Z0h Y7p Z0g U0a Y9p),Y8z⟩) (J6s:codeIn K U0a "lead_of"=true) (J5w:keepIn K (.ref J0w)=true)
   {V4p V5w:Option Addr} {V3a:Array (Option Value)} {V7m V7h V5r V7e G5j Y0c:Value}
   (D5u:nsIn K mainGlobals "need_number"=some (some (.ref D6v))) (G0c:K.lookup D6v=some ⟨V7m,V4p,.func (fnOf "need_number" "need_number" (C8 A5r) (C6 A5r) (A1 A5r) .none V7h V5r V7e V5w G5j Y0c),V3a⟩) (D7a:codeIn K G5j "need_number"=true) (D9t:keepIn K (.ref D6v)=true)
   {Z5d Z6e:Option Addr} {Z5z:Array (Option Value)} {Z8h Z7p Z5j Z4z V6v Z8f:Value}
   (V9d:nsIn K mainGlobals "is_between"=some (some (.ref V9t))) (V2n:K.lookup V9t=some ⟨Z8h,Z5d,.func (fnOf "is_between" "is_between" (C8 C6h) (C6 C6h) (A1 C6h) .none Z7p Z5j Z4z Z6e V6v Z8f),Z5z⟩) (V4q:codeIn K V6v "is_between"=true) (Y1k:keepIn K (.ref V9t)=true)
   {J3b G9h:Option Addr} {J2f:Array (Option Value)} {J2v J7c J5v J7m C5p J7d:Value}
   (B9q:nsIn K mainGlobals "need_between"=some (some (.ref B9j))) (B8g:K.lookup B9j=some ⟨J2v,J3b,.func (fnOf "need_between" "need_between" (C8 A1n) (C6 A1n) (A1 A1n) .none J7c J5v J7m G9h C5p J7d),J2f⟩) (B9w:codeIn K C5p "need_between"=true) (B9f:keepIn K (.ref B9j)=true)
   {J0u J2a:Option Addr} {J4c:Array (Option Value)} {J6p J4y J1g J2r C5m G8s:Value}
   (B7e:nsIn K mainGlobals "settled"=some (some (.ref B9x))) (B7g:K.lookup B9x=some ⟨J6p,J0u,.func (fnOf "settled" "settled" (C8 A1m) (C6 A1m) (A1 A1m) .none J4y J1g J2r J2a C5m G8s),J4c⟩) (B7w:codeIn K C5m "settled"=true) (B8h:keepIn K (.ref B9x)=true)
   {U4c U3r:Option Addr} {U4p:Array (Option Value)} {U5r U5n U5j U4h D0y U2x:Value}
   (C4c:nsIn K mainGlobals "finest_power"=some (some (.ref C3u))) (C4g:K.lookup C3u=some ⟨U5r,U4c,.func (fnOf "finest_power" "finest_power" (C8 A3r) (C6 A3r) (A1 A3r) .none U5n U5j U4h U3r D0y U2x),U4p⟩) (C6a:codeIn K D0y "finest_power"=true) (C5e:keepIn K (.ref C3u)=true)
   {J4f G9z:Option Addr} {G9p:Array (Option Value)} {J1b J4h J3q J7u C4q J0m:Value}
   (B8c:nsIn K mainGlobals "nearest_to"=some (some (.ref B7u))) (B9u:K.lookup B7u=some ⟨J1b,J4f,.func (fnOf "nearest_to" "nearest_to" (C8 A1q) (C6 A1q) (A1 A1q) .none J4h J3q J7u G9z C4q J0m),G9p⟩) (B6y:codeIn K C4q "nearest_to"=true) (B7c:keepIn K (.ref B7u)=true)
   {D5n D4c:Option Addr} {D7r:Array (Option Value)} {D9j G1h G0r G1n B6a D7q:Value}
   (B0z:nsIn K mainGlobals "neighbour"=some (some (.ref A9z))) (A9m:K.lookup A9z=some ⟨D9j,D5n,.func (fnOf "neighbour" "neighbour" (C8 Z3) (C6 Z3) (A1 Z3) .none G1h G0r G1n D4c B6a D7q),D7r⟩) (A9g:codeIn K B6a "neighbour"=true) (A9x:keepIn K (.ref A9z)=true)
   {U4z U5s:Option Addr} {U3a:Array (Option Value)} {U6j U4k U4b U2t D1q U3b:Value}
   (C4t:nsIn K mainGlobals "within_room"=some (some (.ref C4d))) (C5t:K.lookup C4d=some ⟨U6j,U4z,.func (fnOf "within_room" "within_room" (C8 A3m) (C6 A3m) (A1 A3m) .none U4k U4b U2t U5s D1q U3b),U3a⟩) (C5f:codeIn K D1q "within_room"=true) (C5s:keepIn K (.ref C4d)=true)
   {U6m U3w:Option Addr} {U3c:Array (Option Value)} {U5w U4r U2z U4x D0x U5d:Value}
   (C6b:nsIn K mainGlobals "is_beyond"=some (some (.ref C5x))) (C4s:K.lookup C5x=some ⟨U5w,U6m,.func (fnOf "is_beyond" "is_beyond" (C8 A3p) (C6 A3p) (A1 A3p) .none U4r U2z U4x U3w D0x U5d),U3c⟩) (C4b:codeIn K D0x "is_beyond"=true) (C4p:keepIn K (.ref C5x)=true)
   {Y2t Y1h:Option Addr} {V6m:Array (Option Value)} {Y0j V5n V8a Y1u G3s Y2r:Value}
   (D4q:nsIn K mainGlobals "burst"=some (some (.ref D4y))) (D4g:K.lookup D4y=some ⟨Y0j,Y2t,.func (fnOf "burst" "burst" (C8 A8m) (C6 A8m) (A1 A8m) .none V5n V8a Y1u Y1h G3s Y2r),V6m⟩) (D7w:codeIn K G3s "burst"=true) (D9b:keepIn K (.ref D4y)=true)
   {V7t V5a:Option Addr} {V9f:Array (Option Value)} {V4w V9v Y1y V4v G5g V7k:Value}
   (D5a:nsIn K mainGlobals "nines"=some (some (.ref G0w))) (G0b:K.lookup G0w=some ⟨V4w,V7t,.func (fnOf "nines" "nines" (C8 A8w) (C6 A8w) (A1 A8w) .none V9v Y1y V4v V5a G5g V7k),V9f⟩) (G0z:codeIn K G5g "nines"=true) (D8d:keepIn K (.ref G0w)=true)
   {J6z J1d:Option Addr} {G9x:Array (Option Value)} {J3d J6u J3a J5j C5j J1r:Value}
   (B8p:nsIn K mainGlobals "signals_of_rest"=some (some (.ref B8w))) (B8b:K.lookup B8w=some ⟨J3d,J6z,.func (fnOf "signals_of_rest" "signals_of_rest" (C8 A3c) (C6 A3c) (A1 A3c) .none J6u J3a J5j J1d C5j J1r),G9x⟩) (B9a:codeIn K C5j "signals_of_rest"=true) (B8m:keepIn K (.ref B8w)=true)
   {J6a J3g:Option Addr} {J4z:Array (Option Value)} {J1u J3k J0e J1j C4n G8r:Value}
   (B8v:nsIn K mainGlobals "signals_of_lead"=some (some (.ref B6w))) (C0e:K.lookup B6w=some ⟨J1u,J6a,.func (fnOf "signals_of_lead" "signals_of_lead" (C8 A3a) (C6 A3a) (A1 A3a) .none J3k J0e J1j J3g C4n G8r),J4z⟩) (C0b:codeIn K C4n "signals_of_lead"=true) (B8f:keepIn K (.ref B6w)=true)
   {U5f U4d:Option Addr} {U5x:Array (Option Value)} {U3m U6p U5e U5k D1f U3n:Value}
   (C4r:nsIn K mainGlobals "nought"=some (some (.ref C3n))) (C4j:K.lookup C3n=some ⟨U3m,U5f,.func (fnOf "nought" "nought" (C8 A1j) (C6 A1j) (A1 A1j) .none U6p U5e U5k U4d D1f U3n),U5x⟩) (C3y:codeIn K D1f "nought"=true) (C5h:keepIn K (.ref C3n)=true)
   {Y8a Y8n:Option Addr} {Y8w:Array (Option Value)} {Y9q Y8y Y8q Z1f U0j Y9b:Value}
   (J5f:nsIn K mainGlobals "void"=some (some (.ref J0n))) (J5n:K.lookup J0n=some ⟨Y9q,Y8a,.func (fnOf "void" "void" (C8 C1t) (C6 C1t) (A1 C1t) .none Y8y Y8q Z1f Y8n U0j Y9b),Y8w⟩) (J2b:codeIn K U0j "void"=true) (G9w:keepIn K (.ref J0n)=true)
   {J0r J5e:Option Addr} {J6n:Array (Option Value)} {J0a J7q G8w J4n C3j J2t:Value}
   (C0a:nsIn K mainGlobals "rounded"=some (some (.ref B9g))) (B7h:K.lookup B9g=some ⟨J0a,J0r,.func (fnOf "rounded" "rounded" (C8 A0d) (C6 A0d) (A1 A0d) .none J7q G8w J4n J5e C3j J2t),J6n⟩) (B7y:codeIn K C3j "rounded"=true) (B7s:keepIn K (.ref B9g)=true)
   {V3d V9k:Option Addr} {V5v:Array (Option Value)} {V2m V9c V2a V6x G4w V2x:Value}
   (D5t:nsIn K mainGlobals "way_of"=some (some (.ref D7f))) (D4s:K.lookup D7f=some ⟨V2m,V3d,.func (fnOf "way_of" "way_of" (C8 A8s) (C6 A8s) (A1 A8s) .none V9c V2a V6x V9k G4w V2x),V5v⟩) (D6c:codeIn K G4w "way_of"=true) (D7g:keepIn K (.ref D7f)=true)
   {J7b G8y:Option Addr} {J5s:Array (Option Value)} {G9e J3n J3y J0v C4e J2q:Value}
   (B9d:nsIn K mainGlobals "bounded"=some (some (.ref B7f))) (B9p:K.lookup B7f=some ⟨G9e,J7b,.func (fnOf "bounded" "bounded" (C8 A3g) (C6 A3g) (A1 A3g) .none J3n J3y J0v G8y C4e J2q),J5s⟩) (B6x:codeIn K C4e "bounded"=true) (B8k:keepIn K (.ref B7f)=true)
   {V5d Y2j:Option Addr} {V6h:Array (Option Value)} {Y2n Y0p V5u V7s G6c V2c:Value}
   (G0n:nsIn K mainGlobals "need_signals"=some (some (.ref D8p))) (D5x:K.lookup D8p=some ⟨Y2n,V5d,.func (fnOf "need_signals" "need_signals" (C8 A8e) (C6 A8e) (A1 A8e) .none Y0p V5u V7s Y2j G6c V2c),V6h⟩) (G0e:codeIn K G6c "need_signals"=true) (D4e:keepIn K (.ref D8p)=true)
   {V4s V6p:Option Addr} {V9w:Array (Option Value)} {V6z Y3h V3q V7g G6e Y1j:Value}
   (D8m:nsIn K mainGlobals "in_order"=some (some (.ref D9z))) (D6f:K.lookup D9z=some ⟨V6z,V4s,.func (fnOf "in_order" "in_order" (C8 A8k) (C6 A8k) (A1 A8k) .none Y3h V3q V7g V6p G6e Y1j),V9w⟩) (D8r:codeIn K G6e "in_order"=true) (D5y:keepIn K (.ref D9z)=true)
   {Y8g Y9k:Option Addr} {Y8e:Array (Option Value)} {Z0z Y9a Z1j Y7y J9w Y9c:Value}
   (J3e:nsIn K mainGlobals "_law_cell_at"=some (some (.ref J5z))) (J3p:K.lookup J5z=some ⟨Z0z,Y8g,.func (fnOf "_law_cell_at" "_law_cell_at" (C8 C1q) (C6 C1q) (A1 C1q) .none Y9a Z1j Y7y Y9k J9w Y9c),Y8e⟩) (G9f:codeIn K J9w "_law_cell_at"=true) (J1e:keepIn K (.ref J5z)=true)
   {Y2g Y1q:Option Addr} {Y0t:Array (Option Value)} {Y1p Y3p V2w Y0e G5k V5x:Value}
   (D4d:nsIn K mainGlobals "_law_mixed"=some (some (.ref D5p))) (D3x:K.lookup D5p=some ⟨Y1p,Y2g,.func (fnOf "_law_mixed" "_law_mixed" (C8 A8t) (C6 A8t) (A1 A8t) .none Y3p V2w Y0e Y1q G5k V5x),Y0t⟩) (D6b:codeIn K G5k "_law_mixed"=true) (D8y:keepIn K (.ref D5p)=true)
   {U6g U6c:Option Addr} {U5h:Array (Option Value)} {U6a U5a U5t U4n D1c U4e:Value}
   (C3q:nsIn K mainGlobals "_law_names"=some (some (.ref C3k))) (C5g:K.lookup C3k=some ⟨U6a,U6g,.func (fnOf "_law_names" "_law_names" (C8 B3g) (C6 B3g) (A1 B3g) .none U5a U5t U4n U6c D1c U4e),U5h⟩) (C5w:codeIn K D1c "_law_names"=true) (C4a:keepIn K (.ref C3k)=true)
   {Z0u Y9w:Option Addr} {Y7q:Array (Option Value)} {Z0x Y7z Y8k Z0v U0c Y8r:Value}
   (J6x:nsIn K mainGlobals "_law_signals"=some (some (.ref G9b))) (J2p:K.lookup G9b=some ⟨Z0x,Z0u,.func (fnOf "_law_signals" "_law_signals" (C8 C3e) (C6 C3e) (A1 C3e) .none Y7z Y8k Z0v Y9w U0c Y8r),Y7q⟩) (J0g:codeIn K U0c "_law_signals"=true) (J1w:keepIn K (.ref G9b)=true)
   {Z1c Y8m:Option Addr} {Y9h:Array (Option Value)} {Z1h Z0d Y9x Z0p J9z Y8c:Value}
   (J1q:nsIn K mainGlobals "_law_word"=some (some (.ref J1p))) (J3f:K.lookup J1p=some ⟨Z1h,Z1c,.func (fnOf "_law_word" "_law_word" (C8 C2p) (C6 C2p) (A1 C2p) .none Z0d Y9x Z0p Y8m J9z Y8c),Y9h⟩) (J4g:codeIn K J9z "_law_word"=true) (G9r:keepIn K (.ref J1p)=true)
   {V2z Y0z:Option Addr} {V4h:Array (Option Value)} {V4c Y3y V1m V4f G3k V9g:Value}
   (D5d:nsIn K mainGlobals "_law_goes_up"=some (some (.ref D5k))) (G1j:K.lookup D5k=some ⟨V4c,V2z,.func (fnOf "_law_goes_up" "_law_goes_up" (C8 B3n) (C6 B3n) (A1 B3n) .none Y3y V1m V4f Y0z G3k V9g),V4h⟩) (D6j:codeIn K G3k "_law_goes_up"=true) (G0g:keepIn K (.ref D5k)=true)
   {U4a U3q:Option Addr} {U5q:Array (Option Value)} {U3k U4t U3s U5c D1k U6f:Value}
   (C3h:nsIn K mainGlobals "_law_to_end"=some (some (.ref C3m))) (C5c:K.lookup C3m=some ⟨U3k,U4a,.func (fnOf "_law_to_end" "_law_to_end" (C8 A5n) (C6 A5n) (A1 A5n) .none U4t U3s U5c U3q D1k U6f),U5q⟩) (C5v:codeIn K D1k "_law_to_end"=true) (C4m:keepIn K (.ref C3m)=true)
   {Z0s Y7x:Option Addr} {Y8j:Array (Option Value)} {Y8f Z0y Y8t Y9r U0f Y9n:Value}
   (J0f:nsIn K mainGlobals "_law_ten"=some (some (.ref J5d))) (J2w:K.lookup J5d=some ⟨Y8f,Z0s,.func (fnOf "_law_ten" "_law_ten" (C8 B5k) (C6 B5k) (A1 B5k) .none Z0y Y8t Y9r Y7x U0f Y9n),Y8j⟩) (G9d:codeIn K U0f "_law_ten"=true) (J0p:keepIn K (.ref J5d)=true)
   {U4g U3y:Option Addr} {U3x:Array (Option Value)} {U5v U5g U5p U2w D1m U4q:Value}
   (C4x:nsIn K mainGlobals "_law_drawn_context"=some (some (.ref C6d))) (C5q:K.lookup C6d=some ⟨U5v,U4g,.func (fnOf "_law_drawn_context" "_law_drawn_context" (C8 B3f) (C6 B3f) (A1 B3f) .none U5g U5p U2w U3y D1m U4q),U3x⟩) (C4y:codeIn K D1m "_law_drawn_context"=true) (C6g:keepIn K (.ref C6d)=true)
   {Y8p Y9e:Option Addr} {Y8h:Array (Option Value)} {Z1a Y7h Y7r Y9s U0h Z0e:Value}
   (J0j:nsIn K mainGlobals "_law_top"=some (some (.ref J7f))) (J0t:K.lookup J7f=some ⟨Z1a,Y8p,.func (fnOf "_law_top" "_law_top" (C8 C1s) (C6 C1s) (A1 C1s) .none Y7h Y7r Y9s Y9e U0h Z0e),Y8h⟩) (G9m:codeIn K U0h "_law_top"=true) (J0z:keepIn K (.ref J7f)=true)
   {Y1a Y0m:Option Addr} {V2u:Array (Option Value)} {V8d V5h Y2k V9e G5q V6c:Value}
   (D6g:nsIn K mainGlobals "_law_lead"=some (some (.ref D7x))) (D6t:K.lookup D7x=some ⟨V8d,Y1a,.func (fnOf "_law_lead" "_law_lead" (C8 G7e) (C6 G7e) (A1 G7e) .none V5h Y2k V9e Y0m G5q V6c),V2u⟩) (D8f:codeIn K G5q "_law_lead"=true) (G0m:keepIn K (.ref D7x)=true)
   {G5n G3q:Option Addr} {G5r:Array (Option Value)} {G4p G5w G4m G3n C0u G4g:Value}
   (B4d:nsIn K mainGlobals "_law_settled"=some (some (.ref B4e))) (B4g:K.lookup B4e=some ⟨G4p,G5n,.func (fnOf "_law_settled" "_law_settled" (C8 A5h) (C6 A5h) (A1 A5h) .none G5w G4m G3n G3q C0u G4g),G5r⟩) (B4k:codeIn K C0u "_law_settled"=true) (B4n:keepIn K (.ref B4e)=true)
   {Y9y Y9m:Option Addr} {Y9f:Array (Option Value)} {Y7v Y7t Y8u Z0n J9x Z0a:Value}
   (J5a:nsIn K mainGlobals "_law_answer"=some (some (.ref J6h))) (J6d:K.lookup J6h=some ⟨Y7v,Y9y,.func (fnOf "_law_answer" "_law_answer" (C8 C2a) (C6 C2a) (A1 C2a) .none Y7t Y8u Z0n Y9m J9x Z0a),Y9f⟩) (J6y:codeIn K J9x "_law_answer"=true) (J2h:keepIn K (.ref J6h)=true)
   {U6h U4v:Option Addr} {U3f:Array (Option Value)} {U3u U4u U2y U2v D1h U3e:Value}
   (C3z:nsIn K mainGlobals "_law_whole"=some (some (.ref C5y))) (C5u:K.lookup C5y=some ⟨U3u,U6h,.func (fnOf "_law_whole" "_law_whole" (C8 A1b) (C6 A1b) (A1 A1b) .none U4u U2y U2v U4v D1h U3e),U3f⟩) (C5z:codeIn K D1h "_law_whole"=true) (C3g:keepIn K (.ref C5y)=true)
   {Z7e Z7r:Option Addr} {Z7g:Array (Option Value)} {Z5a Z5y Z7z Z6x V3k Z5q:Value}
   (V8k:nsIn K mainGlobals "_law_drawn_number"=some (some (.ref Y3k))) (V5c:K.lookup Y3k=some ⟨Z5a,Z7e,.func (fnOf "_law_drawn_number" "_law_drawn_number" (C8 B3h) (C6 B3h) (A1 B3h) .none Z5y Z7z Z6x Z7r V3k Z5q),Z7g⟩) (Y1b:codeIn K V3k "_law_drawn_number"=true) (V6r:keepIn K (.ref Y3k)=true)
   {Y8s Y9z:Option Addr} {Z0m:Array (Option Value)} {Y9g Z0q Z0b Z0c U0m Z1b:Value}
   (J1t:nsIn K mainGlobals "_law_number"=some (some (.ref G9c))) (G9s:K.lookup G9c=some ⟨Y9g,Y8s,.func (fnOf "_law_number" "_law_number" (C8 A5b) (C6 A5b) (A1 A5b) .none Z0q Z0b Z0c Y9z U0m Z1b),Z0m⟩) (J1z:codeIn K U0m "_law_number"=true) (J7k:keepIn K (.ref G9c)=true)
   {Z0r Y9u:Option Addr} {Y7n:Array (Option Value)} {Y9d Z1g Y7j Y7w U0e Y8b:Value}
   (J2m:nsIn K mainGlobals "_law_refused"=some (some (.ref G9n))) (J7e:K.lookup G9n=some ⟨Y9d,Z0r,.func (fnOf "_law_refused" "_law_refused" (C8 A5p) (C6 A5p) (A1 A5p) .none Z1g Y7j Y7w Y9u U0e Y8b),Y7n⟩) (J4t:codeIn K U0e "_law_refused"=true) (J6k:keepIn K (.ref G9n)=true)
   {Z8d Z5g:Option Addr} {Z6m:Array (Option Value)} {Z7d Z4u Z6p Z6b V7b Z5k:Value}
   (V7n:nsIn K mainGlobals "_law_nought_power"=some (some (.ref V7x))) (Y3n:K.lookup V7x=some ⟨Z7d,Z8d,.func (fnOf "_law_nought_power" "_law_nought_power" (C8 G1s) (C6 G1s) (A1 G1s) .none Z4u Z6p Z6b Z5g V7b Z5k),Z6m⟩) (Y1f:codeIn K V7b "_law_nought_power"=true) (V3u:keepIn K (.ref V7x)=true)
   {Z5x Z5f:Option Addr} {Z5p:Array (Option Value)} {Z6q Z7f Z6v Z5u V2p Z4w:Value}
   (V6s:nsIn K mainGlobals "_law_rounded_due"=some (some (.ref V1e))) (V3e:K.lookup V1e=some ⟨Z6q,Z5x,.func (fnOf "_law_rounded_due" "_law_rounded_due" (C8 G7z) (C6 G7z) (A1 G7z) .none Z7f Z6v Z5u Z5f V2p Z4w),Z5p⟩) (V6j:codeIn K V2p "_law_rounded_due"=true) (Y4b:keepIn K (.ref V1e)=true)
   {Z5h V4j:Option Addr} {Z7c:Array (Option Value)} {Z5v V3r V7j V6w D4h V1j:Value}
   (U0g:nsIn K mainGlobals "law"=some (some (.ref Y0g))) (V1f:K.lookup Y0g=some ⟨Z5v,Z5h,.func (fnOf "law" "law" (C8 C0y) (C6 C0y) (A1 C0y) .none V3r V7j V6w V4j D4h V1j),Z7c⟩) (V9x:codeIn K D4h "law"=true) (V6n:keepIn K (.ref Y0g)=true)
   (A7m:nsIn K mainGlobals "isinstance"=some none)
   (V7y:nsIn K mainGlobals "int"=some none)
   (G9y:nsIn K mainGlobals "bool"=some none)
   (Y1n:nsIn K mainGlobals "str"=some none)
   (J5p:nsIn K mainGlobals "list"=some none)
   (G1e:nsIn K mainGlobals "tuple"=some none)
   (J2j:nsIn K mainGlobals "dict"=some none)
   (Y0h:nsIn K mainGlobals "len"=some none)
   (G0y:nsIn K mainGlobals "range"=some none)
   (Y0y:nsIn K mainGlobals "min"=some none)
   (V4x:nsIn K mainGlobals "max"=some none)
   (Y0n:nsIn K mainGlobals "abs"=some none)
   (V8u:nsIn K mainGlobals "any"=some none)
   (V9n:nsIn K mainGlobals "all"=some none)
   (Y2z:nsIn K mainGlobals "sum"=some none)
   (J6r:nsIn K mainGlobals "repr"=some none)
   (A9j:nsIn K mainGlobals "enumerate"=some none)
   (B3s:nsIn K mainGlobals "reversed"=some none)
   (Y1s:nsIn K mainGlobals "zip"=some none)
   (C4u:nsIn K mainGlobals "sorted"=some none)
   (C4v:nsIn K mainGlobals "divmod"=some none)
   (V2t:nsIn K mainGlobals "set"=some none)
   (A7g:nsIn K mainGlobals "ValueError"=some none)
   (B3t:kitOne K (.type "int") (.type "int")=some true)
   (B0g:kitOne K (.type "int") (.type "bool")=some false)
   (B3w:kitOne K (.type "int") (.type "str")=some false)
   (A9y:kitOne K (.type "int") (.type "list")=some false)
   (A6c:kitOne K (.type "int") (.type "tuple")=some false)
   (B1e:kitOne K (.type "int") (.type "dict")=some false)
   (B1m:kitOne K (.type "bool") (.type "int")=some true)
   (A7w:kitOne K (.type "bool") (.type "bool")=some true)
   (B1f:kitOne K (.type "bool") (.type "str")=some false)
   (A6r:kitOne K (.type "bool") (.type "list")=some false)
   (A4d:kitOne K (.type "bool") (.type "tuple")=some false)
   (A6f:kitOne K (.type "bool") (.type "dict")=some false)
   (B4h:kitOne K (.type "str") (.type "int")=some false)
   (A9a:kitOne K (.type "str") (.type "bool")=some false)
   (B4q:kitOne K (.type "str") (.type "str")=some true)
   (A9s:kitOne K (.type "str") (.type "list")=some false)
   (A7p:kitOne K (.type "str") (.type "tuple")=some false)
   (A9e:kitOne K (.type "str") (.type "dict")=some false)
   (B0f:kitOne K (.type "list") (.type "int")=some false)
   (A5s:kitOne K (.type "list") (.type "bool")=some false)
   (A8y:kitOne K (.type "list") (.type "str")=some false)
   (A6g:kitOne K (.type "list") (.type "list")=some true)
   (A1k:kitOne K (.type "list") (.type "tuple")=some false)
   (A6t:kitOne K (.type "list") (.type "dict")=some false)
   (A6z:kitOne K (.type "tuple") (.type "int")=some false)
   (A4e:kitOne K (.type "tuple") (.type "bool")=some false)
   (A5w:kitOne K (.type "tuple") (.type "str")=some false)
   (A4h:kitOne K (.type "tuple") (.type "list")=some false)
   (A3h:kitOne K (.type "tuple") (.type "tuple")=some true)
   (A4g:kitOne K (.type "tuple") (.type "dict")=some false)
   (B1q:kitOne K (.type "dict") (.type "int")=some false)
   (A7b:kitOne K (.type "dict") (.type "bool")=some false)
   (A9h:kitOne K (.type "dict") (.type "str")=some false)
   (A7c:kitOne K (.type "dict") (.type "list")=some false)
   (A4f:kitOne K (.type "dict") (.type "tuple")=some false)
   (A6q:kitOne K (.type "dict") (.type "dict")=some true)
   (A2j:kitOne K (.type "NoneType") (.type "int")=some false)
   (A1c:kitOne K (.type "NoneType") (.type "bool")=some false)
   (A2h:kitOne K (.type "NoneType") (.type "str")=some false)
   (A1d:kitOne K (.type "NoneType") (.type "list")=some false)
   (A0n:kitOne K (.type "NoneType") (.type "tuple")=some false)
   (A1e:kitOne K (.type "NoneType") (.type "dict")=some false)
   (sn:specialIn K (.builtin "object.__class__") "__get__"=some (some (.builtin "getset_descriptor.__get__")))
   (tk:takesIn K (.builtin "object.__class__")=some true)
   (ir:nsIn K mainGlobals "Way"=some (some (.ref CW)))
   (Z6z:nsIn K mainGlobals "Down"=some (some (.ref W0)))
   (Y0r:plainGet K W0 Str.empty=true)
   (V1z:hasDictIn K W0=true)
   (Y1d:plainOver K W0=true)
   (Y2s:findIn K (.ref W0) "__setattr__"=some (some (.builtin "object.__setattr__")))
   (V2d:makesIn K W0=true)
   (V3g:keepIn K (.ref W0)=true)
   (V5e:findIn K (.ref W0) "__class__"=some (some (.builtin "object.__class__")))
   (V1u:mroIn K W0 (.type "object")=some true)
   (V4b:findIn K (.ref W0) "__init__"=some (some (.builtin "object.__init__")))
   (Y2f:kitOne K (.ref W0) (.ref CW)=some true)
   (B7b:findIn K (.ref W0) "name"=some (some (.ref A4z)))
   (B8s:isFn K (.ref A4z)=true)
   {J4e J7g:Option Addr} {J5y:Array (Option Value)} {J3t J5u J3x J4k C6f J5g:Value} (B6v:K.lookup A4z=some ⟨J3t,J4e,.func (fnOf "name" "Down.name" (C8 sN0) (C6 sN0) (A1 sN0) .none J5u J3x J4k J7g C6f J5g),J5y⟩)
   (B8a:codeIn K C6f "Down.name"=true)
   (B2c:keepIn K (.ref A4z)=true)
   (Z6u:nsIn K mainGlobals "Up"=some (some (.ref W1)))
   (V1s:plainGet K W1 Str.empty=true)
   (V5y:hasDictIn K W1=true)
   (V6u:plainOver K W1=true)
   (V2h:findIn K (.ref W1) "__setattr__"=some (some (.builtin "object.__setattr__")))
   (V7f:makesIn K W1=true)
   (V2v:keepIn K (.ref W1)=true)
   (Y3u:findIn K (.ref W1) "__class__"=some (some (.builtin "object.__class__")))
   (Y0d:mroIn K W1 (.type "object")=some true)
   (Y0f:findIn K (.ref W1) "__init__"=some (some (.builtin "object.__init__")))
   (V6q:kitOne K (.ref W1) (.ref CW)=some true)
   (B7z:findIn K (.ref W1) "name"=some (some (.ref A4v)))
   (B7m:isFn K (.ref A4v)=true)
   {J0x J2k:Option Addr} {J6t:Array (Option Value)} {J4m J7n J0d J2u C4w J3c:Value} (B9n:K.lookup A4v=some ⟨J4m,J0x,.func (fnOf "name" "Up.name" (C8 sN1) (C6 sN1) (A1 sN1) .none J7n J0d J2u J2k C4w J3c),J6t⟩)
   (B8d:codeIn K C4w "Up.name"=true)
   (B2m:keepIn K (.ref A4v)=true)
   (Z6t:nsIn K mainGlobals "Floor"=some (some (.ref W2)))
   (V5m:plainGet K W2 Str.empty=true)
   (V6k:hasDictIn K W2=true)
   (V3m:plainOver K W2=true)
   (Y3d:findIn K (.ref W2) "__setattr__"=some (some (.builtin "object.__setattr__")))
   (V9j:makesIn K W2=true)
   (V3p:keepIn K (.ref W2)=true)
   (V3c:findIn K (.ref W2) "__class__"=some (some (.builtin "object.__class__")))
   (Y2u:mroIn K W2 (.type "object")=some true)
   (Y2v:findIn K (.ref W2) "__init__"=some (some (.builtin "object.__init__")))
   (V5b:kitOne K (.ref W2) (.ref CW)=some true)
   (B8x:findIn K (.ref W2) "name"=some (some (.ref A4x)))
   (B7n:isFn K (.ref A4x)=true)
   {J5x J7t:Option Addr} {J2d:Array (Option Value)} {J2s J4s J2n G8x C3s J6e:Value} (B7d:K.lookup A4x=some ⟨J2s,J5x,.func (fnOf "name" "Floor.name" (C8 sN2) (C6 sN2) (A1 sN2) .none J4s J2n G8x J7t C3s J6e),J2d⟩)
   (B9z:codeIn K C3s "Floor.name"=true)
   (B2f:keepIn K (.ref A4x)=true)
   (Z7w:nsIn K mainGlobals "Ceiling"=some (some (.ref W3)))
   (V3n:plainGet K W3 Str.empty=true)
   (Y2c:hasDictIn K W3=true)
   (Y0u:plainOver K W3=true)
   (V7c:findIn K (.ref W3) "__setattr__"=some (some (.builtin "object.__setattr__")))
   (V7p:makesIn K W3=true)
   (Y3a:keepIn K (.ref W3)=true)
   (V8w:findIn K (.ref W3) "__class__"=some (some (.builtin "object.__class__")))
   (V9y:mroIn K W3 (.type "object")=some true)
   (Y3r:findIn K (.ref W3) "__init__"=some (some (.builtin "object.__init__")))
   (Y2p:kitOne K (.ref W3) (.ref CW)=some true)
   (B7t:findIn K (.ref W3) "name"=some (some (.ref A5a)))
   (B8n:isFn K (.ref A5a)=true)
   {J4d J3j:Option Addr} {J4a:Array (Option Value)} {J6g J0k J6w J4v C4h J0y:Value} (B7v:K.lookup A5a=some ⟨J6g,J4d,.func (fnOf "name" "Ceiling.name" (C8 sN3) (C6 sN3) (A1 sN3) .none J0k J6w J4v J3j C4h J0y),J4a⟩)
   (B9b:codeIn K C4h "Ceiling.name"=true)
   (B2h:keepIn K (.ref A5a)=true)
   (Z7s:nsIn K mainGlobals "HalfUp"=some (some (.ref W4)))
   (V2e:plainGet K W4 Str.empty=true)
   (Y0q:hasDictIn K W4=true)
   (Y0a:plainOver K W4=true)
   (V7q:findIn K (.ref W4) "__setattr__"=some (some (.builtin "object.__setattr__")))
   (V5s:makesIn K W4=true)
   (V2q:keepIn K (.ref W4)=true)
   (V5g:findIn K (.ref W4) "__class__"=some (some (.builtin "object.__class__")))
   (Y3v:mroIn K W4 (.type "object")=some true)
   (V8j:findIn K (.ref W4) "__init__"=some (some (.builtin "object.__init__")))
   (V1k:kitOne K (.ref W4) (.ref CW)=some true)
   (B6z:findIn K (.ref W4) "name"=some (some (.ref A4t)))
   (B9s:isFn K (.ref A4t)=true)
   {J6b G9j:Option Addr} {J0h:Array (Option Value)} {J3s J1c J1v J4b C5d J5r:Value} (B7p:K.lookup A4t=some ⟨J3s,J6b,.func (fnOf "name" "HalfUp.name" (C8 sN4) (C6 sN4) (A1 sN4) .none J1c J1v J4b G9j C5d J5r),J0h⟩)
   (B6u:codeIn K C5d "HalfUp.name"=true)
   (B2g:keepIn K (.ref A4t)=true)
   (Z8b:nsIn K mainGlobals "HalfDown"=some (some (.ref W5)))
   (Y1v:plainGet K W5 Str.empty=true)
   (V2f:hasDictIn K W5=true)
   (V4u:plainOver K W5=true)
   (V8z:findIn K (.ref W5) "__setattr__"=some (some (.builtin "object.__setattr__")))
   (Y2a:makesIn K W5=true)
   (Y3s:keepIn K (.ref W5)=true)
   (V3w:findIn K (.ref W5) "__class__"=some (some (.builtin "object.__class__")))
   (Y0b:mroIn K W5 (.type "object")=some true)
   (V8e:findIn K (.ref W5) "__init__"=some (some (.builtin "object.__init__")))
   (V1w:kitOne K (.ref W5) (.ref CW)=some true)
   (B9t:findIn K (.ref W5) "name"=some (some (.ref A4u)))
   (B8y:isFn K (.ref A4u)=true)
   {J3u J3v:Option Addr} {G8z:Array (Option Value)} {J3w J7a J1a J7p C3x J0q:Value} (B8t:K.lookup A4u=some ⟨J3w,J3u,.func (fnOf "name" "HalfDown.name" (C8 sN5) (C6 sN5) (A1 sN5) .none J7a J1a J7p J3v C3x J0q),G8z⟩)
   (B7q:codeIn K C3x "HalfDown.name"=true)
   (B2d:keepIn K (.ref A4u)=true)
   (Z6h:nsIn K mainGlobals "HalfEven"=some (some (.ref W6)))
   (Y3m:plainGet K W6 Str.empty=true)
   (V7w:hasDictIn K W6=true)
   (V4t:plainOver K W6=true)
   (V6d:findIn K (.ref W6) "__setattr__"=some (some (.builtin "object.__setattr__")))
   (Y2q:makesIn K W6=true)
   (V1n:keepIn K (.ref W6)=true)
   (Y3e:findIn K (.ref W6) "__class__"=some (some (.builtin "object.__class__")))
   (V1x:mroIn K W6 (.type "object")=some true)
   (V8b:findIn K (.ref W6) "__init__"=some (some (.builtin "object.__init__")))
   (Y1x:kitOne K (.ref W6) (.ref CW)=some true)
   (B9r:findIn K (.ref W6) "name"=some (some (.ref A4w)))
   (B8z:isFn K (.ref A4w)=true)
   {J4w J4r:Option Addr} {G9u:Array (Option Value)} {G9g J5q J7h J4x C3r J1k:Value} (B8u:K.lookup A4w=some ⟨G9g,J4w,.func (fnOf "name" "HalfEven.name" (C8 sN6) (C6 sN6) (A1 sN6) .none J5q J7h J4x J4r C3r J1k),G9u⟩)
   (B9c:codeIn K C3r "HalfEven.name"=true)
   (B2b:keepIn K (.ref A4w)=true)
   (Z6k:nsIn K mainGlobals "FiveUp"=some (some (.ref W7)))
   (V3s:plainGet K W7 Str.empty=true)
   (V9m:hasDictIn K W7=true)
   (V3y:plainOver K W7=true)
   (V3z:findIn K (.ref W7) "__setattr__"=some (some (.builtin "object.__setattr__")))
   (V8v:makesIn K W7=true)
   (V3j:keepIn K (.ref W7)=true)
   (V8f:findIn K (.ref W7) "__class__"=some (some (.builtin "object.__class__")))
   (V7u:mroIn K W7 (.type "object")=some true)
   (V8h:findIn K (.ref W7) "__init__"=some (some (.builtin "object.__init__")))
   (V8c:kitOne K (.ref W7) (.ref CW)=some true)
   (B8e:findIn K (.ref W7) "name"=some (some (.ref A4s)))
   (B9v:isFn K (.ref A4s)=true)
   {J1m J1s:Option Addr} {J5m:Array (Option Value)} {J2x J4j J6q J5k C3v J6c:Value} (B9m:K.lookup A4s=some ⟨J2x,J1m,.func (fnOf "name" "FiveUp.name" (C8 sN7) (C6 sN7) (A1 sN7) .none J4j J6q J5k J1s C3v J6c),J5m⟩)
   (C0c:codeIn K C3v "FiveUp.name"=true)
   (B2e:keepIn K (.ref A4s)=true)
   (Z4v:nsIn K mainGlobals "Number"=some (some (.ref CN)))
   (V5p:plainGet K CN Str.empty=true)
   (V7a:hasDictIn K CN=true)
   (V5k:plainOver K CN=true)
   (Y0s:findIn K (.ref CN) "__setattr__"=some (some (.builtin "object.__setattr__")))
   (V8g:makesIn K CN=true)
   (V8r:keepIn K (.ref CN)=true)
   (Y3b:findIn K (.ref CN) "__class__"=some (some (.builtin "object.__class__")))
   (V5q:mroIn K CN (.type "object")=some true)
   (B7j:findIn K (.ref CN) "kind"=some none)
   (B9y:findIn K (.ref CN) "sign"=some none)
   (A7a:findIn K (.ref CN) "figures"=some none)
   (B3y:findIn K (.ref CN) "power"=some none)
   (V5j:findIn K (.ref CN) "__init__"=some (some (.ref D1b)))
   (V4m:isFn K (.ref D1b)=true)
   {Z8a Z7t:Option Addr} {Z6d:Array (Option Value)} {Z6c Z6f Z7x Z7j V9u Z6y:Value} (Y1w:K.lookup D1b=some ⟨Z6c,Z8a,.func (fnOf "__init__" "Number.__init__" (C8 D0j) (C6 D0j) (A1 D0j) .none Z6f Z7x Z7j Z7t V9u Z6y),Z6d⟩)
   (V6b:codeIn K V9u "Number.__init__"=true)
   (V8s:keepIn K (.ref D1b)=true)
   (D4x:kitOne K (.ref CN) (.ref CN)=some true)
   (A7e:findIn K (.ref W0) "goes_up"=some (some (.ref A0u)))
   (A6v:isFn K (.ref A0u)=true)
   {C8v C7m:Option Addr} {C6x:Array (Option Value)} {C7s C7h C8h C7g B2t C8p:Value} (A7j:K.lookup A0u=some ⟨C7s,C8v,.func (fnOf "goes_up" "Down.goes_up" (C8 sU0) (C6 sU0) (A1 sU0) .none C7h C8h C7g C7m B2t C8p),C6x⟩)
   (A6s:codeIn K B2t "Down.goes_up"=true)
   (A2t:keepIn K (.ref A0u)=true)
   (B0u:findIn K (.ref W0) "to_end"=some (some (.ref A1u)))
   (B1g:isFn K (.ref A1u)=true)
   {D5q D8u:Option Addr} {G1a:Array (Option Value)} {D5e D3j D4b D5b B5r D8t:Value} (A9p:K.lookup A1u=some ⟨D5e,D5q,.func (fnOf "to_end" "Down.to_end" (C8 sT0) (C6 sT0) (A1 sT0) .none D3j D4b D5b D8u B5r D8t),G1a⟩)
   (A9t:codeIn K B5r "Down.to_end"=true)
   (A3s:keepIn K (.ref A1u)=true)
   (A7r:findIn K (.ref W1) "goes_up"=some (some (.ref A0r)))
   (A6d:isFn K (.ref A0r)=true)
   {C7j C9r:Option Addr} {C6v:Array (Option Value)} {C7n C9j C7p C8y B2s C6q:Value} (A5x:K.lookup A0r=some ⟨C7n,C7j,.func (fnOf "goes_up" "Up.goes_up" (C8 sU1) (C6 sU1) (A1 sU1) .none C9j C7p C8y C9r B2s C6q),C6v⟩)
   (A5v:codeIn K B2s "Up.goes_up"=true)
   (A2s:keepIn K (.ref A0r)=true)
   (B0x:findIn K (.ref W1) "to_end"=some (some (.ref A1v)))
   (B1h:isFn K (.ref A1v)=true)
   {D9r D7s:Option Addr} {D9u:Array (Option Value)} {D7m D7k D4u D9s B5y D9x:Value} (B0r:K.lookup A1v=some ⟨D7m,D9r,.func (fnOf "to_end" "Up.to_end" (C8 sT1) (C6 sT1) (A1 sT1) .none D7k D4u D9s D7s B5y D9x),D9u⟩)
   (B0e:codeIn K B5y "Up.to_end"=true)
   (A3z:keepIn K (.ref A1v)=true)
   (A6b:findIn K (.ref W2) "goes_up"=some (some (.ref A0q)))
   (A5u:isFn K (.ref A0q)=true)
   {C7e C8r:Option Addr} {C8x:Array (Option Value)} {C8g C7b C9k C7q B2w C8f:Value} (A6p:K.lookup A0q=some ⟨C8g,C7e,.func (fnOf "goes_up" "Floor.goes_up" (C8 sU2) (C6 sU2) (A1 sU2) .none C7b C9k C7q C8r B2w C8f),C8x⟩)
   (A6e:codeIn K B2w "Floor.goes_up"=true)
   (A2r:keepIn K (.ref A0q)=true)
   (B0q:findIn K (.ref W2) "to_end"=some (some (.ref A2a)))
   (B1r:isFn K (.ref A2a)=true)
   {D4m D8e:Option Addr} {D3r:Array (Option Value)} {D5h G0p D8x D6z B5u D9d:Value} (A9r:K.lookup A2a=some ⟨D5h,D4m,.func (fnOf "to_end" "Floor.to_end" (C8 sT2) (C6 sT2) (A1 sT2) .none G0p D8x D6z D8e B5u D9d),D3r⟩)
   (A8z:codeIn K B5u "Floor.to_end"=true)
   (A3v:keepIn K (.ref A2a)=true)
   (A5z:findIn K (.ref W3) "goes_up"=some (some (.ref A0t)))
   (A7t:isFn K (.ref A0t)=true)
   {C8a C8j:Option Addr} {C9d:Array (Option Value)} {C9a C7f C6w C8w B2r C8t:Value} (A7n:K.lookup A0t=some ⟨C9a,C8a,.func (fnOf "goes_up" "Ceiling.goes_up" (C8 sU3) (C6 sU3) (A1 sU3) .none C7f C6w C8w C8j B2r C8t),C9d⟩)
   (A5y:codeIn K B2r "Ceiling.goes_up"=true)
   (A2v:keepIn K (.ref A0t)=true)
   (B0m:findIn K (.ref W3) "to_end"=some (some (.ref A2b)))
   (B0j:isFn K (.ref A2b)=true)
   {D7h G1p:Option Addr} {D7y:Array (Option Value)} {D9v G1g D9q D5f B5x D9g:Value} (A9u:K.lookup A2b=some ⟨D9v,D7h,.func (fnOf "to_end" "Ceiling.to_end" (C8 sT3) (C6 sT3) (A1 sT3) .none G1g D9q D5f G1p B5x D9g),D7y⟩)
   (A9q:codeIn K B5x "Ceiling.to_end"=true)
   (A3w:keepIn K (.ref A2b)=true)
   (A6w:findIn K (.ref W4) "goes_up"=some (some (.ref A0k)))
   (A6j:isFn K (.ref A0k)=true)
   {C7w C9h:Option Addr} {C6s:Array (Option Value)} {C9f C8q C6t C7z B2u C6u:Value} (A6u:K.lookup A0k=some ⟨C9f,C7w,.func (fnOf "goes_up" "HalfUp.goes_up" (C8 sU4) (C6 sU4) (A1 sU4) .none C8q C6t C7z C9h B2u C6u),C6s⟩)
   (A6x:codeIn K B2u "HalfUp.goes_up"=true)
   (A2p:keepIn K (.ref A0k)=true)
   (A9c:findIn K (.ref W4) "to_end"=some (some (.ref A2d)))
   (B0y:isFn K (.ref A2d)=true)
   {G0j D8s:Option Addr} {D9c:Array (Option Value)} {G0d D3s G1m D4a B5p D9e:Value} (A9b:K.lookup A2d=some ⟨G0d,G0j,.func (fnOf "to_end" "HalfUp.to_end" (C8 sT4) (C6 sT4) (A1 sT4) .none D3s G1m D4a D8s B5p D9e),D9c⟩)
   (B1d:codeIn K B5p "HalfUp.to_end"=true)
   (A4a:keepIn K (.ref A2d)=true)
   (A6m:findIn K (.ref W5) "goes_up"=some (some (.ref A0s)))
   (A7k:isFn K (.ref A0s)=true)
   {C9n C8z:Option Addr} {C8e:Array (Option Value)} {C9q C7y C7t C7k B2v C6y:Value} (A6k:K.lookup A0s=some ⟨C9q,C9n,.func (fnOf "goes_up" "HalfDown.goes_up" (C8 sU5) (C6 sU5) (A1 sU5) .none C7y C7t C7k C8z B2v C6y),C8e⟩)
   (A7d:codeIn K B2v "HalfDown.goes_up"=true)
   (A2w:keepIn K (.ref A0s)=true)
   (B1n:findIn K (.ref W5) "to_end"=some (some (.ref A1y)))
   (B0t:isFn K (.ref A1y)=true)
   {G1d D5m:Option Addr} {D7t:Array (Option Value)} {D5c G1f G0a G0t B5q D8k:Value} (A9w:K.lookup A1y=some ⟨D5c,G1d,.func (fnOf "to_end" "HalfDown.to_end" (C8 sT5) (C6 sT5) (A1 sT5) .none G1f G0a G0t D5m B5q D8k),D7t⟩)
   (B0v:codeIn K B5q "HalfDown.to_end"=true)
   (A3x:keepIn K (.ref A1y)=true)
   (A6y:findIn K (.ref W6) "goes_up"=some (some (.ref A0m)))
   (A7s:isFn K (.ref A0m)=true)
   {C6z C7r:Option Addr} {C8s:Array (Option Value)} {C7d C8d C7c C7v B2y C9p:Value} (A6a:K.lookup A0m=some ⟨C7d,C6z,.func (fnOf "goes_up" "HalfEven.goes_up" (C8 sU6) (C6 sU6) (A1 sU6) .none C8d C7c C7v C7r B2y C9p),C8s⟩)
   (A6n:codeIn K B2y "HalfEven.goes_up"=true)
   (A2q:keepIn K (.ref A0m)=true)
   (A9n:findIn K (.ref W6) "to_end"=some (some (.ref A1x)))
   (A9d:isFn K (.ref A1x)=true)
   {D3w D6e:Option Addr} {D9a:Array (Option Value)} {G0k D9y G1k D6a B5s D4f:Value} (B0p:K.lookup A1x=some ⟨G0k,D3w,.func (fnOf "to_end" "HalfEven.to_end" (C8 sT6) (C6 sT6) (A1 sT6) .none D9y G1k D6a D6e B5s D4f),D9a⟩)
   (B0w:codeIn K B5s "HalfEven.to_end"=true)
   (A3u:keepIn K (.ref A1x)=true)
   (A7h:findIn K (.ref W7) "goes_up"=some (some (.ref A0p)))
   (A7x:isFn K (.ref A0p)=true)
   {C9e C9b:Option Addr} {C9c:Array (Option Value)} {C9s C9g C8b C7u B2x C8k:Value} (A6h:K.lookup A0p=some ⟨C9s,C9e,.func (fnOf "goes_up" "FiveUp.goes_up" (C8 sU7) (C6 sU7) (A1 sU7) .none C9g C8b C7u C9b B2x C8k),C9c⟩)
   (A5t:codeIn K B2x "FiveUp.goes_up"=true)
   (A2u:keepIn K (.ref A0p)=true)
   (B1p:findIn K (.ref W7) "to_end"=some (some (.ref A1z)))
   (B0b:isFn K (.ref A1z)=true)
   {D6h D3t:Option Addr} {D7e:Array (Option Value)} {D7u D3q D4w D3n B5z D7b:Value} (A9f:K.lookup A1z=some ⟨D7u,D6h,.func (fnOf "to_end" "FiveUp.to_end" (C8 sT7) (C6 sT7) (A1 sT7) .none D3q D4w D3n D3t B5z D7b),D7e⟩)
   (A8x:codeIn K B5z "FiveUp.to_end"=true)
   (A4b:keepIn K (.ref A1z)=true)
   (Z6r:nsIn K mainGlobals "Context"=some (some (.ref CC)))
   (V4g:plainGet K CC Str.empty=true)
   (Y3w:hasDictIn K CC=true)
   (V2y:plainOver K CC=true)
   (Y1t:findIn K (.ref CC) "__setattr__"=some (some (.builtin "object.__setattr__")))
   (V9r:makesIn K CC=true)
   (Y4a:keepIn K (.ref CC)=true)
   (C0f:findIn K (.ref CC) "room"=some none)
   (B9k:findIn K (.ref CC) "rule"=some none)
   (B4r:findIn K (.ref CC) "least"=some none)
   (B7a:findIn K (.ref CC) "most"=some none)
   (B3u:findIn K (.ref CC) "risen"=some none)
   (A7v:findIn K (.ref CC) "trapped"=some none)
   (Y2d:findIn K (.ref CC) "__init__"=some (some (.ref D1a)))
   (V2g:isFn K (.ref D1a)=true)
   {Z7h Y3q:Option Addr} {Z7v:Array (Option Value)} {Z8c Y1g Y3z V8m J6j V1v:Value} (V4z:K.lookup D1a=some ⟨Z8c,Z7h,.func (fnOf "__init__" "Context.__init__" (C8 A0g) (C6 A0g) (A1 A0g) (.ref V6y) Y1g Y3z V8m Y3q J6j V1v),Z7v⟩)
   (V2b:codeIn K J6j "Context.__init__"=true)
   (V6g:keepIn K (.ref D1a)=true)
   {df dg dh:Tok} {di:Nat} {Z5t:Option Addr} {Z6s:Value} {Z5m:Array (Option Value)} (Y2e:K.lookup V6y=some ⟨Z6s,Z5t,.seq #[.int 9 df,.str "half even" dg,.none,.int 60 dh] di,Z5m⟩)
   (B3r:findIn K (.ref CC) "flags"=some (some (.ref A3k)))
   (B4c:isFn K (.ref A3k)=true)
   {G5m G4h:Option Addr} {G4n:Array (Option Value)} {G4r G5p G5h G5z C0w G4y:Value} (B3q:K.lookup A3k=some ⟨G4r,G5m,.func (fnOf "flags" "Context.flags" (C8 A2x) (C6 A2x) (A1 A2x) .none G5p G5h G5z G4h C0w G4y),G4n⟩)
   (B4p:codeIn K C0w "Context.flags"=true)
   (A7q:keepIn K (.ref A3k)=true)
   (B0n:findIn K (.ref CC) "lowest"=some (some (.ref A2c)))
   (B0k:isFn K (.ref A2c)=true)
   {D3z D8g:Option Addr} {D6k:Array (Option Value)} {G1c D4z D7c D6s B5t D4p:Value} (A9v:K.lookup A2c=some ⟨G1c,D3z,.func (fnOf "lowest" "Context.lowest" (C8 B2a) (C6 B2a) (A1 B2a) .none D4z D7c D6s D8g B5t D4p),D6k⟩)
   (B1j:codeIn K B5t "Context.lowest"=true)
   (A3t:keepIn K (.ref A2c)=true)
   (C5r:findIn K (.ref CC) "way"=some (some (.ref B1c)))
   (C4k:isFn K (.ref B1c)=true)
   {U2s U4s:Option Addr} {U5u:Array (Option Value)} {U3d U2u U3z U6e D1g U4w:Value} (C4z:K.lookup B1c=some ⟨U3d,U2s,.func (fnOf "way" "Context.way" (C8 B1u) (C6 B1u) (A1 B1u) .none U2u U3z U6e U4s D1g U4w),U5u⟩)
   (C3w:codeIn K D1g "Context.way"=true)
   (B5m:keepIn K (.ref B1c)=true)
   (B1b:findIn K (.ref CC) "raised"=some (some (.ref A1w)))
   (B0a:isFn K (.ref A1w)=true)
   {G0u D7z:Option Addr} {D9m:Array (Option Value)} {G0v D5g D6q D5r B5w D5j:Value} (B0h:K.lookup A1w=some ⟨G0v,G0u,.func (fnOf "raised" "Context.raised" (C8 A0z) (C6 A0z) (A1 A0z) .none D5g D6q D5r D7z B5w D5j),D9m⟩)
   (B1s:codeIn K B5w "Context.raised"=true)
   (A3y:keepIn K (.ref A1w)=true)
   (Z6g:nsIn K mainGlobals "Ratio"=some (some (.ref CQ)))
   (V4e:plainGet K CQ Str.empty=true)
   (Y1e:hasDictIn K CQ=true)
   (Y2h:plainOver K CQ=true)
   (V7r:findIn K (.ref CQ) "__setattr__"=some (some (.builtin "object.__setattr__")))
   (Y3x:makesIn K CQ=true)
   (Y2x:keepIn K (.ref CQ)=true)
   (V6a:findIn K (.ref CQ) "__class__"=some (some (.builtin "object.__class__")))
   (V9h:mroIn K CQ (.type "object")=some true)
   (C5b:findIn K (.ref CQ) "top"=some none)
   (B0d:findIn K (.ref CQ) "bottom"=some none)
   (B4b:findIn K (.ref CQ) "power"=some none)
   (Y0w:findIn K (.ref CQ) "__init__"=some (some (.ref D0z)))
   (V5f:isFn K (.ref D0z)=true)
   {Z7a V1t:Option Addr} {Z5w:Array (Option Value)} {Z5r Y1z Y2m V9p J2g V8p:Value} (V9z:K.lookup D0z=some ⟨Z5r,Z7a,.func (fnOf "__init__" "Ratio.__init__" (C8 A5e) (C6 A5e) (A1 A5e) (.ref V2r) Y1z Y2m V9p V1t J2g V8p),Z5w⟩)
   (V4y:codeIn K J2g "Ratio.__init__"=true)
   (Y0x:keepIn K (.ref D0z)=true)
   {Z1z:Tok} {dj:Nat} {Z6j:Option Addr} {Z6n:Value} {Z7k:Array (Option Value)} (G3h:K.lookup V2r=some ⟨Z6n,Z6j,.seq #[.int 0 Z1z] dj,Z7k⟩)
   (B4s:findIn K (.ref CQ) "first"=some (some (.ref A1f)))
   (B4m:isFn K (.ref A1f)=true)
   {G5d G6b:Option Addr} {G5s:Array (Option Value)} {G4k G3m G5v G5y C0s G5f:Value} (B3v:K.lookup A1f=some ⟨G4k,G5d,.func (fnOf "first" "Ratio.first" (C8 A3d) (C6 A3d) (A1 A3d) .none G3m G5v G5y G6b C0s G5f),G5s⟩)
   (B4f:codeIn K C0s "Ratio.first"=true)
   (A7u:keepIn K (.ref A1f)=true)
   (D3m:findIn K (.ref CQ) "at"=some (some (.ref B2j)))
   (D5z:isFn K (.ref B2j)=true)
   {V5t V7v:Option Addr} {V8n:Array (Option Value)} {Y1r V1q Y1c V7z G4x V1g:Value} (G0f:K.lookup B2j=some ⟨Y1r,V5t,.func (fnOf "at" "Ratio.at" (C8 C2e) (C6 C2e) (A1 C2e) .none V1q Y1c V7z V7v G4x V1g),V8n⟩)
   (D6y:codeIn K G4x "Ratio.at"=true)
   (C1f:keepIn K (.ref B2j)=true)
   (Z6w:nsIn K mainGlobals "Exact"=some (some (.ref CE)))
   (V8q:kitOne K (.ref CQ) (.ref CE)=some true)
   (Z0k:nsIn K mainGlobals "BadContext"=some (some (.ref C1)))
   (Y8v:nsIn K mainGlobals "BadNumber"=some (some (.ref C2)))
   (Y7s:nsIn K mainGlobals "NoText"=some (some (.ref C3)))
   (Y9v:nsIn K mainGlobals "BadCount"=some (some (.ref C4)))
   (V3t:nsIn K mainGlobals "Trapped"=some (some (.ref C5)))
   (Y7k:nsIn K mainGlobals "ReckonError"=some (some (.ref CR)))
   (cty:typeIn K (.ref CR)=some (.type "type"))
   {dR:ClassData} (ccl:clsIn K CR=some dR)
   (cex:subIn K (.ref CR) (.type "BaseException")=some true)
   (sub5:subIn K (.ref C5) (.ref CR)=some true)
   (xga5:findIn K (.ref C5) "__getattribute__"=some (some (.builtin "BaseException.__getattribute__")))
   (xgh5:findIn K (.ref C5) "__getattr__"=some none)
   (xca5:findIn K (.ref C5) "__class__"=some (some (.builtin "object.__class__")))
   (xob5:mroIn K C5 (.type "object")=some true)
   (xbe5:subIn K (.ref C5) (.type "BaseException")=some true)
   {d5:ClassData} (xcl5:clsIn K C5=some d5)
   (iu:kitOne K (.ref C5) (.ref C1)=some false)
   (iw:kitOne K (.ref C5) (.ref C2)=some false)
   (iy:kitOne K (.ref C5) (.ref C3)=some false)
   (iz:kitOne K (.ref C5) (.ref C4)=some false)
   (Z6a:kitOne K (.ref C5) (.ref C5)=some true)
   (hv5:kitOne K (.ref C5) (.type "ValueError")=some true)
   {nmT qT:Str} {NT:Addr} {bsT bmT:List Value} {snT:List Str} {suT:List Value} {abT:Bool} {coT:Option Bool} {ddT:Option Addr} {kT0 kT1 kT2 kT3 kT5:Option Value} (lT:K.lookup C5=some (excClassObj nmT qT C5 NT bsT bmT true snT suT abT coT ddT kT0 kT1 kT2 kT3 kT5 "ValueError.__new__"))
   {ocN:Value} {odN:Option Addr} {esN:Array DictEntry} {epN:Nat} {slN:Array (Option Value)} (lN:K.lookup NT=some ⟨ocN,odN,.dict esN epN,slN⟩)
   (alN:(esN.all fun e=>match e.key with| .str _ _=>true|_=>false)=true)
   (niT:nsIn K NT "__init__"=some (some (.ref fX)))
   {nmU qU:Str} {NU:Addr} {bsU:List Value} {snU:List Str} {suU:List Value} {abU:Bool} {coU:Option Bool} {ddU:Option Addr} {kU0 kU1 kU2 kU3 kU5:Option Value} (lT1:K.lookup C1=some (excClassObj nmU qU C1 NU bsU bmT true snU suU abU coU ddU kU0 kU1 kU2 kU3 kU5 "ValueError.__new__"))
   (saT:findIn K (.ref C5) "__setattr__"=some (some (.builtin "object.__setattr__")))
   (nsg5:findIn K (.ref C5) "signal"=some none)
   {dk dm:Option Addr} {dw:Array (Option Value)} {Z2c dy dz d_ Z2d eg:Value} (Y9j:K.lookup fX=some ⟨Z2c,dk,.func (fnOf "__init__" "Trapped.__init__" (C8 B1y) (C6 B1y) (A1 B1y) .none dy dz d_ dm Z2d eg),dw⟩)
   (Z8e:codeIn K Z2d "Trapped.__init__"=true)
   (Z8g:keepIn K (.ref fX)=true)
   (fcT:Z2c= .type "function")
   (kTR:kitOne K (.ref C5) (.ref CR)=some true)
   (q1:excIn K C1 [.type "ValueError",.type "Exception",.type "BaseException",.type "object"] "ValueError.__new__"=true)
   (q2:excIn K C2 [.type "ValueError",.type "Exception",.type "BaseException",.type "object"] "ValueError.__new__"=true)
   (q3:excIn K C3 [.type "ValueError",.type "Exception",.type "BaseException",.type "object"] "ValueError.__new__"=true)
   (q4:excIn K C4 [.type "ValueError",.type "Exception",.type "BaseException",.type "object"] "ValueError.__new__"=true)
   (a_S:nsIn K mainGlobals "SIGNALS"=some (some (.ref aS)))
   {u0 u1 u2 u3 u4 u5 u6:Tok} {nS:Nat} {odS:Option Addr} {slS:Array (Option Value)} (lS:K.lookup aS=some ⟨.type "tuple",odS,.seq #[.str "void" u0,.str "split" u1,.str "burst" u2,.str "sunk" u3,.str "faint" u4,.str "off" u5,.str "cut" u6] nS,slS⟩)
   (B3z:findIn K (.ref CC) "traps"=some (some (.ref A3j)))
   (B4j:isFn K (.ref A3j)=true)
   {G3x G4j:Option Addr} {G4q:Array (Option Value)} {G3j G4f G5e G6a C0t G6f:Value} (B3x:K.lookup A3j=some ⟨G3j,G3x,.func (fnOf "traps" "Context.traps" (C8 A2y) (C6 A2y) (A1 A2y) .none G4f G5e G6a G4j C0t G6f),G4q⟩)
   (B4a:codeIn K C0t "Context.traps"=true)
   (A7f:keepIn K (.ref A3j)=true)
   (B9h:findIn K (.ref CC) "trap"=some (some (.ref A4y)))
   (B8q:isFn K (.ref A4y)=true)
   {J7j J3r:Option Addr} {J4p:Array (Option Value)} {J1h G9t J4q J2z C5n J7r:Value} (B8j:K.lookup A4y=some ⟨J1h,J7j,.func (fnOf "trap" "Context.trap" (C8 A4j) (C6 A4j) (A1 A4j) .none G9t J4q J2z J3r C5n J7r),J4p⟩)
   (B8r:codeIn K C5n "Context.trap"=true)
   (B2k:keepIn K (.ref A4y)=true)
   (V6e:findIn K (.ref CC) "__class__"=some (some (.builtin "object.__class__")))
   (V3x:mroIn K CC (.type "object")=some true)
   (nCC:kitOne K (.ref CC) (.ref CN)=some false)
   (A9k:kitOne K (.type "NoneType") (.ref CN)=some false)
   (G8v:kitOne K (.type "int") (.ref CN)=some false)
   (J4u:kitOne K (.type "str") (.ref CN)=some false)
   (D3y:kitOne K (.type "bool") (.ref CN)=some false)
   (C3t:kitOne K (.type "tuple") (.ref CN)=some false)
   (D4n:kitOne K (.type "list") (.ref CN)=some false)
   (D7j:kitOne K (.type "dict") (.ref CN)=some false)
   (sub2:subIn K (.ref C2) (.ref CR)=some true)
   (xga2:findIn K (.ref C2) "__getattribute__"=some (some (.builtin "BaseException.__getattribute__")))
   (xgh2:findIn K (.ref C2) "__getattr__"=some none)
   (xca2:findIn K (.ref C2) "__class__"=some (some (.builtin "object.__class__")))
   (xob2:mroIn K C2 (.type "object")=some true)
   (xbe2:subIn K (.ref C2) (.type "BaseException")=some true)
   {d2:ClassData} (xcl2:clsIn K C2=some d2)
   (Z7q:kitOne K (.ref C2) (.ref C1)=some false)
   (Z7m:kitOne K (.ref C2) (.ref C2)=some true)
   (Z5c:kitOne K (.ref C2) (.ref C3)=some false)
   (Z7b:kitOne K (.ref C2) (.ref C4)=some false)
   (Z4y:kitOne K (.ref C2) (.ref C5)=some false)
   (hv2:kitOne K (.ref C2) (.type "ValueError")=some true)
   (hcode:D4h= .ref cc):
   ∃fd:FuncData,(∀(s:Shared) (v:Value),BindsTo s fd ⟨[v],[]⟩ [("_law_script",v)])/\∀base:Heap,K.In base ->base.Ns mainGlobals mg ->LamB mg base cc P0 ->FnOkG l.prog w K mg base (CX1 l.prog w) 10 fa fd ["_law_script"] (J9g K P0):=by
 have e:=hfa.symm.trans (mg_of X G U0g)
 cases e
 have C0v:=G3 (ps:=["whole","count"]) (st:=A0c) X G B0c B1a B0s B1t fun _ _ _ _ _ _ us hl=>match us,hl with| [_,_],_=>rfl
 have B5v:=G3 (ps:=["count"]) (st:=A3f) X G D9f D5s D6r D8b fun _ _ _ _ _ _ us hl=>match us,hl with| [_],_=>rfl
 have G5c:=G3 (ps:=["size","middle"]) (st:=A5q) X G C5a C3f C5k C3p fun _ _ _ _ _ _ us hl=>match us,hl with| [_,_],_=>rfl
 have U0d:=G3 (ps:=["whole"]) (st:=A8u) X G D6p D9n D7p D3k fun _ _ _ _ _ _ us hl=>match us,hl with| [_],_=>rfl
 have c8:=G3 (ps:=["sign","figures","power"]) (st:=B3e) X G D7d D3u D7n G0x fun _ _ _ _ _ _ us hl=>match us,hl with| [_,_,_],_=>rfl
 have ci:=G3 (ps:=["sign"]) (st:=G1v) X G Y3g V9s Y0k Y3f fun _ _ _ _ _ _ us hl=>match us,hl with| [_],_=>rfl
 have ae:=G3 (ps:=[]) (st:=A1t) X G B9e B7k C0d B7x fun _ _ _ _ _ _ us hl=>match us,hl with| [],_=>rfl
 have c4:=G3 (ps:=["number"]) (st:=C0m) X G J1y J0c J2c J3m fun _ _ _ _ _ _ us hl=>match us,hl with| [_],_=>rfl
 have V3h:=G3 (ps:=["number"]) (st:=C1h) X G J5b G8u J6s J5w fun _ _ _ _ _ _ us hl=>match us,hl with| [_],_=>rfl
 have C1g:=G3 (ps:=["thing"]) (st:=A5r) X G D5u G0c D7a D9t fun _ _ _ _ _ _ us hl=>match us,hl with| [_],_=>rfl
 have V2j:=G3 (ps:=["thing","least","most"]) (st:=C6h) X G V9d V2n V4q Y1k fun _ _ _ _ _ _ us hl=>match us,hl with| [_,_,_],_=>rfl
 have D1e:=G3 (ps:=["thing","least","most"]) (st:=A1n) X G B9q B8g B9w B9f fun _ _ _ _ _ _ us hl=>match us,hl with| [_,_,_],_=>rfl
 have ag:=G3 (ps:=["context","sign","exact","ideal"]) (st:=A1m) X G B7e B7g B7w B8h fun _ _ _ _ _ _ us hl=>match us,hl with| [_,_,_,_],_=>rfl
 have G4z:=G3 (ps:=["context","exact"]) (st:=A3r) X G C4c C4g C6a C5e fun _ _ _ _ _ _ us hl=>match us,hl with| [_,_],_=>rfl
 have D1n:=G3 (ps:=["ideal","sign","figures","power"]) (st:=A1q) X G B8c B9u B6y B7c fun _ _ _ _ _ _ us hl=>match us,hl with| [_,_,_,_],_=>rfl
 have aq:=G3 (ps:=["context","sign","pair"]) (st:=Z3) X G B0z A9m A9g A9x fun _ _ _ _ _ _ us hl=>match us,hl with| [_,_,_],_=>rfl
 have G3w:=G3 (ps:=["context","sign","figures","power"]) (st:=A3m) X G C4t C5t C5f C5s fun _ _ _ _ _ _ us hl=>match us,hl with| [_,_,_,_],_=>rfl
 have G3u:=G3 (ps:=["context","number"]) (st:=A3p) X G C6b C4s C4b C4p fun _ _ _ _ _ _ us hl=>match us,hl with| [_,_],_=>rfl
 have c9:=G3 (ps:=["context","sign"]) (st:=A8m) X G D4q D4g D7w D9b fun _ _ _ _ _ _ us hl=>match us,hl with| [_,_],_=>rfl
 have cb:=G3 (ps:=["context","sign"]) (st:=A8w) X G D5a G0b G0z D8d fun _ _ _ _ _ _ us hl=>match us,hl with| [_,_],_=>rfl
 have D1j:=G3 (ps:=["part","is_cut"]) (st:=A3c) X G B8p B8b B9a B8m fun _ _ _ _ _ _ us hl=>match us,hl with| [_,_],_=>rfl
 have D1d:=G3 (ps:=["context","lead","part"]) (st:=A3a) X G B8v C0e C0b B8f fun _ _ _ _ _ _ us hl=>match us,hl with| [_,_,_],_=>rfl
 have ac:=G3 (ps:=["context","sign","ideal"]) (st:=A1j) X G C4r C4j C3y C5h fun _ _ _ _ _ _ us hl=>match us,hl with| [_,_,_],_=>rfl
 have cm:=G3 (ps:=["context"]) (st:=C1t) X G J5f J5n J2b G9w fun _ _ _ _ _ _ us hl=>match us,hl with| [_],_=>rfl
 have aa:=G3 (ps:=["context","number"]) (st:=A0d) X G C0a B7h B7y B7s fun _ _ _ _ _ _ us hl=>match us,hl with| [_,_],_=>rfl
 have D4r:=G3 (ps:=["name"]) (st:=A8s) X G D5t D4s D6c D7g fun _ _ _ _ _ _ us hl=>match us,hl with| [_],_=>rfl
 have bi:=G3 (ps:=["thing","least","most"]) (st:=A3g) X G B9d B9p B6x B8k fun _ _ _ _ _ _ us hl=>match us,hl with| [_,_,_],_=>rfl
 have D4v:=G3 (ps:=["names"]) (st:=A8e) X G G0n D5x G0e D4e fun _ _ _ _ _ _ us hl=>match us,hl with| [_],_=>rfl
 have D8a:=G3 (ps:=["names"]) (st:=A8k) X G D8m D6f D8r D5y fun _ _ _ _ _ _ us hl=>match us,hl with| [_],_=>rfl
 have Y3j:=G3 (ps:=["_law_script","_law_k"]) (st:=C1q) X G J3e J3p G9f J1e fun _ _ _ _ _ _ us hl=>match us,hl with| [_,_],_=>rfl
 have D5v:=G3 (ps:=["_law_cell","_law_k"]) (st:=A8t) X G D4d D3x D6b D8y fun _ _ _ _ _ _ us hl=>match us,hl with| [_,_],_=>rfl
 have G5u:=G3 (ps:=[]) (st:=B3g) X G C3q C5g C5w C4a fun _ _ _ _ _ _ us hl=>match us,hl with| [],_=>rfl
 have V2s:=G3 (ps:=[]) (st:=C3e) X G J6x J2p J0g J1w fun _ _ _ _ _ _ us hl=>match us,hl with| [],_=>rfl
 have cn:=G3 (ps:=["_law_e"]) (st:=C2p) X G J1q J3f J4g G9r fun _ _ _ _ _ _ us hl=>match us,hl with| [_],_=>rfl
 have U0n:=G3 (ps:=["_law_name","_law_sign","_law_near","_law_part"]) (st:=B3n) X G D5d G1j D6j G0g fun _ _ _ _ _ _ us hl=>match us,hl with| [_,_,_,_],_=>rfl
 have G3v:=G3 (ps:=["_law_name","_law_sign"]) (st:=A5n) X G C3h C5c C5v C4m fun _ _ _ _ _ _ us hl=>match us,hl with| [_,_],_=>rfl
 have D9h:=G3 (ps:=["_law_count"]) (st:=B5k) X G J0f J2w G9d J0p fun _ _ _ _ _ _ us hl=>match us,hl with| [_],_=>rfl
 have G4u:=G3 (ps:=["_law_cell"]) (st:=B3f) X G C4x C5q C4y C6g fun _ _ _ _ _ _ us hl=>match us,hl with| [_],_=>rfl
 have V2k:=G3 (ps:=["_law_cell"]) (st:=C1s) X G J0j J0t G9m J0z fun _ _ _ _ _ _ us hl=>match us,hl with| [_],_=>rfl
 have U0b:=G3 (ps:=["_law_whole_here","_law_power"]) (st:=G7e) X G D6g D6t D8f G0m fun _ _ _ _ _ _ us hl=>match us,hl with| [_,_],_=>rfl
 have C6e:=G3 (ps:=["_law_parts","_law_sign","_law_exact","_law_ideal"]) (st:=A5h) X G B4d B4g B4k B4n fun _ _ _ _ _ _ us hl=>match us,hl with| [_,_,_,_],_=>rfl
 have V3v:=G3 (ps:=["_law_deed","_law_context"]) (st:=C2a) X G J5a J6d J6y J2h fun _ _ _ _ _ _ us hl=>match us,hl with| [_,_],_=>rfl
 have G4e:=G3 (ps:=["_law_found"]) (st:=A1b) X G C3z C5u C5z C3g fun _ _ _ _ _ _ us hl=>match us,hl with| [_],_=>rfl
 have Z2a:=G3 (ps:=["_law_cell","_law_parts"]) (st:=B3h) X G V8k V5c Y1b V6r fun _ _ _ _ _ _ us hl=>match us,hl with| [_,_],_=>rfl
 have V9b:=G3 (ps:=["_law_parts"]) (st:=A5b) X G J1t G9s J1z J7k fun _ _ _ _ _ _ us hl=>match us,hl with| [_],_=>rfl
 have V9q:=G3 (ps:=["_law_context","_law_thing"]) (st:=A5p) X G J2m J7e J4t J6k fun _ _ _ _ _ _ us hl=>match us,hl with| [_,_],_=>rfl
 have Y1m:=G3 (ps:=["_law_parts","_law_ideal"]) (st:=G1s) X G V7n Y3n Y1f V3u fun _ _ _ _ _ _ us hl=>match us,hl with| [_,_],_=>rfl
 have Z2b:=G3 (ps:=["_law_parts","_law_number_here"]) (st:=G7z) X G V6s V3e V6j Y4b fun _ _ _ _ _ _ us hl=>match us,hl with| [_,_],_=>rfl
 have ek:=G3 (ps:=["_law_script"]) (st:=C0y) X G U0g V1f V9x V6n fun _ _ _ _ _ _ us hl=>match us,hl with| [_],_=>rfl
 have O:Own mg:=⟨mg_none_of X G A7m,mg_none_of X G V7y,mg_none_of X G G9y,mg_none_of X G Y1n,mg_none_of X G J5p,mg_none_of X G G1e,mg_none_of X G J2j,mg_none_of X G Y0h,mg_none_of X G G0y,mg_none_of X G Y0y,mg_none_of X G V4x,mg_none_of X G Y0n,mg_none_of X G V8u,mg_none_of X G V9n,mg_none_of X G Y2z,mg_none_of X G J6r,mg_none_of X G A9j,mg_none_of X G B3s,mg_none_of X G Y1s,mg_none_of X G C4u,mg_none_of X G C4v,mg_none_of X G V2t,mg_none_of X G A7g⟩
 have T:Kit K:=⟨B3t,B0g,B3w,A9y,A6c,B1e,B1m,A7w,B1f,A6r,A4d,A6f,B4h,A9a,B4q,A9s,A7p,A9e,B0f,A5s,A8y,A6g,A1k,A6t,A6z,A4e,A5w,A4h,A3h,A4g,B1q,A7b,A9h,A7c,A4f,A6q,A2j,A1c,A2h,A1d,A0n,A1e⟩
 have em:Cls K W0:=⟨Y0r,V1z,Y1d,Y2s⟩
 have ez:Mk0 K W0:=⟨V2d,V4b,V3g⟩
 have bj:=U4 (st:=sN0) B6v B8a B2c
 have U4f:=bj.binds (ps:=["self"]) fun _ _ _ _ _ _ us hl=>match us,hl with| [_],_=>rfl
 have J6f:Meth K W0 "name" A4z:=⟨B7b,B8s,B2c⟩
 have WC0:WayC K mg "Down" W0 CW:=⟨mg_of X G Z6z,em,ez,V5e,sn,tk,V1u,Y2f⟩
 have e_:Cls K W1:=⟨V1s,V5y,V6u,V2h⟩
 have g6:Mk0 K W1:=⟨V7f,Y0f,V2v⟩
 have bq:=U4 (st:=sN1) B9n B8d B2m
 have U5m:=bq.binds (ps:=["self"]) fun _ _ _ _ _ _ us hl=>match us,hl with| [_],_=>rfl
 have G9k:Meth K W1 "name" A4v:=⟨B7z,B7m,B2m⟩
 have WC1:WayC K mg "Up" W1 CW:=⟨mg_of X G Z6u,e_,g6,Y3u,sn,tk,Y0d,V6q⟩
 have g7:Cls K W2:=⟨V5m,V6k,V3m,Y3d⟩
 have g8:Mk0 K W2:=⟨V9j,Y2v,V3p⟩
 have bu:=U4 (st:=sN2) B7d B9z B2f
 have U4j:=bu.binds (ps:=["self"]) fun _ _ _ _ _ _ us hl=>match us,hl with| [_],_=>rfl
 have J5h:Meth K W2 "name" A4x:=⟨B8x,B7n,B2f⟩
 have WC2:WayC K mg "Floor" W2 CW:=⟨mg_of X G Z6t,g7,g8,V3c,sn,tk,Y2u,V5b⟩
 have g9:Cls K W3:=⟨V3n,Y2c,Y0u,V7c⟩
 have gb:Mk0 K W3:=⟨V7p,Y3r,Y3a⟩
 have bv:=U4 (st:=sN3) B7v B9b B2h
 have U5z:=bv.binds (ps:=["self"]) fun _ _ _ _ _ _ us hl=>match us,hl with| [_],_=>rfl
 have J5c:Meth K W3 "name" A5a:=⟨B7t,B8n,B2h⟩
 have WC3:WayC K mg "Ceiling" W3 CW:=⟨mg_of X G Z7w,g9,gb,V8w,sn,tk,V9y,Y2p⟩
 have gc:Cls K W4:=⟨V2e,Y0q,Y0a,V7q⟩
 have gd:Mk0 K W4:=⟨V5s,V8j,V2q⟩
 have bw:=U4 (st:=sN4) B7p B6u B2g
 have U3t:=bw.binds (ps:=["self"]) fun _ _ _ _ _ _ us hl=>match us,hl with| [_],_=>rfl
 have J3z:Meth K W4 "name" A4t:=⟨B6z,B9s,B2g⟩
 have WC4:WayC K mg "HalfUp" W4 CW:=⟨mg_of X G Z7s,gc,gd,V5g,sn,tk,Y3v,V1k⟩
 have gi:Cls K W5:=⟨Y1v,V2f,V4u,V8z⟩
 have gj:Mk0 K W5:=⟨Y2a,V8e,Y3s⟩
 have bx:=U4 (st:=sN5) B8t B7q B2d
 have U3v:=bx.binds (ps:=["self"]) fun _ _ _ _ _ _ us hl=>match us,hl with| [_],_=>rfl
 have J1x:Meth K W5 "name" A4u:=⟨B9t,B8y,B2d⟩
 have WC5:WayC K mg "HalfDown" W5 CW:=⟨mg_of X G Z8b,gi,gj,V3w,sn,tk,Y0b,V1w⟩
 have gk:Cls K W6:=⟨Y3m,V7w,V4t,V6d⟩
 have gl:Mk0 K W6:=⟨Y2q,V8b,V1n⟩
 have bz:=U4 (st:=sN6) B8u B9c B2b
 have U3h:=bz.binds (ps:=["self"]) fun _ _ _ _ _ _ us hl=>match us,hl with| [_],_=>rfl
 have J5t:Meth K W6 "name" A4w:=⟨B9r,B8z,B2b⟩
 have WC6:WayC K mg "HalfEven" W6 CW:=⟨mg_of X G Z6h,gk,gl,Y3e,sn,tk,V1x,Y1x⟩
 have gm:Cls K W7:=⟨V3s,V9m,V3y,V3z⟩
 have gn:Mk0 K W7:=⟨V8v,V8h,V3j⟩
 have b_:=U4 (st:=sN7) B9m C0c B2e
 have U3g:=b_.binds (ps:=["self"]) fun _ _ _ _ _ _ us hl=>match us,hl with| [_],_=>rfl
 have G9q:Meth K W7 "name" A4s:=⟨B8e,B9v,B2e⟩
 have WC7:WayC K mg "FiveUp" W7 CW:=⟨mg_of X G Z6k,gm,gn,V8f,sn,tk,V7u,V8c⟩
 let cw:Wy ->Addr:=fun y=>match y with| .down=>W0| .up=>W1| .floor=>W2| .ceiling=>W3| .halfUp=>W4| .halfDown=>W5| .halfEven=>W6| .fiveUp=>W7
 have W:∀y:Wy,WayC K mg y.cls (cw y) CW:=fun y=>match y with| .down=>WC0| .up=>WC1| .floor=>WC2| .ceiling=>WC3| .halfUp=>WC4| .halfDown=>WC5| .halfEven=>WC6| .fiveUp=>WC7
 have gq:Cls K CN:=⟨V5p,V7a,V5k,Y0s⟩
 have cr:=U4 (st:=D0j) Y1w V6b V8s
 have gr:=cr.binds (ps:=["self","kind","sign","figures","power"]) fun _ _ _ _ _ _ us hl=>match us,hl with| [_,_,_,_,_],_=>rfl
 have gs:Mk K CN D1b:=⟨V8g,V5j,V4m,V8r⟩
 have N:Num K mg CN:=⟨mg_of X G Z4v,gq,B7j,B9y,A7a,B3y,Y3b,sn,tk,V5q,D4x⟩
 have ah:=U4 (st:=sU0) A7j A6s A2t
 have D8z:=ah.binds (ps:=["self","sign","last","part"]) fun _ _ _ _ _ _ us hl=>match us,hl with| [_,_,_,_],_=>rfl
 have C8u:Meth K W0 "goes_up" A0u:=⟨A7e,A6v,A2t⟩
 have ar:=U4 (st:=sT0) A9p A9t A3s
 have G6d:=ar.binds (ps:=["self","sign"]) fun _ _ _ _ _ _ us hl=>match us,hl with| [_,_],_=>rfl
 have D9k:Meth K W0 "to_end" A1u:=⟨B0u,B1g,A3s⟩
 have ai:=U4 (st:=sU1) A5x A5v A2s
 have D8w:=ai.binds (ps:=["self","sign","last","part"]) fun _ _ _ _ _ _ us hl=>match us,hl with| [_,_,_,_],_=>rfl
 have C7a:Meth K W1 "goes_up" A0r:=⟨A7r,A6d,A2s⟩
 have au:=U4 (st:=sT1) B0r B0e A3z
 have G4t:=au.binds (ps:=["self","sign"]) fun _ _ _ _ _ _ us hl=>match us,hl with| [_,_],_=>rfl
 have D4k:Meth K W1 "to_end" A1v:=⟨B0x,B1h,A3z⟩
 have aj:=U4 (st:=sU2) A6p A6e A2r
 have G0h:=aj.binds (ps:=["self","sign","last","part"]) fun _ _ _ _ _ _ us hl=>match us,hl with| [_,_,_,_],_=>rfl
 have C6r:Meth K W2 "goes_up" A0q:=⟨A6b,A5u,A2r⟩
 have av:=U4 (st:=sT2) A9r A8z A3v
 have G4b:=av.binds (ps:=["self","sign"]) fun _ _ _ _ _ _ us hl=>match us,hl with| [_,_],_=>rfl
 have D9p:Meth K W2 "to_end" A2a:=⟨B0q,B1r,A3v⟩
 have ak:=U4 (st:=sU3) A7n A5y A2v
 have D7v:=ak.binds (ps:=["self","sign","last","part"]) fun _ _ _ _ _ _ us hl=>match us,hl with| [_,_,_,_],_=>rfl
 have C8n:Meth K W3 "goes_up" A0t:=⟨A5z,A7t,A2v⟩
 have aw:=U4 (st:=sT3) A9u A9q A3w
 have G3r:=aw.binds (ps:=["self","sign"]) fun _ _ _ _ _ _ us hl=>match us,hl with| [_,_],_=>rfl
 have D8c:Meth K W3 "to_end" A2b:=⟨B0m,B0j,A3w⟩
 have al:=U4 (st:=sU4) A6u A6x A2p
 have D6m:=al.binds (ps:=["self","sign","last","part"]) fun _ _ _ _ _ _ us hl=>match us,hl with| [_,_,_,_],_=>rfl
 have C8m:Meth K W4 "goes_up" A0k:=⟨A6w,A6j,A2p⟩
 have ax:=U4 (st:=sT4) A9b B1d A4a
 have G5a:=ax.binds (ps:=["self","sign"]) fun _ _ _ _ _ _ us hl=>match us,hl with| [_,_],_=>rfl
 have D3v:Meth K W4 "to_end" A2d:=⟨A9c,B0y,A4a⟩
 have am:=U4 (st:=sU5) A6k A7d A2w
 have D8n:=am.binds (ps:=["self","sign","last","part"]) fun _ _ _ _ _ _ us hl=>match us,hl with| [_,_,_,_],_=>rfl
 have C7x:Meth K W5 "goes_up" A0s:=⟨A6m,A7k,A2w⟩
 have ay:=U4 (st:=sT5) A9w B0v A3x
 have G4a:=ay.binds (ps:=["self","sign"]) fun _ _ _ _ _ _ us hl=>match us,hl with| [_,_],_=>rfl
 have G0q:Meth K W5 "to_end" A1y:=⟨B1n,B0t,A3x⟩
 have ao:=U4 (st:=sU6) A6a A6n A2q
 have D8v:=ao.binds (ps:=["self","sign","last","part"]) fun _ _ _ _ _ _ us hl=>match us,hl with| [_,_,_,_],_=>rfl
 have C9m:Meth K W6 "goes_up" A0m:=⟨A6y,A7s,A2q⟩
 have az:=U4 (st:=sT6) B0p B0w A3u
 have G3t:=az.binds (ps:=["self","sign"]) fun _ _ _ _ _ _ us hl=>match us,hl with| [_,_],_=>rfl
 have D5w:Meth K W6 "to_end" A1x:=⟨A9n,A9d,A3u⟩
 have ap:=U4 (st:=sU7) A6h A5t A2u
 have G0s:=ap.binds (ps:=["self","sign","last","part"]) fun _ _ _ _ _ _ us hl=>match us,hl with| [_,_,_,_],_=>rfl
 have C8c:Meth K W7 "goes_up" A0p:=⟨A7h,A7x,A2u⟩
 have a_:=U4 (st:=sT7) A9f A8x A4b
 have G4c:=a_.binds (ps:=["self","sign"]) fun _ _ _ _ _ _ us hl=>match us,hl with| [_,_],_=>rfl
 have G1q:Meth K W7 "to_end" A1z:=⟨B1p,B0b,A4b⟩
 have gu:Cls K CC:=⟨V4g,Y3w,V2y,Y1t⟩
 have gv:=J8k (st:=A0g) V4z V2b V6g
 have gw:Mk K CC D1a:=⟨V9r,Y2d,V2g,Y4a⟩
 have bd:=U4 (st:=A2x) B3q B4p A7q
 have J2e:=bd.binds (ps:=["self"]) fun _ _ _ _ _ _ us hl=>match us,hl with| [_],_=>rfl
 have G3z:Meth K CC "flags" A3k:=⟨B3r,B4c,A7q⟩
 have b8:=U4 (st:=B2a) A9v B1j A3t
 have G4s:=b8.binds (ps:=["self"]) fun _ _ _ _ _ _ us hl=>match us,hl with| [_],_=>rfl
 have D6w:Meth K CC "lowest" A2c:=⟨B0n,B0k,A3t⟩
 have c5:=U4 (st:=B1u) C4z C3w B5m
 have Y2w:=c5.binds (ps:=["self"]) fun _ _ _ _ _ _ us hl=>match us,hl with| [_],_=>rfl
 have U6k:Meth K CC "way" B1c:=⟨C5r,C4k,B5m⟩
 have b9:=U4 (st:=A0z) B0h B1s A3y
 have G3p:=b9.binds (ps:=["self","names"]) fun _ _ _ _ _ _ us hl=>match us,hl with| [_,_],_=>rfl
 have D8q:Meth K CC "raised" A1w:=⟨B1b,B0a,A3y⟩
 have gx:Cls K CQ:=⟨V4e,Y1e,Y2h,V7r⟩
 have gy:=J8k (st:=A5e) V9z V4y Y0x
 have gz:Mk K CQ D0z:=⟨Y3x,Y0w,V5f,Y2x⟩
 have bg:=U4 (st:=A3d) B3v B4f A7u
 have G8t:=bg.binds (ps:=["self"]) fun _ _ _ _ _ _ us hl=>match us,hl with| [_],_=>rfl
 have G5x:Meth K CQ "first" A1f:=⟨B4s,B4m,A7u⟩
 have cg:=U4 (st:=C2e) G0f D6y C1f
 have J9y:=cg.binds (ps:=["self","power"]) fun _ _ _ _ _ _ us hl=>match us,hl with| [_,_],_=>rfl
 have G3y:Meth K CQ "at" B2j:=⟨D3m,D5z,C1f⟩
 have xk5:ExcK K C5:=⟨xga5,xgh5,xca5,sn,tk,xob5,xbe5,by rw[xcl5];rfl⟩
 have nkT:nsOkIn K NT=true:=by unfold nsOkIn;rw[lN];exact alN
 have tlT:tailIn K J8w bmT=true:=by
   have z:=q1
   unfold excIn at z
   rw[lT1] at z
   simp only[excClassObj,Bool.and_eq_true] at z
   exact z.1.1.2
 have cx:=U4 (st:=B1y) Y9j Z8e Z8g
 have g_:=cx.binds (ps:=["self","signal"]) fun _ _ _ _ _ _ us hl=>match us,hl with| [_,_],_=>rfl
 have XI5:ExcI K C5 fX:=⟨⟨_,_,_,_,_,_,_,_,_,_,_,_,_,_,_,lT,nkT,niT,tlT⟩,⟨_,Y9j,fcT⟩,saT,xob5⟩
 have SG:SigK K mg aS:=⟨mg_of X G a_S,⟨_,lS,rfl⟩,fun H=> .inr ⟨_,_,_,lS,rfl,rfl,D6 (by show 7<=1000;decide),.cons ⟨_,rfl⟩ (.cons ⟨_,rfl⟩ (.cons ⟨_,rfl⟩ (.cons ⟨_,rfl⟩ (.cons ⟨_,rfl⟩ (.cons ⟨_,rfl⟩ (.cons ⟨_,rfl⟩ (.nil)))))))⟩⟩
 have bh:=U4 (st:=A2y) B3x B4a A7f
 have J1n:=bh.binds (ps:=["self"]) fun _ _ _ _ _ _ us hl=>match us,hl with| [_],_=>rfl
 have G5b:Meth K CC "traps" A3j:=⟨B3z,B4j,A7f⟩
 have c3:=U4 (st:=A4j) B8j B8r B2k
 have U6n:=c3.binds (ps:=["self","names"]) fun _ _ _ _ _ _ us hl=>match us,hl with| [_,_],_=>rfl
 have J1f:Meth K CC "trap" A4y:=⟨B9h,B8q,B2k⟩
 have O4:Own4 K CN:=⟨A9k,G8v,J4u,D3y,C3t,D4n,D7j,A1k⟩
 have xk2:ExcK K C2:=⟨xga2,xgh2,xca2,sn,tk,xob2,xbe2,by rw[xcl2];rfl⟩
 have C:CtxC K mg CC:=⟨mg_of X G Z6r,gu,C0f,B9k,B4r,B7a,B3u,A7v⟩
 have B1:Err K mg "BadContext" C1:=⟨mg_of X G Z0k,q1⟩
 have B2:Err K mg "BadNumber" C2:=⟨mg_of X G Y8v,q2⟩
 have B3:Err K mg "NoText" C3:=⟨mg_of X G Y7s,q3⟩
 have B4:Err K mg "BadCount" C4:=⟨mg_of X G Y9v,q4⟩
 have R:RatC K mg CQ CE:=⟨mg_of X G Z6g,mg_of X G Z6w,gx,C5b,B0d,B4b,V6a,sn,tk,V9h,V8q⟩
 have b4:=G6n (fd:=fnOf "__init__" "Context.__init__" (C8 A0g) (C6 A0g) (A1 A0g) (.ref V6y) Y1g Y3z V8m Y3q J6j V1v) (ps:=["self","room","way","least","most"]) (ds:=[]) rfl Y2e rfl fun us hl=>by obtain⟨a,b,c,d,e,rfl⟩:=len5 (Y4n hl);exact⟨_,rfl,rfl⟩
 refine⟨fnOf "law" "law" (C8 C0y) (C6 C0y) (A1 C0y) .none V3r V7j V6w V4j D4h V1j,fun s v=> .of_eq rfl,fun base _ _ LB=>?_⟩
 have WN:∀y:Wy,Z8m l.prog w K mg base (cw y) y.name:=fun y=>match y with| .down=>⟨_,_,J6f,A0br bj,U4f⟩| .up=>⟨_,_,G9k,A0ak bq,U5m⟩| .floor=>⟨_,_,J5h,A0bn bu,U4j⟩| .ceiling=>⟨_,_,J5c,A0ac bv,U5z⟩| .halfUp=>⟨_,_,J3z,A0am bw,U3t⟩| .halfDown=>⟨_,_,J1x,A0av bx,U3v⟩| .halfEven=>⟨_,_,J5t,A0ad bz,U3h⟩| .fiveUp=>⟨_,_,G9q,A0ab b_,U3g⟩
 have U:∀y:Wy,Z9h l.prog w K mg base (cw y) y:=fun y=>match y with| .down=>⟨_,_,C8u,Z8k ah,D8z⟩| .up=>⟨_,_,C7a,Z8u ai,D8w⟩| .floor=>⟨_,_,C6r,Z8w aj,G0h⟩| .ceiling=>⟨_,_,C8n,A0ba ak,D7v⟩| .halfUp=>⟨_,_,C8m,Z9n al,D6m⟩| .halfDown=>⟨_,_,C7x,Z9u am,D8n⟩| .halfEven=>⟨_,_,C9m,A0aw ao,D8v⟩| .fiveUp=>⟨_,_,C8c,Z8y ap,G0s⟩
 have E2:∀y:Wy,WayE l.prog w K mg base (cw y) y:=fun y=>match y with| .down=>⟨_,_,D9k,A0bb ar,G6d⟩| .up=>⟨_,_,D4k,A0bk au,G4t⟩| .floor=>⟨_,_,D9p,Z8t av,G4b⟩| .ceiling=>⟨_,_,D8c,Z9q aw,G3r⟩| .halfUp=>⟨_,_,D3v,A0be ax,G5a⟩| .halfDown=>⟨_,_,G0q,A0as ay,G4a⟩| .halfEven=>⟨_,_,D5w,A0aa az,G3t⟩| .fiveUp=>⟨_,_,G1q,Z8x a_,G4c⟩
 have Gb:=G7h (P:=l.prog) (w:=w) (base:=base) bi V2j O T B1
 have Gw:=U6t (P:=l.prog) (w:=w) (base:=base) D4r O T B1 W
 have MC:MakeC l.prog w K mg base CC C1 D1a _:=⟨gw,G7w gv bi D4r Gb Gw C W WN⟩
 have MR : MakeR l.prog w K mg base CQ D0z (fnOf "__init__" "Ratio.__init__" (C8 A5e) (C6 A5e) (A1 A5e) (.ref V2r) Y1z Y2m V9p V1t J2g V8p) (.int 0 Z1z) (fun us ws=>match ws with| [a]=>us++ [a]|_=>[]) (fun us ws=>match ws with| [a]=>us++ [a]|_=>[]):=
   { m :=gz
     g:=U7w gy R
     b3:=G6n rfl G3h rfl fun us hl=>by obtain⟨a,b,c,d,rfl⟩:=len4 (Y4n hl);exact⟨_,rfl,rfl⟩
     b2:=G6n rfl G3h rfl fun us hl=>by obtain⟨a,b,c,rfl⟩:=Z3c (Y4n hl);exact⟨_,rfl,rfl⟩
     r0:=⟨_,rfl⟩
     kP := ⟨(fun s us ws XK hl=>by
         rcases ws with _|⟨p,_|⟨q,t⟩⟩
         . cases hl
         . obtain⟨a,b,c,rfl⟩:=Z3c (Y4n hl)
           exact binds_K XK rfl G3h rfl rfl rfl
         . cases hl),fun r z=>match z with
       | .cons a .nil=>r.append (.cons a .nil)
       | .nil=> .nil
       | .cons _ (.cons _ _)=> .nil⟩
     eP:=fun _ _ _ _=>rfl}
 have M:MakeN l.prog w K mg base CN D1b _:=⟨gs,Y6y cr N,gr⟩
 have Gn:=V0q (P:=l.prog) (w:=w) (base:=base) D4v O T B1 SG
 have Go:=V0b (P:=l.prog) (w:=w) (base:=base) D8a SG
 have GX:=U0r (P:=l.prog) (w:=w) (mg:=mg) (base:=base) cx XI5 nsg5
 have MF:Has l.prog w K mg base CC "flags" 1 ["self"] (B3p CC):=⟨_,_,G3z,G2x bd C O,J2e⟩
 have ML:Has l.prog w K mg base CC "lowest" 1 ["self"] (C1m CC):=⟨_,_,D6w,U1s b8 C,G4s⟩
 have MW:Has l.prog w K mg base CC "way" 2 ["self"] (C2n CC cw):=⟨_,_,U6k,U2q c5 D4r Gw C,Y2w⟩
 have MD:Has l.prog w K mg base CC "raised" 3 ["self","names"] (C1j K CC C1 C5):=⟨_,_,D8q,U0p b9 D4v Gn D8a Go C (mg_of X G V3t) XI5 GX g_,G3p⟩
 have CM:CtxM l.prog w K mg base CC C1 C5 CW cw:=⟨C,MW,ML,MD,W,U,E2⟩
 have cp:=G3b (P:=l.prog) (w:=w) (base:=base) C1g O T B2 N
 have cu:=Y6b (P:=l.prog) (w:=w) (base:=base) c4 C1g O T B2 N
 have cy:=V0t (P:=l.prog) (w:=w) (base:=base) c8 D1e V2j O T B2 N M
 have cz:=Z3h (P:=l.prog) (w:=w) (base:=base) ci D1e V2j O T B2 N M
 have c7:=G7a (P:=l.prog) (w:=w) (base:=base) ae N M
 have d8:=Y6q (P:=l.prog) (w:=w) (base:=base) V3h O N
 have Gto:=U9d (P:=l.prog) (w:=w) (base:=base) B5v C0v (D2d C0v)
 have d9:=U1h (P:=l.prog) (w:=w) (base:=base) G5c
 have Gwl:=U7m (P:=l.prog) (w:=w) (base:=base) U0d B5v Gto
 have Gat:=Z4f (P:=l.prog) (w:=w) (base:=base) cg B5v Gto G5c d9 R O
 have RM:RatM l.prog w K mg base CQ A1f B2j _ _:=⟨G5x,U2h bg U0d Gwl G3y Gat J9y R,G8t,G3y,Gat,J9y⟩
 have h_:=G8j (P:=l.prog) (w:=w) (base:=base) D1n N M
 have i0:=D2t (P:=l.prog) (w:=w) (base:=base) aq CM
 have i4:=U2d (P:=l.prog) (w:=w) (base:=base) G3w B5v Gto CM N M
 have i5:=U0u (P:=l.prog) (w:=w) (base:=base) G3u V3h d8 CM N
 have i6:=V1d (P:=l.prog) (w:=w) (base:=base) cb B5v Gto CM N M
 have i7:=U8r (P:=l.prog) (w:=w) (base:=base) c9 cb i6 ci cz CM
 have Gsr:=G7q (P:=l.prog) (w:=w) (base:=base) D1j
 have Gsl:=G7f (P:=l.prog) (w:=w) (base:=base) D1d CM
 have cq:=U1x (P:=l.prog) (w:=w) (base:=base) ac CM N M O
 have i8:=U1t (P:=l.prog) (w:=w) (base:=base) G4z CM RM R O
 have c_:=G6t (P:=l.prog) (w:=w) (base:=base) ag G4z i8 D1n h_ aq i0 G3w i4 G3u i5 c9 i7 D1j Gsr D1d Gsl CM RM R N
 have MT:Has l.prog w K mg base CC "traps" 1 ["self"] (B3m CC):=⟨_,_,G5b,G2h bh C O,J1n⟩
 have MP:Has l.prog w K mg base CC "trap" 2 ["self","names"] (G7k K CC C1):=⟨_,_,J1f,Y7e c3 D4v Gn D8a Go C,U6n⟩
 have Gro:=U2b (CB:=C1) (CW:=CW) (cw:=cw) (P:=l.prog) (w:=w) (base:=base) aa C1g cp ac cq ag c_ MR R N
 have Grb:=G2p (P:=l.prog) (w:=w) (base:=base) aa C1g cp ac cq ag c_ MR R N
 have ES:Errs mg C1 C2 C3 C4 C5:=⟨mg_of X G Z0k,mg_of X G Y8v,mg_of X G Y7s,mg_of X G Y9v,mg_of X G V3t⟩
 have RA:CaughtA K mg C5 CR:=⟨mg_of X G V3t,mg_of X G Y7k,⟨cty,by rw[ccl];rfl,cex⟩,sub5,xk5,⟨_,by unfold clsIn;rw[lT],rfl⟩,nsg5,Z6a,hv5⟩
 have RB:CaughtB K mg CR C1 C2 C3 C4 C5:=⟨mg_of X G Y7k,⟨cty,by rw[ccl];rfl,cex⟩,sub2,⟨xk2,Z7q,Z7m,Z5c,Z7b,Z4y,hv2⟩⟩
 have OC:OddC K CC CN:=⟨V6e,sn,tk,V3x,nCC⟩
 have Gvo:=Y4k (P:=l.prog) (w:=w) (base:=base) cm ae c7 CM
 have da:=Y6j (P:=l.prog) (w:=w) (base:=base) Y3j O
 have d4:=U8h (P:=l.prog) (w:=w) (base:=base) D5v
 have i9:=U8j (P:=l.prog) (w:=w) (base:=base) G5u
 have ia:=Y4g (P:=l.prog) (w:=w) (base:=base) V2s
 have db:=Y7b (P:=l.prog) (w:=w) (base:=base) cn O ES
 have ib:=V0v (P:=l.prog) (w:=w) (base:=base) U0n O
 have ic:=U0q (P:=l.prog) (w:=w) (base:=base) G3v
 have cj:=Y4j (P:=l.prog) (w:=w) (base:=base) D9h O
 have ie:=U7f (P:=l.prog) (w:=w) (base:=base) G4u G5u i9
 have ig:=Y6m (P:=l.prog) (w:=w) (base:=base) V2k D9h cj
 have ii:=Z2t (P:=l.prog) (w:=w) (base:=base) U0b O
 have ij:=U1q (P:=l.prog) (w:=w) (base:=base) C6e D9h cj U0n ib G3v ic U0b ii O
 have ik:=Y5b (P:=l.prog) (w:=w) (base:=base) (k:=8) (by decide) V3v c4 cu RA O
 have il:=G2z (P:=l.prog) (w:=w) (base:=base) G4e O T
 have im:=U6s (P:=l.prog) (w:=w) (base:=base) Z2a D5v d4 V2k ig D9h cj
 have io:=U2g (P:=l.prog) (w:=w) (base:=base) V9b c8 cy ci cz ae c7
 have ip:=U0x (P:=l.prog) (w:=w) (base:=base) V9q aa Grb cn db RB
 have d7:=Z2g (P:=l.prog) (w:=w) (base:=base) Y1m O
 have iq:=Z4a (P:=l.prog) (w:=w) (base:=base) Z2b Y1m d7 C6e ij
 exact Z4h ek hcode LB Y3j da D5v d4 G4u ie Z2a im V9b io Z2b iq V3v (TR.FnOk.toG ik) G4e il Y1m d7 V2s ia V9q ip c4 cu aa Gro ac cq cm Gvo MC b4 C MF MT MP O O4 OC
theorem walk{cc P0:Addr}{l:OpenLaw}{q:Program}{loose:List Str}{XP:(Str ->Option Value) ->Heap ->Prop}{YP:World ->Heap ->Prop}{d:DefRec}{K:Params ->Frag}(hn:l.most=some 63)(hdf:d.params.defaults=[])
   (hY:∀(w:World) (h:Heap),YP w h ->(K w.params).In h/\CodeHd h cc P0/\h.get? P0=some (tabObj #[])) (hKP:∀p,(K p).lookup P0=none)
   (F:∀(w:World) (mg:Str ->Option Value) (fa:Addr) (h:Heap),(K w.params).In h ->h.Ns mainGlobals mg ->mg d.name=some (.ref fa) ->
     ∃fd:FuncData,(∀(s:Shared) (u:Value),BindsTo s fd ⟨[u],[]⟩ [("_law_script",u)])/\∀base:Heap,(K w.params).In base ->base.Ns mainGlobals mg ->LamB mg base cc P0 ->FnOkG l.prog w (K w.params) mg base (CX1 l.prog w) 10 fa fd ["_law_script"] ((J9g (K w.params) P0))):
   WalkO q loose XP YP l.row.toRowW d [] (fun f vs=>PySem.call f vs):=
 L2.walk_ofL (n:=63) (k:=10) (x:="_law_script") (CX:=fun w=>CX1 l.prog w) (sp:=fun w=>(J9g (K w.params) P0)) hn (by decide) hdf ⟨rfl,by decide,by decide⟩ hY hKP F (fun _ _ a ns hl hP hS=>⟨a,ns,rfl,hl,hS,hP,fun _=>rfl⟩) fun _ _ _ _ _ z=>by
   obtain⟨_,_,_,_,_,_,_,_,_,_,z,_⟩:=z
   exact z
end TR
namespace PySem.W.Fast
theorem tw7966621640566392479:True:=trivial
theorem tw8344472294217260712:True:=trivial
theorem tw4410932556899412089:True:=trivial
theorem tw1576132597789499438:True:=trivial
theorem tw9011752942494035529:True:=trivial
theorem tw9325187666679473612:True:=trivial
theorem tw11611748058187951177:True:=trivial
theorem tw12680233077329742313:True:=trivial
theorem tw8287048824028357104:True:=trivial
theorem tw11357949348612189921:True:=trivial
theorem tw9708226080708345002:True:=trivial
theorem tw15063683043859660695:True:=trivial
theorem tw3820111810019331462:True:=trivial
theorem tw11886556505320233147:True:=trivial
theorem tw5977793139742500452:True:=trivial
theorem tw5067677793303493635:True:=trivial
theorem tw4965363205780480827:True:=trivial
theorem tw9351270958169447600:True:=trivial
theorem tw538551654153248301:True:=trivial
theorem tw9283927074791837775:True:=trivial
theorem tw4803637186335773961:True:=trivial
theorem tw16475760055465574310:True:=trivial
theorem tw3861650667925752598:True:=trivial
theorem tw4231875889031111868:True:=trivial
theorem tw18413939000879809664:True:=trivial
theorem tw12314722759303468994:True:=trivial
theorem tw5524112162214903268:True:=trivial
theorem tw18261152727241779708:True:=trivial
theorem tw14318256618284356901:True:=trivial
theorem tw8756930344286227505:True:=trivial
theorem tw6121137168695610639:True:=trivial
theorem tw3246293462179548942:True:=trivial
theorem tw16688729475203358092:True:=trivial
theorem tw16884096746419923750:True:=trivial
theorem tw5048217765152287575:True:=trivial
theorem tw15089526855583773678:True:=trivial
theorem tw11439083577119086963:True:=trivial
theorem tw18095754324612953289:True:=trivial
theorem tw16901849492310164386:True:=trivial
theorem tw10229000216524560444:True:=trivial
theorem tw6167765240705279944:True:=trivial
theorem tw11659347023671632043:True:=trivial
theorem tw560183533167160611:True:=trivial
theorem tw4048647660571674548:True:=trivial
theorem tw15672563410902578328:True:=trivial
theorem tw265949315265044988:True:=trivial
theorem tw8500269149322279528:True:=trivial
theorem tw2542224356146253507:True:=trivial
theorem tw9796434255109514234:True:=trivial
theorem tw9481130567956387009:True:=trivial
theorem tw11920283729421494498:True:=trivial
theorem tw9904422533858942236:True:=trivial
theorem tw11294311400502904274:True:=trivial
theorem tw17985445317867024144:True:=trivial
theorem tw4170855833487407407:True:=trivial
theorem tw8970289007739774594:True:=trivial
theorem tw7823002870645287111:True:=trivial
theorem tw9609272811420931118:True:=trivial
theorem tw16272615881336684950:True:=trivial
theorem tw2811597411556069777:True:=trivial
theorem tw5076447553011034666:True:=trivial
theorem tw11726875446260935855:True:=trivial
theorem tw17083873113088691030:True:=trivial
theorem tw14958367256733874451:True:=trivial
theorem tw5221971927165064892:True:=trivial
theorem tw4385762936640181320:True:=trivial
theorem tw2111986629877050822:True:=trivial
theorem tw8274294410164439892:True:=trivial
theorem tw5799538222766860960:True:=trivial
theorem tw3991810887538740437:True:=trivial
theorem tw2935767679750805148:True:=trivial
theorem tw11285991961036056163:True:=trivial
theorem tw2250332740439434679:True:=trivial
theorem tw9504468453058137982:True:=trivial
theorem tw6068152912234905933:True:=trivial
theorem tw16485350686142328167:True:=trivial
theorem tw214136773302968432:True:=trivial
theorem tw1269367989197394711:True:=trivial
theorem tw11590106478057878350:True:=trivial
theorem tw8632621533024145172:True:=trivial
theorem tw7490234864766336190:True:=trivial
theorem tw16014534618976677238:True:=trivial
theorem tw2233813913161249973:True:=trivial
theorem tw13339464633322756582:True:=trivial
theorem tw15061860387410218944:True:=trivial
theorem tw15762629773031066637:True:=trivial
theorem tw14670618271554216309:True:=trivial
theorem tw14453161066465378084:True:=trivial
theorem tw17257061424841434355:True:=trivial
theorem tw10884364976128324149:True:=trivial
theorem tw4613356260495594578:True:=trivial
theorem tw13134558160314193405:True:=trivial
theorem tw14015605254282833612:True:=trivial
theorem tw5368198987341087198:True:=trivial
theorem tw7053108191886585442:True:=trivial
theorem tw3006024777282111018:True:=trivial
theorem tw9326671012983994446:True:=trivial
theorem tw8282732578106115723:True:=trivial
theorem tw14119197526633186461:True:=trivial
theorem tw1304058183959277689:True:=trivial
theorem tw2197033660915764177:True:=trivial
theorem tw5412182587831517131:True:=trivial
theorem tw17529214903819443174:True:=trivial
theorem tw16577837979627599210:True:=trivial
theorem tw3071772061361935449:True:=trivial
theorem tw398733753324573152:True:=trivial
theorem tw674320936297076777:True:=trivial
theorem tw13558561197912605071:True:=trivial
theorem tw13178265590513119208:True:=trivial
theorem tw11142517027395672843:True:=trivial
theorem tw1195534829708175842:True:=trivial
theorem tw8467625068264912236:True:=trivial
theorem tw9178186795617694468:True:=trivial
theorem tw14959188178703467237:True:=trivial
theorem tw440650440556629457:True:=trivial
theorem tw13780797663382788589:True:=trivial
theorem tw8063605259735785798:True:=trivial
theorem tw14803263950503862071:True:=trivial
theorem tw13932277276873374432:True:=trivial
theorem tw8146278405299408002:True:=trivial
theorem tw9015811848507435234:True:=trivial
theorem tw3912405717920586766:True:=trivial
theorem tw12421484089606360419:True:=trivial
theorem tw7501344039324909669:True:=trivial
theorem tw11186403823710106880:True:=trivial
theorem tw7574405037942111207:True:=trivial
theorem tw4114305147760318360:True:=trivial
theorem tw10145587195049210558:True:=trivial
theorem tw6498724257820129933:True:=trivial
theorem tw2040860899401430529:True:=trivial
theorem tw7726877521642390733:True:=trivial
theorem tw11732338145420551556:True:=trivial
theorem tw3573469332450832350:True:=trivial
theorem tw16997412055496399507:True:=trivial
theorem tw16965404362535081493:True:=trivial
theorem tw10645600115920149263:True:=trivial
theorem tw16131860696348587025:True:=trivial
theorem tw15141895341342292375:True:=trivial
theorem tw9226268373215524881:True:=trivial
theorem tw20904583360722436:True:=trivial
theorem tw13617949830006369569:True:=trivial
theorem tw3092835409555811327:True:=trivial
theorem tw13031935296336972441:True:=trivial
theorem tw8901199891791431568:True:=trivial
theorem tw6174853042339151647:True:=trivial
theorem tw8211853170817287433:True:=trivial
theorem tw5093100086929868783:True:=trivial
theorem tw18158906676611794883:True:=trivial
theorem tw9391905747571732058:True:=trivial
theorem tw16780715137941210880:True:=trivial
theorem tw18181120917300524150:True:=trivial
theorem tw9651536005417287550:True:=trivial
theorem tw2148367516874681641:True:=trivial
theorem tw1009555699827928347:True:=trivial
theorem tw5926065066667469520:True:=trivial
theorem tw4921890415018828749:True:=trivial
theorem tw10029415271554570558:True:=trivial
theorem tw17899194644866648491:True:=trivial
theorem tw3942710198401284179:True:=trivial
theorem tw18074736740917592711:True:=trivial
theorem tw12646585809161030039:True:=trivial
theorem tw10307709851263549479:True:=trivial
theorem tw11731600220208318774:True:=trivial
theorem tw15808803410357759338:True:=trivial
theorem tw7278191443222352386:True:=trivial
theorem tw15062702324161039902:True:=trivial
theorem tw9944513219445573200:True:=trivial
theorem tw10485062925778453184:True:=trivial
theorem tw10288649196359742624:True:=trivial
theorem tw2439241172713569745:True:=trivial
theorem tw12067867975054606599:True:=trivial
theorem tw16584830194163407979:True:=trivial
theorem tw11759566676656047827:True:=trivial
theorem tw5655732781464515168:True:=trivial
theorem tw376765113022892930:True:=trivial
theorem tw12441973336746625157:True:=trivial
theorem tw665763244002932904:True:=trivial
theorem tw5896771863510649973:True:=trivial
theorem tw9768549435737739617:True:=trivial
theorem tw8588718484044620064:True:=trivial
theorem tw14662479047606032307:True:=trivial
theorem tw5311739962758474413:True:=trivial
theorem tw3259346319633647772:True:=trivial
theorem tw12422063855174628008:True:=trivial
theorem tw13851863177853327695:True:=trivial
theorem tw18053018515594069010:True:=trivial
theorem tw7463410825635230282:True:=trivial
theorem tw11677284846355864719:True:=trivial
theorem tw16910754358910183359:True:=trivial
theorem tw9783350343673986364:True:=trivial
theorem tw9015417596175230777:True:=trivial
theorem tw4097558242866310083:True:=trivial
theorem tw13862878366076138787:True:=trivial
theorem tw14284032112772203631:True:=trivial
theorem tw2262485957732080546:True:=trivial
theorem tw12048382041835468689:True:=trivial
theorem tw13313265115423645991:True:=trivial
theorem tw11791137880219796183:True:=trivial
theorem tw13101963110822374678:True:=trivial
theorem tw13315859829982905745:True:=trivial
theorem tw2690256592669654556:True:=trivial
theorem tw622336751511521472:True:=trivial
theorem tw17168258194857726462:True:=trivial
theorem tw8442501282301282099:True:=trivial
theorem tw3603784496173551782:True:=trivial
theorem tw14523282373218477676:True:=trivial
theorem tw15368309481820330039:True:=trivial
theorem tw10044063747683485119:True:=trivial
theorem tw16483079001660358707:True:=trivial
theorem tw2493732935985151942:True:=trivial
theorem tw16327731827110942309:True:=trivial
theorem tw8688899233255856950:True:=trivial
theorem tw10936164585940845123:True:=trivial
theorem tw12829775753935310726:True:=trivial
theorem tw3736191812658042335:True:=trivial
theorem tw1560040163639529408:True:=trivial
theorem tw11689768120028943122:True:=trivial
theorem tw6945457324455662134:True:=trivial
theorem tw11730537948406245288:True:=trivial
theorem tw13595703062632070464:True:=trivial
theorem tw15319064236134719131:True:=trivial
theorem tw17744678576255057060:True:=trivial
theorem tw3015110635435730460:True:=trivial
theorem tw16264955191336090495:True:=trivial
theorem tw472480997242001107:True:=trivial
theorem tw13992632625824918803:True:=trivial
theorem tw15987500589999107388:True:=trivial
theorem tw6598898120430399236:True:=trivial
theorem tw2992670107534921533:True:=trivial
theorem tw8163066318919940554:True:=trivial
theorem tw9342782237759073645:True:=trivial
theorem tw7954289358090361037:True:=trivial
theorem tw2917031193921212084:True:=trivial
theorem tw13796226909996329191:True:=trivial
theorem tw14441094277361466200:True:=trivial
theorem tw17280594819029539148:True:=trivial
theorem tw1941872816122384164:True:=trivial
theorem tw5254154477000471330:True:=trivial
theorem tw5052867952503366689:True:=trivial
theorem tw16090329188390193260:True:=trivial
theorem tw7588674930662910932:True:=trivial
theorem tw844105091298421498:True:=trivial
theorem tw13990082418880738057:True:=trivial
theorem tw15688330637739079086:True:=trivial
theorem tw10989961129074485398:True:=trivial
theorem tw16723210500894073024:True:=trivial
theorem tw11041332016207070671:True:=trivial
theorem tw10531542744655162147:True:=trivial
theorem tw3055217896227749109:True:=trivial
theorem tw12352382858829981315:True:=trivial
theorem tw15667195281830980170:True:=trivial
theorem tw9697112717451026872:True:=trivial
theorem tw15943320263377442819:True:=trivial
theorem tw11204087329396735681:True:=trivial
theorem tw18232653642800286815:True:=trivial
theorem tw11876102114673579396:True:=trivial
theorem tw6766565410504087986:True:=trivial
theorem tw6416939630973820665:True:=trivial
theorem tw4823985084304693086:True:=trivial
theorem tw1408122408412549785:True:=trivial
theorem tw7024370596188010512:True:=trivial
theorem tw592568352163165228:True:=trivial
theorem tw6053267078273671241:True:=trivial
theorem tw17946886590698912569:True:=trivial
theorem tw3022005223285699286:True:=trivial
theorem tw100066713411604709:True:=trivial
theorem tw4459047842853726080:True:=trivial
theorem tw12945533153496598111:True:=trivial
theorem tw13578244855852037642:True:=trivial
theorem tw2545947914877301241:True:=trivial
theorem tw5955552210088411546:True:=trivial
theorem tw3856401439499760924:True:=trivial
theorem tw50278628362992612:True:=trivial
theorem tw9598749830414112820:True:=trivial
theorem tw17959212700725082318:True:=trivial
theorem tw2528572432580927092:True:=trivial
theorem tw5430176361617307366:True:=trivial
theorem tw9048891498391232753:True:=trivial
theorem tw13022050156500484790:True:=trivial
theorem tw13848850798090257248:True:=trivial
theorem tw17893795551149882302:True:=trivial
theorem tw13507584586127123633:True:=trivial
theorem tw10928779092192643884:True:=trivial
theorem tw201697219192931987:True:=trivial
theorem tw11083785189266243389:True:=trivial
theorem tw13432992115961573957:True:=trivial
theorem tw8417387552129184996:True:=trivial
theorem tw11413777888200081612:True:=trivial
theorem tw10819442110529905527:True:=trivial
theorem tw11628461122205927137:True:=trivial
theorem tw5456989975977461713:True:=trivial
theorem tw12823084425408486210:True:=trivial
theorem tw4338868345776103314:True:=trivial
theorem tw2908326793645487827:True:=trivial
theorem tw311934502899093758:True:=trivial
theorem tw2491918646953698504:True:=trivial
theorem tw9071129002475759651:True:=trivial
theorem tw18208360945882326121:True:=trivial
theorem tw1164025814059966169:True:=trivial
theorem tw972160190044677808:True:=trivial
theorem tw440747652977371512:True:=trivial
theorem tw6337727744454730044:True:=trivial
theorem tw10754529431795628006:True:=trivial
theorem tw6214018721391565079:True:=trivial
theorem tw6937933299957012089:True:=trivial
theorem tw14042923229300596078:True:=trivial
theorem tw13776415977837150356:True:=trivial
theorem tw12800003834355923114:True:=trivial
theorem tw4027591887575382806:True:=trivial
theorem tw7202021896931233119:True:=trivial
theorem tw15975056982619927733:True:=trivial
theorem tw773099316401108429:True:=trivial
theorem tw15512457845281334928:True:=trivial
theorem tw9806594398576982214:True:=trivial
theorem tw9838995332426561623:True:=trivial
theorem tw8086524787876211796:True:=trivial
theorem tw1394357152018778700:True:=trivial
theorem tw6741875498102714014:True:=trivial
theorem tw15191443718448925953:True:=trivial
theorem tw16366619614964960940:True:=trivial
theorem tw12487389984129711289:True:=trivial
theorem tw14016402513654079714:True:=trivial
theorem tw1983265623194603716:True:=trivial
theorem tw17764362928524152618:True:=trivial
theorem tw1848086787607968:True:=trivial
theorem tw2478100511480978719:True:=trivial
theorem tw15163253494135308701:True:=trivial
theorem tw16888750759503450163:True:=trivial
theorem tw13853185990950488995:True:=trivial
theorem tw665094621974868924:True:=trivial
theorem tw13646127274546235470:True:=trivial
theorem tw9890927618260822516:True:=trivial
theorem tw2651014962072226631:True:=trivial
theorem tw13618873468089447304:True:=trivial
theorem tw4850728397384817547:True:=trivial
theorem tw2633273080468622648:True:=trivial
theorem tw1217898735090198209:True:=trivial
theorem tw12189893068528519040:True:=trivial
theorem tw5336290830573791638:True:=trivial
theorem tw7106734474737926550:True:=trivial
theorem tw14121761708774799006:True:=trivial
theorem tw12798850090922824160:True:=trivial
theorem tw15407201877030427517:True:=trivial
theorem tw15743123630085019151:True:=trivial
theorem tw1963078028801339956:True:=trivial
theorem tw9019977205917691512:True:=trivial
theorem tw7862479170796164582:True:=trivial
theorem tw5830695394218254648:True:=trivial
theorem tw1588420895677076211:True:=trivial
theorem tw13081745038538357443:True:=trivial
theorem tw610331945550051152:True:=trivial
theorem tw2687677777322482800:True:=trivial
theorem tw2737082006850203239:True:=trivial
theorem tw2438442545167262133:True:=trivial
theorem tw16015049381828757874:True:=trivial
theorem tw16672401985536470377:True:=trivial
theorem tw17566412912906571285:True:=trivial
theorem tw8882446783679955882:True:=trivial
theorem tw16049198095891130180:True:=trivial
theorem tw9068221122523179750:True:=trivial
theorem tw17117590609252579733:True:=trivial
theorem tw6044010064647716104:True:=trivial
theorem tw15080003167051543744:True:=trivial
theorem tw15822021239419767591:True:=trivial
theorem tw14701997806961930244:True:=trivial
theorem tw6422155969990871748:True:=trivial
theorem tw16287456765487106449:True:=trivial
theorem tw9539807728867296510:True:=trivial
theorem tw10970494291737899649:True:=trivial
theorem tw16533798942641978185:True:=trivial
theorem tw16088413386071932315:True:=trivial
theorem tw5571628261258435810:True:=trivial
theorem tw3835854812641493438:True:=trivial
theorem tw18350419464776308884:True:=trivial
theorem tw7091533982124904175:True:=trivial
theorem tw12471936109475822800:True:=trivial
theorem tw9725430648029212942:True:=trivial
theorem tw8049354997754223081:True:=trivial
theorem tw15347813539868022277:True:=trivial
theorem tw7913444389037584158:True:=trivial
theorem tw17539675789407185190:True:=trivial
theorem tw13704839956832171749:True:=trivial
theorem tw1586822521716949960:True:=trivial
theorem tw938236018061864612:True:=trivial
theorem tw16935346858629812493:True:=trivial
theorem tw2784482610199622119:True:=trivial
theorem tw14951027857878901923:True:=trivial
theorem tw506759537308192350:True:=trivial
theorem tw17572093509920115853:True:=trivial
theorem tw3689631289930053022:True:=trivial
theorem tw817398312342776231:True:=trivial
theorem tw4189423766529269043:True:=trivial
theorem tw5493775033420030023:True:=trivial
theorem tw17099135330429982586:True:=trivial
theorem tw6005885878230792532:True:=trivial
theorem tw14054081461832677718:True:=trivial
theorem tw2567387086624327660:True:=trivial
theorem tw604594157772170933:True:=trivial
theorem tw4884628063617379763:True:=trivial
theorem tw5288229720166508079:True:=trivial
theorem tw3481857665570314407:True:=trivial
theorem tw11690581921354052026:True:=trivial
theorem tw1455544375512623208:True:=trivial
theorem tw6259530806075448995:True:=trivial
theorem tw11817178755910834681:True:=trivial
theorem tw5959634700952736530:True:=trivial
theorem tw620610692477732588:True:=trivial
theorem tw13603071279928965166:True:=trivial
theorem tw13269358406621263086:True:=trivial
theorem tw11849012180985680426:True:=trivial
theorem tw17039318331216380945:True:=trivial
theorem tw17096061015880717109:True:=trivial
theorem tw14443489799846162291:True:=trivial
theorem tw1258417974167863201:True:=trivial
theorem tw2741242772198287378:True:=trivial
theorem tw1851720753690320339:True:=trivial
theorem tw12736609266060189077:True:=trivial
theorem tw14370348748995504714:True:=trivial
theorem tw17179026065576263148:True:=trivial
theorem tw6352232685045574439:True:=trivial
theorem tw6229915884102681463:True:=trivial
theorem tw8944892598913094795:True:=trivial
theorem tw7912853996217760669:True:=trivial
theorem tw13957401595790273544:True:=trivial
theorem tw2242336755969731995:True:=trivial
theorem tw11533554160789124026:True:=trivial
theorem tw9646011953491415010:True:=trivial
theorem tw2242948074019417781:True:=trivial
theorem tw2702977399160623277:True:=trivial
theorem tw6116182220471023987:True:=trivial
theorem tw14249945570347136118:True:=trivial
theorem tw12445125042236501284:True:=trivial
theorem tw620848916647264223:True:=trivial
theorem tw14724188197622180298:True:=trivial
theorem tw16731698149950873014:True:=trivial
theorem tw11703728903004029585:True:=trivial
theorem tw9823646554007043333:True:=trivial
theorem tw1828565547372874099:True:=trivial
theorem tw5773293903709918818:True:=trivial
theorem tw8104203551018420677:True:=trivial
theorem tw5920487623666011080:True:=trivial
theorem tw7992482349634539038:True:=trivial
theorem tw775040950396515135:True:=trivial
theorem tw1953399681621144132:True:=trivial
theorem tw822784065544886818:True:=trivial
theorem tw2346099929236690066:True:=trivial
theorem tw11297470057502112760:True:=trivial
theorem tw16254787257932257487:True:=trivial
theorem tw6609875440497757800:True:=trivial
theorem tw12609358735524410853:True:=trivial
theorem tw2254338107260829364:True:=trivial
theorem tw15456901983741562967:True:=trivial
theorem tw8756902231809917111:True:=trivial
theorem tw801766992149639102:True:=trivial
theorem tw4573004670902309294:True:=trivial
theorem tw1368608096769911385:True:=trivial
theorem tw6640915100651069025:True:=trivial
theorem tw18177164355912055483:True:=trivial
theorem tw4745002685013707343:True:=trivial
theorem tw17920202491076377226:True:=trivial
theorem tw12971726001144095810:True:=trivial
theorem tw203232124887760872:True:=trivial
theorem tw4105010206980106410:True:=trivial
theorem tw172424479709249602:True:=trivial
theorem tw4139686883443949434:True:=trivial
theorem tw11824596789848510730:True:=trivial
theorem tw16578317061843406245:True:=trivial
theorem tw3389132508105274832:True:=trivial
theorem tw17032241681496716830:True:=trivial
theorem tw482717767613270301:True:=trivial
theorem tw14424080843496984575:True:=trivial
theorem tw9915121190002779825:True:=trivial
theorem tw14179607307108771773:True:=trivial
theorem tw1724490818812784955:True:=trivial
theorem tw14694935938486859567:True:=trivial
theorem tw18196269257994655482:True:=trivial
theorem tw4530520753770812991:True:=trivial
theorem tw3174385701256019105:True:=trivial
theorem tw9314643891245904938:True:=trivial
theorem tw9727081141600473685:True:=trivial
theorem tw17935207669399681342:True:=trivial
theorem tw3471346006095034181:True:=trivial
theorem tw5681028726773004764:True:=trivial
theorem tw18255948092294757586:True:=trivial
theorem tw2252637958802185716:True:=trivial
theorem tw12669762915125528148:True:=trivial
theorem tw760387750282129095:True:=trivial
theorem tw13305063767817559622:True:=trivial
theorem tw12357465963787997878:True:=trivial
theorem tw15303869026612328052:True:=trivial
theorem tw7455175387154368417:True:=trivial
theorem tw10514735597681562514:True:=trivial
theorem tw10291676729793475607:True:=trivial
theorem tw16457544735533937035:True:=trivial
theorem tw16525121491910282890:True:=trivial
theorem tw17882591149653967879:True:=trivial
theorem tw2461918893894893293:True:=trivial
theorem tw12367391386176431550:True:=trivial
theorem tw4981362479072220874:True:=trivial
theorem tw1225820470694053265:True:=trivial
theorem tw9601222858165136620:True:=trivial
theorem tw3964360867253789063:True:=trivial
theorem tw5748454157347501196:True:=trivial
theorem tw9682923654402353112:True:=trivial
theorem tw529589647068642704:True:=trivial
theorem tw11130115538281171461:True:=trivial
theorem tw8548924044270474267:True:=trivial
theorem tw12673222804596736354:True:=trivial
theorem tw284019122160187683:True:=trivial
theorem tw17312118848658285158:True:=trivial
theorem tw9132125549788868500:True:=trivial
theorem tw5028144948089424500:True:=trivial
theorem tw6492136206311773481:True:=trivial
theorem tw7999433642030577409:True:=trivial
theorem tw10087920654394264959:True:=trivial
theorem tw1839746931705176019:True:=trivial
theorem tw1032015688325272683:True:=trivial
theorem tw11697738768543121017:True:=trivial
theorem tw9672288603583900465:True:=trivial
theorem tw10409604256900687022:True:=trivial
theorem tw4436613732720098737:True:=trivial
theorem tw15507170987522783630:True:=trivial
theorem tw9564945695613406437:True:=trivial
theorem tw4228313087719726580:True:=trivial
theorem tw5740493902845389456:True:=trivial
theorem tw8794908633344142733:True:=trivial
theorem tw10021974752829096064:True:=trivial
theorem tw5085186614009719519:True:=trivial
theorem tw13300581907758841640:True:=trivial
theorem tw2177125637880001176:True:=trivial
theorem tw5186211227161737625:True:=trivial
theorem tw12565152209231450697:True:=trivial
theorem tw676951963935832391:True:=trivial
theorem tw12677149253329374923:True:=trivial
theorem tw4788156849993915057:True:=trivial
theorem tw18360813759490389414:True:=trivial
theorem tw7037859780433209394:True:=trivial
theorem tw5525011198041356531:True:=trivial
theorem tw757846558959791485:True:=trivial
theorem tw5688768825534116435:True:=trivial
theorem tw16857860017953017964:True:=trivial
theorem tw14739108344288379737:True:=trivial
theorem tw1593617592267919899:True:=trivial
theorem tw6652335231410714030:True:=trivial
theorem tw2771909550185932618:True:=trivial
theorem tw12847540285219580979:True:=trivial
theorem tw8953003494969373602:True:=trivial
theorem tw431023232866022430:True:=trivial
theorem tw18323088130317833105:True:=trivial
theorem tw2029702734470008332:True:=trivial
theorem tw16267703683839859483:True:=trivial
theorem tw1382189950459700884:True:=trivial
theorem tw1469780143781905536:True:=trivial
theorem tw2817827292323955206:True:=trivial
theorem tw10139822982895036784:True:=trivial
theorem tw16791804167699748174:True:=trivial
theorem tw6986598774763655143:True:=trivial
theorem tw32276189778317852:True:=trivial
theorem tw18398338135356822283:True:=trivial
theorem tw6525015676294321872:True:=trivial
theorem tw5141744083493736557:True:=trivial
theorem tw2875039151898296020:True:=trivial
theorem tw7471409173352490240:True:=trivial
theorem tw15797261254152559416:True:=trivial
theorem tw7356125053326168543:True:=trivial
theorem tw5169939213246249955:True:=trivial
theorem tw8543942414294283705:True:=trivial
theorem tw11138734311892997641:True:=trivial
theorem tw16026949706329021151:True:=trivial
theorem tw6351389253608412053:True:=trivial
theorem tw3532140584173542629:True:=trivial
theorem tw2123044602861491679:True:=trivial
theorem tw3589313864882157280:True:=trivial
theorem tw4405267391345338771:True:=trivial
theorem tw2807805990398524140:True:=trivial
theorem tw11157579256270898259:True:=trivial
theorem tw9918569029487831532:True:=trivial
theorem tw11785742347068708214:True:=trivial
theorem tw14981576012450158132:True:=trivial
theorem tw7094008742906192425:True:=trivial
theorem tw14596978436450013848:True:=trivial
theorem tw6892737884230467448:True:=trivial
theorem tw10556125940526244933:True:=trivial
theorem tw16238515265708597157:True:=trivial
theorem tw9123468416891505579:True:=trivial
theorem tw10369757456229550023:True:=trivial
theorem tw2819712274365726420:True:=trivial
theorem tw7332539195826739541:True:=trivial
theorem tw8274503745705602453:True:=trivial
theorem tw12908111967692768963:True:=trivial
theorem tw16403425319014912335:True:=trivial
theorem tw13710560381663433762:True:=trivial
theorem tw7613858338230910237:True:=trivial
theorem tw10661577106569707055:True:=trivial
theorem tw14808780478177620202:True:=trivial
theorem tw16192606754131460830:True:=trivial
theorem tw5477073436157152345:True:=trivial
theorem tw16991821507356849523:True:=trivial
theorem tw14463952454249691076:True:=trivial
theorem tw6456607238957781933:True:=trivial
theorem tw15028772500809906898:True:=trivial
theorem tw10936410167036586483:True:=trivial
theorem tw9450312052772080096:True:=trivial
theorem tw3839504400316882801:True:=trivial
theorem tw9383210201231042188:True:=trivial
theorem tw1508408639320347063:True:=trivial
theorem tw3479880714805893464:True:=trivial
theorem tw9513160766014795480:True:=trivial
theorem tw7186926680511407952:True:=trivial
theorem tw10733947607301886898:True:=trivial
theorem tw17790289041157346159:True:=trivial
theorem tw15561572195390071438:True:=trivial
theorem tw17589817376625661686:True:=trivial
theorem tw16579071214224161435:True:=trivial
theorem tw15384071067256122332:True:=trivial
theorem tw17414665461474394777:True:=trivial
theorem tw1580017310496180750:True:=trivial
theorem tw5688749443528545811:True:=trivial
theorem tw5587160289201024488:True:=trivial
theorem tw15102893951792229952:True:=trivial
theorem tw7718886391792189383:True:=trivial
theorem tw7624338448239305322:True:=trivial
theorem tw4909660810352650317:True:=trivial
theorem tw15363061967739996312:True:=trivial
theorem tw8695919694119540814:True:=trivial
theorem tw1680554021180330799:True:=trivial
theorem tw10970286305398296664:True:=trivial
theorem tw9522019333326806637:True:=trivial
theorem tw2685710745288444094:True:=trivial
theorem tw10872928572319395898:True:=trivial
theorem tw13525158926727775179:True:=trivial
theorem tw10329568617842141475:True:=trivial
theorem tw13529028167591066111:True:=trivial
theorem tw10860181164084742377:True:=trivial
theorem tw9829675027540900094:True:=trivial
theorem tw7464024150950317364:True:=trivial
theorem tw11349891481532289010:True:=trivial
theorem tw7408104988515677760:True:=trivial
theorem tw10554371407171652665:True:=trivial
theorem tw3154592193867704760:True:=trivial
theorem tw10421634129703980981:True:=trivial
theorem tw13539222018232215326:True:=trivial
theorem tw6408425895147580209:True:=trivial
theorem tw6146449532415931457:True:=trivial
theorem tw13226554409173804359:True:=trivial
theorem tw10950526767649295370:True:=trivial
theorem tw12113248401376738499:True:=trivial
theorem tw6343057606070784601:True:=trivial
theorem tw13772827676060224582:True:=trivial
theorem tw2532975915055856136:True:=trivial
theorem tw6914300457320522873:True:=trivial
theorem tw15723774981717766203:True:=trivial
theorem tw16196018519397433761:True:=trivial
theorem tw2462327096809347894:True:=trivial
theorem tw12268626377680846528:True:=trivial
theorem tw14572827710168920863:True:=trivial
theorem tw14744091719302638341:True:=trivial
theorem tw10940697812194225001:True:=trivial
theorem tw16134612193337925904:True:=trivial
theorem tw13741536189660870206:True:=trivial
theorem tw3530950576511159614:True:=trivial
theorem tw13455592008856462462:True:=trivial
theorem tw13224468060662330675:True:=trivial
theorem tw13439114144268233456:True:=trivial
theorem tw2551129576199103482:True:=trivial
theorem tw5874400091044290906:True:=trivial
theorem tw11540852160500739574:True:=trivial
theorem tw9509984771152364638:True:=trivial
theorem tw10130768846234391739:True:=trivial
theorem tw15236256209787614683:True:=trivial
theorem tw8109680078773577665:True:=trivial
theorem tw1546415324862001410:True:=trivial
theorem tw5799831212959136422:True:=trivial
theorem tw16363073769503263970:True:=trivial
theorem tw12270209728781753035:True:=trivial
theorem tw350283004179130676:True:=trivial
theorem tw7419452476759842415:True:=trivial
theorem tw11149998061345376482:True:=trivial
theorem tw15762085770403513957:True:=trivial
theorem tw6386087746441811212:True:=trivial
theorem tw12437223237145479067:True:=trivial
theorem tw860977566436679250:True:=trivial
theorem tw4373366745328818730:True:=trivial
theorem tw7088117115113260520:True:=trivial
theorem tw5159482808230184835:True:=trivial
theorem tw7062216850116430508:True:=trivial
theorem tw998908460157529576:True:=trivial
theorem tw8873603431435291036:True:=trivial
theorem tw14813473519671697301:True:=trivial
theorem tw9663016545560567301:True:=trivial
theorem tw2563078662710464795:True:=trivial
theorem tw11900996287067993567:True:=trivial
theorem tw3030656895530231958:True:=trivial
theorem tw7101393664902758235:True:=trivial
theorem tw12695182536365178619:True:=trivial
theorem tw708872405846340184:True:=trivial
theorem tw13584586445124661549:True:=trivial
theorem tw12138194555854869539:True:=trivial
theorem tw14827760900630101041:True:=trivial
theorem tw7072689749092180538:True:=trivial
theorem tw5039792000142076236:True:=trivial
theorem tw8028595421863052779:True:=trivial
theorem tw12881674435550178807:True:=trivial
theorem tw497358625026940165:True:=trivial
theorem tw13994214671431220286:True:=trivial
theorem tw9154361367699157587:True:=trivial
theorem tw8225523546171726278:True:=trivial
theorem tw698610804930017097:True:=trivial
theorem tw366403008186478130:True:=trivial
theorem tw15657017200594313481:True:=trivial
theorem tw11878666145202056051:True:=trivial
theorem tw9839499449033997771:True:=trivial
theorem tw13949955895679803739:True:=trivial
theorem tw4047432699853642966:True:=trivial
theorem tw9245634801773785100:True:=trivial
theorem tw8837718443487386947:True:=trivial
theorem tw16851719788983779965:True:=trivial
theorem tw4436538562300416831:True:=trivial
theorem tw143300767543639482:True:=trivial
theorem tw6984246765152334413:True:=trivial
theorem tw10919232682313684984:True:=trivial
theorem tw92594165816483426:True:=trivial
theorem tw17950651990084353117:True:=trivial
theorem tw17973709766186196109:True:=trivial
theorem tw13440194311454839556:True:=trivial
theorem tw5910391145670791279:True:=trivial
theorem tw14165588329463386096:True:=trivial
theorem tw8784206158764075344:True:=trivial
theorem tw15555629208219097228:True:=trivial
theorem tw4675362581561131966:True:=trivial
theorem tw12085176780070831247:True:=trivial
theorem tw18179888175717018038:True:=trivial
theorem tw4995449807991583526:True:=trivial
theorem tw12867891541458438527:True:=trivial
theorem tw7576549470178278905:True:=trivial
theorem tw16645081975844024894:True:=trivial
theorem tw5690574039572220929:True:=trivial
theorem tw577919618748360243:True:=trivial
theorem tw18379792779653471706:True:=trivial
theorem tw15621426337819423670:True:=trivial
theorem tw15945839773338168120:True:=trivial
theorem tw12951856924241103845:True:=trivial
theorem tw9552230511343758933:True:=trivial
theorem tw13457841546178250193:True:=trivial
theorem tw3237985543032404429:True:=trivial
theorem tw9657298241734023607:True:=trivial
theorem tw3399867747188811719:True:=trivial
theorem tw1696122785395648004:True:=trivial
theorem tw5980300677374337644:True:=trivial
theorem tw14967308012055654395:True:=trivial
theorem tw11730313304237941887:True:=trivial
theorem tw13395927219750959023:True:=trivial
theorem tw16069166199556519201:True:=trivial
theorem tw2954269813384767054:True:=trivial
theorem tw17507095628632080607:True:=trivial
theorem tw3301173138311733664:True:=trivial
theorem tw3771142964918117759:True:=trivial
theorem tw13508728979868973277:True:=trivial
theorem tw8215856452659023509:True:=trivial
theorem tw4121795169350317534:True:=trivial
theorem tw9986540145121929772:True:=trivial
theorem tw17293042599069456503:True:=trivial
theorem tw14747655057034232547:True:=trivial
theorem tw13128914139082753965:True:=trivial
theorem tw14867230397973119377:True:=trivial
theorem tw9551962077768273977:True:=trivial
theorem tw2877410867551104942:True:=trivial
theorem tw9076633832226899429:True:=trivial
theorem tw15378856819930003529:True:=trivial
theorem tw984470506641076613:True:=trivial
theorem tw3321522712544128295:True:=trivial
theorem tw14947820575621442127:True:=trivial
theorem tw14954553142619050036:True:=trivial
theorem tw9221273316705448824:True:=trivial
theorem tw3152394313028359393:True:=trivial
theorem tw2331149142673206330:True:=trivial
theorem tw11414048790356529832:True:=trivial
theorem tw11507840103575227005:True:=trivial
theorem tw4177913406855143787:True:=trivial
theorem tw1742386000892677638:True:=trivial
theorem tw5201428426756362393:True:=trivial
theorem tw6924227857899732028:True:=trivial
theorem tw14260617891797131356:True:=trivial
theorem tw4278098914418379155:True:=trivial
theorem tw7862428126433843006:True:=trivial
theorem tw15727120967515581720:True:=trivial
theorem tw13755766478595054967:True:=trivial
theorem tw5089580426673676164:True:=trivial
theorem tw9730893314773511358:True:=trivial
theorem tw2186850291845761459:True:=trivial
theorem tw15054504749691966506:True:=trivial
theorem tw8774935772881735845:True:=trivial
theorem tw10608578553937931245:True:=trivial
theorem tw3437773965092231891:True:=trivial
theorem tw10451266139955822385:True:=trivial
theorem tw5452365956689868408:True:=trivial
theorem tw12930023120770374133:True:=trivial
theorem tw8569835737188749689:True:=trivial
theorem tw15821105931960411219:True:=trivial
theorem tw10243868266822585012:True:=trivial
theorem tw17448492978776034164:True:=trivial
theorem tw14961302436459847579:True:=trivial
theorem tw1670080632613277726:True:=trivial
theorem tw8482864739187369214:True:=trivial
theorem tw2773228652930020181:True:=trivial
theorem tw2448296107753413401:True:=trivial
theorem tw15837885667408883192:True:=trivial
theorem tw7050366993514441221:True:=trivial
theorem tw13440793761242418494:True:=trivial
theorem tw13648362625533332718:True:=trivial
theorem tw10388275090322881462:True:=trivial
theorem tw5134951795878206403:True:=trivial
theorem tw8572782198086195659:True:=trivial
theorem tw17220140120073215611:True:=trivial
theorem tw2316400270484099569:True:=trivial
theorem tw4041481889849548000:True:=trivial
theorem tw11764357674656620549:True:=trivial
theorem tw15372315857067621952:True:=trivial
theorem tw11575146740748410447:True:=trivial
theorem tw18433929594743266215:True:=trivial
theorem tw10555267107932130480:True:=trivial
theorem tw16952184860416061489:True:=trivial
theorem tw18369051957735284485:True:=trivial
theorem tw11376931707482366351:True:=trivial
theorem tw5543592226382025023:True:=trivial
theorem tw6746641505269885139:True:=trivial
theorem tw7660086189568722039:True:=trivial
theorem tw18286398593569507870:True:=trivial
theorem tw14766957013589219331:True:=trivial
theorem tw462718085878805827:True:=trivial
theorem tw477306843847883574:True:=trivial
theorem tw7995028238433159092:True:=trivial
theorem tw12555818194055040914:True:=trivial
theorem tw8262826246176286689:True:=trivial
theorem tw5988352731292636953:True:=trivial
theorem tw2281042969389958733:True:=trivial
theorem tw3764313986684743805:True:=trivial
theorem tw2207576925987997267:True:=trivial
theorem tw12432869081405087131:True:=trivial
theorem tw6974082105401340031:True:=trivial
theorem tw13513508009501834673:True:=trivial
theorem tw3504852440682339050:True:=trivial
theorem tw2700915511301571781:True:=trivial
theorem tw5781366610357295583:True:=trivial
theorem tw16668535498568382485:True:=trivial
theorem tw13257903121061816271:True:=trivial
theorem tw3508258764639244570:True:=trivial
theorem tw10849843696932444302:True:=trivial
theorem tw13404153435776832079:True:=trivial
theorem tw8546336869682713016:True:=trivial
theorem tw7781037761897405370:True:=trivial
theorem tw9975188295361124421:True:=trivial
theorem tw13545655725740514398:True:=trivial
theorem tw11614704661371890502:True:=trivial
theorem tw18097144822263280335:True:=trivial
theorem tw6816275724059161782:True:=trivial
theorem tw6060248991752367413:True:=trivial
theorem tw17707423336192031740:True:=trivial
theorem tw6146824336243168144:True:=trivial
theorem tw15219235955205198711:True:=trivial
theorem tw9700528887701708741:True:=trivial
end PySem.W.Fast
open PySem PySem.W PyProof.Rows
set_option maxRecDepth 100000 in
set_option maxHeartbeats 0 in
theorem PySem.Challenge.cw_tenreckon_k12_noughts_and_rounded_holds : PySem.Challenge.rw_tenreckon_k12_noughts_and_rounded.Holds := by
 w_on; o_law; k_head; (case hw => w_witness2)
 k_fill
 refine TR.walk (l := PySem.Challenge.rw_tenreckon_k12_noughts_and_rounded) (cc := 896) (P0 := 894) rfl rfl (fun w h Y => ⟨PySem.W.km_in_of Y, PySem.W.codeHd_of_K (PySem.W.km_in_of Y) (by kernel_rfl), PySem.W.km_tabs_of Y _ (by k_mem)⟩) (fun _ => by kernel_rfl) ?F
 case F =>
   intro w mg fa h KX G hmg
   refine' TR.all_mk (cc := 896) (P0 := 894) KX G hmg ?ZB0c ?ZB1a ?ZB0s ?ZB1t ?ZD9f ?ZD5s ?ZD6r ?ZD8b ?ZC5a ?ZC3f ?ZC5k ?ZC3p ?ZD6p ?ZD9n ?ZD7p ?ZD3k ?ZD7d ?ZD3u ?ZD7n ?ZG0x ?ZY3g ?ZV9s ?ZY0k ?ZY3f ?ZB9e ?ZB7k ?ZC0d ?ZB7x ?ZJ1y ?ZJ0c ?ZJ2c ?ZJ3m ?ZJ5b ?ZG8u ?ZJ6s ?ZJ5w ?ZD5u ?ZG0c ?ZD7a ?ZD9t ?ZV9d ?ZV2n ?ZV4q ?ZY1k ?ZB9q ?ZB8g ?ZB9w ?ZB9f ?ZB7e ?ZB7g ?ZB7w ?ZB8h ?ZC4c ?ZC4g ?ZC6a ?ZC5e ?ZB8c ?ZB9u ?ZB6y ?ZB7c ?ZB0z ?ZA9m ?ZA9g ?ZA9x ?ZC4t ?ZC5t ?ZC5f ?ZC5s ?ZC6b ?ZC4s ?ZC4b ?ZC4p ?ZD4q ?ZD4g ?ZD7w ?ZD9b ?ZD5a ?ZG0b ?ZG0z ?ZD8d ?ZB8p ?ZB8b ?ZB9a ?ZB8m ?ZB8v ?ZC0e ?ZC0b ?ZB8f ?ZC4r ?ZC4j ?ZC3y ?ZC5h ?ZJ5f ?ZJ5n ?ZJ2b ?ZG9w ?ZC0a ?ZB7h ?ZB7y ?ZB7s ?ZD5t ?ZD4s ?ZD6c ?ZD7g ?ZB9d ?ZB9p ?ZB6x ?ZB8k ?ZG0n ?ZD5x ?ZG0e ?ZD4e ?ZD8m ?ZD6f ?ZD8r ?ZD5y ?ZJ3e ?ZJ3p ?ZG9f ?ZJ1e ?ZD4d ?ZD3x ?ZD6b ?ZD8y ?ZC3q ?ZC5g ?ZC5w ?ZC4a ?ZJ6x ?ZJ2p ?ZJ0g ?ZJ1w ?ZJ1q ?ZJ3f ?ZJ4g ?ZG9r ?ZD5d ?ZG1j ?ZD6j ?ZG0g ?ZC3h ?ZC5c ?ZC5v ?ZC4m ?ZJ0f ?ZJ2w ?ZG9d ?ZJ0p ?ZC4x ?ZC5q ?ZC4y ?ZC6g ?ZJ0j ?ZJ0t ?ZG9m ?ZJ0z ?ZD6g ?ZD6t ?ZD8f ?ZG0m ?ZB4d ?ZB4g ?ZB4k ?ZB4n ?ZJ5a ?ZJ6d ?ZJ6y ?ZJ2h ?ZC3z ?ZC5u ?ZC5z ?ZC3g ?ZV8k ?ZV5c ?ZY1b ?ZV6r ?ZJ1t ?ZG9s ?ZJ1z ?ZJ7k ?ZJ2m ?ZJ7e ?ZJ4t ?ZJ6k ?ZV7n ?ZY3n ?ZY1f ?ZV3u ?ZV6s ?ZV3e ?ZV6j ?ZY4b ?ZU0g ?ZV1f ?ZV9x ?ZV6n ?ZA7m ?ZV7y ?ZG9y ?ZY1n ?ZJ5p ?ZG1e ?ZJ2j ?ZY0h ?ZG0y ?ZY0y ?ZV4x ?ZY0n ?ZV8u ?ZV9n ?ZY2z ?ZJ6r ?ZA9j ?ZB3s ?ZY1s ?ZC4u ?ZC4v ?ZV2t ?ZA7g ?ZB3t ?ZB0g ?ZB3w ?ZA9y ?ZA6c ?ZB1e ?ZB1m ?ZA7w ?ZB1f ?ZA6r ?ZA4d ?ZA6f ?ZB4h ?ZA9a ?ZB4q ?ZA9s ?ZA7p ?ZA9e ?ZB0f ?ZA5s ?ZA8y ?ZA6g ?ZA1k ?ZA6t ?ZA6z ?ZA4e ?ZA5w ?ZA4h ?ZA3h ?ZA4g ?ZB1q ?ZA7b ?ZA9h ?ZA7c ?ZA4f ?ZA6q ?ZA2j ?ZA1c ?ZA2h ?ZA1d ?ZA0n ?ZA1e ?Zsn ?Ztk ?Zir ?ZZ6z ?ZY0r ?ZV1z ?ZY1d ?ZY2s ?ZV2d ?ZV3g ?ZV5e ?ZV1u ?ZV4b ?ZY2f ?ZB7b ?ZB8s ?ZB6v ?ZB8a ?ZB2c ?ZZ6u ?ZV1s ?ZV5y ?ZV6u ?ZV2h ?ZV7f ?ZV2v ?ZY3u ?ZY0d ?ZY0f ?ZV6q ?ZB7z ?ZB7m ?ZB9n ?ZB8d ?ZB2m ?ZZ6t ?ZV5m ?ZV6k ?ZV3m ?ZY3d ?ZV9j ?ZV3p ?ZV3c ?ZY2u ?ZY2v ?ZV5b ?ZB8x ?ZB7n ?ZB7d ?ZB9z ?ZB2f ?ZZ7w ?ZV3n ?ZY2c ?ZY0u ?ZV7c ?ZV7p ?ZY3a ?ZV8w ?ZV9y ?ZY3r ?ZY2p ?ZB7t ?ZB8n ?ZB7v ?ZB9b ?ZB2h ?ZZ7s ?ZV2e ?ZY0q ?ZY0a ?ZV7q ?ZV5s ?ZV2q ?ZV5g ?ZY3v ?ZV8j ?ZV1k ?ZB6z ?ZB9s ?ZB7p ?ZB6u ?ZB2g ?ZZ8b ?ZY1v ?ZV2f ?ZV4u ?ZV8z ?ZY2a ?ZY3s ?ZV3w ?ZY0b ?ZV8e ?ZV1w ?ZB9t ?ZB8y ?ZB8t ?ZB7q ?ZB2d ?ZZ6h ?ZY3m ?ZV7w ?ZV4t ?ZV6d ?ZY2q ?ZV1n ?ZY3e ?ZV1x ?ZV8b ?ZY1x ?ZB9r ?ZB8z ?ZB8u ?ZB9c ?ZB2b ?ZZ6k ?ZV3s ?ZV9m ?ZV3y ?ZV3z ?ZV8v ?ZV3j ?ZV8f ?ZV7u ?ZV8h ?ZV8c ?ZB8e ?ZB9v ?ZB9m ?ZC0c ?ZB2e ?ZZ4v ?ZV5p ?ZV7a ?ZV5k ?ZY0s ?ZV8g ?ZV8r ?ZY3b ?ZV5q ?ZB7j ?ZB9y ?ZA7a ?ZB3y ?ZV5j ?ZV4m ?ZY1w ?ZV6b ?ZV8s ?ZD4x ?ZA7e ?ZA6v ?ZA7j ?ZA6s ?ZA2t ?ZB0u ?ZB1g ?ZA9p ?ZA9t ?ZA3s ?ZA7r ?ZA6d ?ZA5x ?ZA5v ?ZA2s ?ZB0x ?ZB1h ?ZB0r ?ZB0e ?ZA3z ?ZA6b ?ZA5u ?ZA6p ?ZA6e ?ZA2r ?ZB0q ?ZB1r ?ZA9r ?ZA8z ?ZA3v ?ZA5z ?ZA7t ?ZA7n ?ZA5y ?ZA2v ?ZB0m ?ZB0j ?ZA9u ?ZA9q ?ZA3w ?ZA6w ?ZA6j ?ZA6u ?ZA6x ?ZA2p ?ZA9c ?ZB0y ?ZA9b ?ZB1d ?ZA4a ?ZA6m ?ZA7k ?ZA6k ?ZA7d ?ZA2w ?ZB1n ?ZB0t ?ZA9w ?ZB0v ?ZA3x ?ZA6y ?ZA7s ?ZA6a ?ZA6n ?ZA2q ?ZA9n ?ZA9d ?ZB0p ?ZB0w ?ZA3u ?ZA7h ?ZA7x ?ZA6h ?ZA5t ?ZA2u ?ZB1p ?ZB0b ?ZA9f ?ZA8x ?ZA4b ?ZZ6r ?ZV4g ?ZY3w ?ZV2y ?ZY1t ?ZV9r ?ZY4a ?ZC0f ?ZB9k ?ZB4r ?ZB7a ?ZB3u ?ZA7v ?ZY2d ?ZV2g ?ZV4z ?ZV2b ?ZV6g ?ZY2e ?ZB3r ?ZB4c ?ZB3q ?ZB4p ?ZA7q ?ZB0n ?ZB0k ?ZA9v ?ZB1j ?ZA3t ?ZC5r ?ZC4k ?ZC4z ?ZC3w ?ZB5m ?ZB1b ?ZB0a ?ZB0h ?ZB1s ?ZA3y ?ZZ6g ?ZV4e ?ZY1e ?ZY2h ?ZV7r ?ZY3x ?ZY2x ?ZV6a ?ZV9h ?ZC5b ?ZB0d ?ZB4b ?ZY0w ?ZV5f ?ZV9z ?ZV4y ?ZY0x ?ZG3h ?ZB4s ?ZB4m ?ZB3v ?ZB4f ?ZA7u ?ZD3m ?ZD5z ?ZG0f ?ZD6y ?ZC1f ?ZZ6w ?ZV8q ?ZZ0k ?ZY8v ?ZY7s ?ZY9v ?ZV3t ?ZY7k ?Zcty ?Zccl ?Zcex ?Zsub5 ?Zxga5 ?Zxgh5 ?Zxca5 ?Zxob5 ?Zxbe5 ?Zxcl5 ?Ziu ?Ziw ?Ziy ?Ziz ?ZZ6a ?Zhv5 ?ZlT ?ZlN ?ZalN ?ZniT ?ZlT1 ?ZsaT ?Znsg5 ?ZY9j ?ZZ8e ?ZZ8g ?ZfcT ?ZkTR ?Zq1 ?Zq2 ?Zq3 ?Zq4 ?Za_S ?ZlS ?ZB3z ?ZB4j ?ZB3x ?ZB4a ?ZA7f ?ZB9h ?ZB8q ?ZB8j ?ZB8r ?ZB2k ?ZV6e ?ZV3x ?ZnCC ?ZA9k ?ZG8v ?ZJ4u ?ZD3y ?ZC3t ?ZD4n ?ZD7j ?Zsub2 ?Zxga2 ?Zxgh2 ?Zxca2 ?Zxob2 ?Zxbe2 ?Zxcl2 ?ZZ7q ?ZZ7m ?ZZ5c ?ZZ7b ?ZZ4y ?Zhv2 ?Zhcode
   case ZB0c|ZB1a|ZB0s|ZB1t|ZD9f|ZD5s|ZD6r|ZD8b|ZC5a|ZC3f|ZC5k|ZC3p|ZD6p|ZD9n|ZD7p|ZD3k|ZD7d|ZD3u|ZD7n|ZG0x|ZY3g|ZV9s|ZY0k|ZY3f|ZB9e|ZB7k|ZC0d|ZB7x|ZJ1y|ZJ0c|ZJ2c|ZJ3m|ZJ5b|ZG8u|ZJ6s|ZJ5w|ZD5u|ZG0c|ZD7a|ZD9t|ZV9d|ZV2n|ZV4q|ZY1k|ZB9q|ZB8g|ZB9w|ZB9f|ZB7e|ZB7g|ZB7w|ZB8h|ZC4c|ZC4g|ZC6a|ZC5e|ZB8c|ZB9u|ZB6y|ZB7c => k_is
   case ZB0z|ZA9m|ZA9g|ZA9x|ZC4t|ZC5t|ZC5f|ZC5s|ZC6b|ZC4s|ZC4b|ZC4p|ZD4q|ZD4g|ZD7w|ZD9b|ZD5a|ZG0b|ZG0z|ZD8d|ZB8p|ZB8b|ZB9a|ZB8m|ZB8v|ZC0e|ZC0b|ZB8f|ZC4r|ZC4j|ZC3y|ZC5h|ZJ5f|ZJ5n|ZJ2b|ZG9w|ZC0a|ZB7h|ZB7y|ZB7s|ZD5t|ZD4s|ZD6c|ZD7g|ZB9d|ZB9p|ZB6x|ZB8k|ZG0n|ZD5x|ZG0e|ZD4e|ZD8m|ZD6f|ZD8r|ZD5y|ZJ3e|ZJ3p|ZG9f|ZJ1e => k_is
   case ZD4d|ZD3x|ZD6b|ZD8y|ZC3q|ZC5g|ZC5w|ZC4a|ZJ6x|ZJ2p|ZJ0g|ZJ1w|ZJ1q|ZJ3f|ZJ4g|ZG9r|ZD5d|ZG1j|ZD6j|ZG0g|ZC3h|ZC5c|ZC5v|ZC4m|ZJ0f|ZJ2w|ZG9d|ZJ0p|ZC4x|ZC5q|ZC4y|ZC6g|ZJ0j|ZJ0t|ZG9m|ZJ0z|ZD6g|ZD6t|ZD8f|ZG0m|ZB4d|ZB4g|ZB4k|ZB4n|ZJ5a|ZJ6d|ZJ6y|ZJ2h|ZC3z|ZC5u|ZC5z|ZC3g|ZV8k|ZV5c|ZY1b|ZV6r|ZJ1t|ZG9s|ZJ1z|ZJ7k => k_is
   case ZJ2m|ZJ7e|ZJ4t|ZJ6k|ZV7n|ZY3n|ZY1f|ZV3u|ZV6s|ZV3e|ZV6j|ZY4b|ZU0g|ZV1f|ZV9x|ZV6n|ZA7m|ZV7y|ZG9y|ZY1n|ZJ5p|ZG1e|ZJ2j|ZY0h|ZG0y|ZY0y|ZV4x|ZY0n|ZV8u|ZV9n|ZY2z|ZJ6r|ZA9j|ZB3s|ZY1s|ZC4u|ZC4v|ZV2t|ZA7g => k_is
   case ZB3t|ZB0g|ZB3w|ZA9y|ZA6c|ZB1e|ZB1m|ZA7w|ZB1f|ZA6r|ZA4d|ZA6f|ZB4h|ZA9a|ZB4q|ZA9s|ZA7p|ZA9e|ZB0f|ZA5s|ZA8y|ZA6g|ZA1k|ZA6t|ZA6z|ZA4e|ZA5w|ZA4h|ZA3h|ZA4g|ZB1q|ZA7b|ZA9h|ZA7c|ZA4f|ZA6q|ZA2j|ZA1c|ZA2h|ZA1d|ZA0n|ZA1e => kit_is
   case Zsn|Ztk|Zir|ZZ6z|ZY0r|ZV1z|ZY1d|ZY2s|ZV2d|ZV3g|ZV5e|ZV1u|ZV4b => k_is
   case ZY2f => kit_is
   case ZB7b|ZB8s|ZB6v|ZB8a|ZB2c|ZZ6u|ZV1s|ZV5y|ZV6u|ZV2h|ZV7f|ZV2v|ZY3u|ZY0d|ZY0f => k_is
   case ZV6q => kit_is
   case ZB7z|ZB7m|ZB9n|ZB8d|ZB2m|ZZ6t|ZV5m|ZV6k|ZV3m|ZY3d|ZV9j|ZV3p|ZV3c|ZY2u|ZY2v => k_is
   case ZV5b => kit_is
   case ZB8x|ZB7n|ZB7d|ZB9z|ZB2f|ZZ7w|ZV3n|ZY2c|ZY0u|ZV7c|ZV7p|ZY3a|ZV8w|ZV9y|ZY3r => k_is
   case ZY2p => kit_is
   case ZB7t|ZB8n|ZB7v|ZB9b|ZB2h|ZZ7s|ZV2e|ZY0q|ZY0a|ZV7q|ZV5s|ZV2q|ZV5g|ZY3v|ZV8j => k_is
   case ZV1k => kit_is
   case ZB6z|ZB9s|ZB7p|ZB6u|ZB2g|ZZ8b|ZY1v|ZV2f|ZV4u|ZV8z|ZY2a|ZY3s|ZV3w|ZY0b|ZV8e => k_is
   case ZV1w => kit_is
   case ZB9t|ZB8y|ZB8t|ZB7q|ZB2d|ZZ6h|ZY3m|ZV7w|ZV4t|ZV6d|ZY2q|ZV1n|ZY3e|ZV1x|ZV8b => k_is
   case ZY1x => kit_is
   case ZB9r|ZB8z|ZB8u|ZB9c|ZB2b|ZZ6k|ZV3s|ZV9m|ZV3y|ZV3z|ZV8v|ZV3j|ZV8f|ZV7u|ZV8h => k_is
   case ZV8c => kit_is
   case ZB8e|ZB9v|ZB9m|ZC0c|ZB2e|ZZ4v|ZV5p|ZV7a|ZV5k|ZY0s|ZV8g|ZV8r|ZY3b|ZV5q|ZB7j|ZB9y|ZA7a|ZB3y|ZV5j|ZV4m|ZY1w|ZV6b|ZV8s => k_is
   case ZD4x => kit_is
   case ZA7e|ZA6v|ZA7j|ZA6s|ZA2t|ZB0u|ZB1g|ZA9p|ZA9t|ZA3s|ZA7r|ZA6d|ZA5x|ZA5v|ZA2s|ZB0x|ZB1h|ZB0r|ZB0e|ZA3z|ZA6b|ZA5u|ZA6p|ZA6e|ZA2r|ZB0q|ZB1r|ZA9r|ZA8z|ZA3v|ZA5z|ZA7t|ZA7n|ZA5y|ZA2v|ZB0m|ZB0j|ZA9u|ZA9q|ZA3w|ZA6w|ZA6j|ZA6u|ZA6x|ZA2p|ZA9c|ZB0y|ZA9b|ZB1d|ZA4a|ZA6m|ZA7k|ZA6k|ZA7d|ZA2w|ZB1n|ZB0t|ZA9w|ZB0v|ZA3x => k_is
   case ZA6y|ZA7s|ZA6a|ZA6n|ZA2q|ZA9n|ZA9d|ZB0p|ZB0w|ZA3u|ZA7h|ZA7x|ZA6h|ZA5t|ZA2u|ZB1p|ZB0b|ZA9f|ZA8x|ZA4b|ZZ6r|ZV4g|ZY3w|ZV2y|ZY1t|ZV9r|ZY4a|ZC0f|ZB9k|ZB4r|ZB7a|ZB3u|ZA7v|ZY2d|ZV2g|ZV4z|ZV2b|ZV6g|ZY2e|ZB3r|ZB4c|ZB3q|ZB4p|ZA7q|ZB0n|ZB0k|ZA9v|ZB1j|ZA3t|ZC5r|ZC4k|ZC4z|ZC3w|ZB5m|ZB1b|ZB0a|ZB0h|ZB1s|ZA3y|ZZ6g => k_is
   case ZV4e|ZY1e|ZY2h|ZV7r|ZY3x|ZY2x|ZV6a|ZV9h|ZC5b|ZB0d|ZB4b|ZY0w|ZV5f|ZV9z|ZV4y|ZY0x|ZG3h|ZB4s|ZB4m|ZB3v|ZB4f|ZA7u|ZD3m|ZD5z|ZG0f|ZD6y|ZC1f|ZZ6w => k_is
   case ZV8q => kit_is
   case ZZ0k|ZY8v|ZY7s|ZY9v|ZV3t|ZY7k|Zcty|Zccl|Zcex|Zsub5|Zxga5|Zxgh5|Zxca5|Zxob5|Zxbe5|Zxcl5 => k_is
   case Ziu|Ziw|Ziy|Ziz|ZZ6a|Zhv5 => kit_is
   case ZlT|ZlN => k_is
   case ZalN => simp
   case ZniT|ZlT1|ZsaT|Znsg5|ZY9j|ZZ8e|ZZ8g => k_is
   case ZfcT => rfl
   case ZkTR => kit_is
   case Zq1|Zq2|Zq3|Zq4 => k_exc
   case Za_S|ZlS|ZB3z|ZB4j|ZB3x|ZB4a|ZA7f|ZB9h|ZB8q|ZB8j|ZB8r|ZB2k|ZV6e|ZV3x => k_is
   case ZnCC|ZA9k|ZG8v|ZJ4u|ZD3y|ZC3t|ZD4n|ZD7j => kit_is
   case Zsub2|Zxga2|Zxgh2|Zxca2|Zxob2|Zxbe2|Zxcl2 => k_is
   case ZZ7q|ZZ7m|ZZ5c|ZZ7b|ZZ4y|Zhv2 => kit_is
   case Zhcode => rfl

