import PyProof.Rows.All
import Wide.All
import OpenK.AllK
import Wide.FinOn
import Lean
import PyProof.EqAt
import PyProof.EqKinds
import PyProof.TupleCall
import PyProof.Rows.Catch
import PyProof.Rows.TupIter
import PyProof.TupleIter
import PyProof.Seq
import PyProof.ExcInit
import PyProof.ExcClass2
import KE.KIntText
import PyProof.StrOps2
import PyProof.ConsumeWalk
import PyProof.Rows.RuleM_int
import PyProof.ZipIter
import PyProof.EnumMake
import KE.KLam
import PyProof.StrWalks
import PyProof.Rows.TupAssign
import PyProof.Rows.Range3
import PyProof.DictWalks
import PyProof.DictUpdate
import PyProof.P3In
import PySem.Challenge.RW_tenreckon_k22_whole_parts_and_rests
set_option Elab.async false
set_option linter.all false
set_option maxRecDepth 100000
namespace L2
open PySem PySem.Spec PyProof.Rows
noncomputable abbrev Key:=Sum Int Str
noncomputable def Z3t:Key ->Value ->Bool
 | .inl k,v=>Value.isInt k v
 | .inr x,v=>Value.isStrOf x v
noncomputable def keyH (w:World):Key ->Int
 | .inl k=>hashInt k
 | .inr x=>hashStr w x
theorem Y1:∀{k:Key} {v:Value},Z3t k v=true ->(∃i t,k=Sum.inl i/\v=Value.int i t)\/(∃x t,k=Sum.inr x/\v=Value.str x t)
 | .inl i,v,h=>by
   obtain⟨t,e⟩:=Value.isInt_shape (k:=i) (v:=v) h
   exact .inl ⟨i,t,rfl,e⟩
 | .inr x,v,h=>by
   obtain⟨t,e⟩:=Value.isStrOf_shape (x:=x) (v:=v) h
   exact .inr ⟨x,t,rfl,e⟩
theorem Z5v(a b:Int):decide ((Sum.inl a:Key)=Sum.inl b)=(a==b):=by
 by_cases e:a=b
 . subst e;simp
 . have h:¬(Sum.inl a:Key)=Sum.inl b:=fun q=>e (Sum.inl.inj q)
   rw[decide_eq_false h]
   exact(beq_eq_false_iff_ne.mpr e).symm
theorem Z5a(a b:Str):decide ((Sum.inr a:Key)=Sum.inr b)=decide (a=b):=by
 by_cases e:a=b
 . subst e;simp
 . have h:¬(Sum.inr a:Key)=Sum.inr b:=fun q=>e (Sum.inr.inj q)
   rw[decide_eq_false h,decide_eq_false e]
theorem Z5q(a:Int)(b:Str):decide ((Sum.inl a:Key)=Sum.inr b)=false:=decide_eq_false (fun q=>nomatch q)
theorem Z4g(a:Str)(b:Int):decide ((Sum.inr a:Key)=Sum.inl b)=false:=decide_eq_false (fun q=>nomatch q)
noncomputable def U1b (prog:Program) (w:World):PySem.KeyKind prog w Key where
 is:=Z3t
 hash:=keyH w
 inj :=fun v a b ha hb=>by
   rcases Y1 ha with⟨i,t,rfl,rfl⟩|⟨x,t,rfl,rfl⟩
   . rcases Y1 hb with⟨j,u,rfl,e⟩|⟨y,u,rfl,e⟩
     . injection e with e1 _;rw[e1]
     . exact nomatch e
   . rcases Y1 hb with⟨j,u,rfl,e⟩|⟨y,u,rfl,e⟩
     . exact nomatch e
     . injection e with e1 _;rw[e1]
 byValue:=fun k v h=>by
   rcases Y1 h with⟨i,t,rfl,rfl⟩|⟨x,t,rfl,rfl⟩<;>rfl
 pyHash:=fun hv h=>by
   rcases Y1 hv with⟨i,t,rfl,rfl⟩|⟨x,t,rfl,rfl⟩
   . exact wpAny_pyHash_int h
   . exact wpAny_pyHash_str h
 eqBool:=fun hu hv h=>by
   rcases Y1 hu with⟨i,t,rfl,rfl⟩|⟨x,t,rfl,rfl⟩
   . rcases Y1 hv with⟨j,u,rfl,rfl⟩|⟨y,u,rfl,rfl⟩
     . rw[Z5v] at h;exact wpAny_eqBool_int h
     . rw[Z5q] at h;exact SeqAt.EqAt.int_str i t y u _ _ _ _ h
   . rcases Y1 hv with⟨j,u,rfl,rfl⟩|⟨y,u,rfl,rfl⟩
     . rw[Z4g] at h;exact SeqAt.EqAt.str_int x t j u _ _ _ _ h
     . rw[Z5a] at h;exact wpAny_eqBool_str h
 «strs» := fun k x t v h => by
   rcases Y1 h with⟨i,u,rfl,e⟩|⟨y,u,rfl,e⟩
   . exact nomatch e
   . injection e with e1 _
     subst e1
     cases v<;>rfl
inductive V where
 |non|bl (b:Bool)|int (i:Int)|str (x:Str)|byt (b:Array UInt8)|flt (b:UInt64)|ref (a:Addr)|ty (n:String)
 deriving DecidableEq
noncomputable def RelV:V ->Value ->Prop
 | .non,u=>u=Value.none
 | .bl b,u=>u=Value.bool b
 | .int i,u=>∃t,u=Value.int i t
 | .str x,u=>∃t,u=Value.str x t
 | .byt b,u=>∃t,u=Value.bytes b t
 | .flt b,u=>∃t,u=Value.float b t
 | .ref a,u=>u=Value.ref a
 | .ty n,u=>u=Value.type n
noncomputable abbrev Vals:List V ->List Value ->Prop:=Paired RelV
theorem Vals.length{xs:List V}{us:List Value}(r:Vals xs us):xs.length=us.length:=Paired.length r
theorem Vals.get:∀{xs:List V} {us:List Value} {i:Nat} {x:V},Vals xs us ->xs[i]?=some x ->∃u,us[i]?=some u/\RelV x u
 |_,_,_,_,.nil,e=>by simp at e
 |_,_,0,_,.cons r _,e=>by simp at e;subst e;exact⟨_,rfl,r⟩
 | _,_,i+1,x,.cons _ t,e=>by
   obtain⟨u,h1,h2⟩:=Vals.get (i:=i) (x:=x) t (by simpa using e)
   exact⟨u,by simpa using h1,h2⟩
theorem Vals.append:∀{xs ys:List V} {us ws:List Value},Vals xs us ->Vals ys ws ->Vals (xs++ys) (us++ws)
 |_,_,_,_,.nil,s=>s
 |_,_,_,_,.cons r t,s=> .cons r (Vals.append t s)
noncomputable def RelO:Option V ->Option Value ->Prop
 |some v,some u=>RelV v u
 |none,none=>True
 |_,_=>False
noncomputable def KV {κ:Type}:List (κ×V) ->List (κ×Value) ->Prop:=Paired fun(p:κ×V) (q:κ×Value)=>p.1=q.1/\RelV p.2 q.2
noncomputable def kV:Key ->V
 | .inl i=> .int i
 | .inr x=> .str x
inductive HO where
 |lst (xs:List V)
 |tup (xs:List V)
 |dK (kvs:List (Key×V))|dT (kvs:List (List Key×V))
 |set (S:Int ->Bool) (n:Nat)
 |ins (C dx:Addr) (fs:List (Str×V))
 |own (x:Addr)
 |xd (fs:List (Str×V))
 |met (f x:Addr)
 |rng (lo hi:Int)
 |frz (o:Obj) (u:HO)
 |tbl (ps:Array Value)
 |ext (φ:Heap ->Prop)
noncomputable abbrev Hp:=Addr ->Option HO
noncomputable def upd (H:Hp) (a:Addr) (o:HO):Hp:=fun b=>if b=a then some o else H b
theorem B5{H:Hp}{a:Addr}{o:HO}:upd H a o a=some o:=by unfold upd;rw[if_pos rfl]
theorem D4{H:Hp}{a b:Addr}{o:HO}(h:b≠a):upd H a o b=H b:=by unfold upd;rw[if_neg h]
theorem Y8m{H:Hp}{a:Addr}{o u:HO}:upd (upd H a o) a u=upd H a u:=by
 funext b;unfold upd;split<;>rfl
theorem U2b{H:Hp}{a b:Addr}{o u:HO}(h:H a=some o)(h':H b=some u)(d:o≠u):a≠b:=by
 intro e;subst e;rw[h] at h';exact d (Option.some.inj h')
theorem G6{H:Hp}{a b:Addr}{o:HO}(h:H a=some o)(h':H b=none):a≠b:=by
 intro e;subst e;rw[h] at h';cases h'
section
variable(P:Program)(w:World)
noncomputable def ObjOk (H:Hp) (h:Heap) (a:Addr):HO ->Prop
 | .lst xs=>xs.length<=sizeLine/\∃(its:List Value) (n:Nat),Vals xs its/\h.get? a=some {cls:= .type "list",data:= .seq its.toArray n}
 | .tup xs=>xs.length<=sizeLine/\∃its:List Value,Vals xs its/\IsTup h a its.toArray
 | .dK kvs=>kvs.length<=sizeLine/\(a==sysModules)=false/\∃vs,KV kvs vs/\h.DictOf (U1b P w) a vs
 | .dT kvs=>kvs.length<=sizeLine/\(a==sysModules)=false/\∃xs:List (List Key×Addr×Value),
     Paired (fun(p:List Key×V) (q:List Key×Addr×Value)=>p.1=q.1/\H q.2.1=some (.tup (p.1.map kV))/\RelV p.2 q.2.2) kvs xs/\
     ∃o es ep,h.get? a=some o/\o.ExactDict/\o.data= .dict es ep/\es.toList=xs.map (entryOfKey (tupleKind (U1b P w)))/\(xs.map (·.1)).Nodup
 | .set S n=>h.SetOf (intKind P w) a S n
 | .ins C dx fs=>H dx=some (.own a)/\fs.length<=1000/\dx≠a/\h.get? a=some (PySem.W.instObj C dx)/\
     ∃mA,h.Ns1 dx mA/\(∀f,RelO (fs.lookup f) (mA f))/\PySem.Within mA (fs.map (·.1))
 | .own _=>∃o,h.get? a=some o
 | .xd fs=>∃mA,h.Ns1 a mA/\∀f,RelO (fs.lookup f) (mA f)
 | .rng lo hi=>∃t u v,h.get? a=some {cls:= .type "range",data:= .fields #[.int lo t,.int hi u,.int 1 v]}
 | .frz o u=>h.get? a=some o/\ObjOk H h a u
 | .tbl ps=>h.get? a=some {cls:= .none,data:= .fields ps}
 | .met f x=>h.get? a=some (PySem.W.methodObj (.ref f) (.ref x))
 | .ext φ=>φ h/\(∃o,h.get? a=some o)/\∀h1 h2:Heap,φ h1 ->(∀o,h1.get? a=some o ->h2.get? a=some o) ->φ h2
noncomputable def HOk (H:Hp) (h:Heap):Prop:=∀a o,H a=some o ->ObjOk P w H h a o
end
section
variable{P:Program}{w:World}{H H':Hp}{h h':Heap}{a:Addr}{o:HO}
theorem ObjOk.lt(x:ObjOk P w H h a o):a<h.objs.size:=by
 cases o with
 |lst xs=>obtain⟨_,_,_,_,e⟩:=x;exact Heap.lt_size e
 |tup xs=>obtain⟨_,_,_,p⟩:=x;exact p.lt
 |dK kvs=>obtain⟨_,_,_,_,o,_,_,e,_⟩:=x;exact Heap.lt_size e
 |dT kvs=>obtain⟨_,_,_,_,o,_,_,e,_⟩:=x;exact Heap.lt_size e
 |set S n=>obtain⟨o,_,_,_,e,_⟩:=x;exact Heap.lt_size e
 |ins C dx fs=>obtain⟨_,_,_,e,_⟩:=x;exact Heap.lt_size e
 |own y=>obtain⟨_,e⟩:=x;exact Heap.lt_size e
 |xd fs=>obtain⟨_,⟨_,_,_,e,_⟩,_⟩:=x;exact Heap.lt_size e
 |rng lo hi=>obtain⟨_,_,_,e⟩:=x;exact Heap.lt_size e
 |frz ob u=>obtain⟨e,_⟩:=x;exact Heap.lt_size e
 |tbl ps=>exact Heap.lt_size (show h.get? a=some _ from x)
 |met f y=>exact Heap.lt_size (show h.get? a=some _ from x)
 |ext φ=>obtain⟨_,⟨_,e⟩,_⟩:=x;exact Heap.lt_size e
theorem Paired.mapP{α β:Type}{F G:α ->β ->Prop}:∀{l₁:List α} {l₂:List β},Paired F l₁ l₂ ->(∀a b,F a b ->G a b) ->Paired G l₁ l₂
 |_,_,.nil,_=> .nil
 |_,_,.cons r t,f=> .cons (f _ _ r) (Paired.mapP t f)
theorem ObjOk.stay(x:ObjOk P w H h a o)(k:∀b u,(b=a\/H b=some (.own a)) ->h.get? b=some u ->h'.get? b=some u)
   (ho:∀b,H b=some (.own a) ->H' b=some (.own a)) (ht:∀b xs,H b=some (.tup xs) ->H' b=some (.tup xs)):ObjOk P w H' h' a o:=by
 induction o with
 |lst xs=>obtain⟨z,its,n,r,e⟩:=x;exact⟨z,its,n,r,k _ _ (.inl rfl) e⟩
 |tup xs=>obtain⟨z,its,r,ob,e,c⟩:=x;exact⟨z,its,r,ob,k _ _ (.inl rfl) e,c⟩
 |dK kvs=>obtain⟨z,y,vs,r,ob,es,ep,e,c⟩:=x;exact⟨z,y,vs,r,ob,es,ep,k _ _ (.inl rfl) e,c⟩
 | dT kvs=>
   obtain⟨z,y,xs,r,ob,es,ep,e,c⟩:=x
   exact⟨z,y,xs,Paired.mapP r fun p q z=>⟨z.1,ht _ _ z.2.1,z.2.2⟩,ob,es,ep,k _ _ (.inl rfl) e,c⟩
 |set S n=>obtain⟨ob,es,ep,t,e,c⟩:=x;exact⟨ob,es,ep,t,k _ _ (.inl rfl) e,c⟩
 | ins C dx fs=>
   obtain⟨d,z,ne,e,mA,⟨od,es,ep,e2,c⟩,r⟩:=x
   exact⟨ho _ d,z,ne,k _ _ (.inl rfl) e,mA,⟨od,es,ep,k _ _ (.inr d) e2,c⟩,r⟩
 |own y=>obtain⟨ob,e⟩:=x;exact⟨ob,k _ _ (.inl rfl) e⟩
 |xd fs=>obtain⟨mA,⟨od,es,ep,e,c⟩,r⟩:=x;exact⟨mA,⟨od,es,ep,k _ _ (.inl rfl) e,c⟩,r⟩
 |rng lo hi=>obtain⟨t,u,v,e⟩:=x;exact⟨t,u,v,k _ _ (.inl rfl) e⟩
 |frz ob u ih=>obtain⟨e,q⟩:=x;exact⟨k _ _ (.inl rfl) e,ih q⟩
 | tbl ps=>
   have e:h.get? a=some {cls:= .none,data:= .fields ps}:=x
   show h'.get? a=some {cls:= .none,data:= .fields ps}
   exact k a _ (.inl rfl) e
 | met f y=>
   have e:h.get? a=some (PySem.W.methodObj (.ref f) (.ref y)):=x
   show h'.get? a=some (PySem.W.methodObj (.ref f) (.ref y))
   exact k a _ (.inl rfl) e
 |ext φ=>obtain⟨p,⟨o,e⟩,st⟩:=x;exact⟨st _ _ p fun o q=>k _ _ (.inl rfl) q,⟨o,k _ _ (.inl rfl) e⟩,st⟩
theorem HOk.lt(x:HOk P w H h)(e:H a=some o):a<h.objs.size:=(x a o e).lt
theorem HOk.fresh(x:HOk P w H h)(e:h.objs.size<=a):H a=none:=by
 cases q:H a with
 |none=>rfl
 |some u=>exact absurd (Nat.lt_of_lt_of_le (x.lt q) e) (Nat.lt_irrefl _)
theorem HOk.kept(x:HOk P w H h)(k:∀b u,h.get? b=some u ->h'.get? b=some u):HOk P w H h':=fun a o e=>
 (x a o e).stay (fun b u _ q=>k b u q) (fun _ q=>q) fun _ _ q=>q
theorem HOk.laid(x:HOk P w H h)(k:∀b u,h.get? b=some u ->h'.get? b=some u)(hp:h.objs.size<=a)(new:ObjOk P w (upd H a o) h' a o):HOk P w (upd H a o) h':=fun b u e=>by
 have hn:=x.fresh hp
 by_cases hb:b=a
 . subst hb;rw[B5] at e;cases e;exact new
 . rw[D4 hb] at e
   exact(x b u e).stay (fun c v _ q=>k c v q) (fun c q=>by rw[D4 (G6 q hn)];exact q) fun c xs q=>by rw[D4 (G6 q hn)];exact q
end
noncomputable def Rd (H:Hp) (a:Addr) (u:HO):Prop:=H a=some u\/∃o,H a=some (.frz o u)
theorem Rd.ok{P:Program}{w:World}{H:Hp}{h:Heap}{a:Addr}{u:HO}(r:Rd H a u)(x:HOk P w H h):ObjOk P w H h a u:=by
 rcases r with r|⟨o,r⟩
 . exact x a u r
 . obtain⟨_,q⟩:=x a _ r
   exact q
noncomputable def Mut:Option HO ->Prop
 |some (.lst _)=>True
 |some (.dK _)=>True
 |some (.dT _)=>True
 |some (.set _ _)=>True
 |some (.ins _ _ _)=>True
 |some (.ext _)=>True
 |_=>False
section
variable{P:Program}{w:World}{H:Hp}{h h':Heap}{x e:Addr}{o':HO}
theorem HOk.write(ok:HOk P w H h)(mu:Mut (H x))(he:e=x\/H e=some (.own x))(k:∀b u,b≠e ->h.get? b=some u ->h'.get? b=some u)(heo:∃u,h'.get? e=some u)
   (new:ObjOk P w (upd H x o') h' x o'):HOk P w (upd H x o') h':=fun b u q=>by
 have nown:∀c y,H c=some (.own y) ->c≠x:=fun c y r z=>by subst z;rw[r] at mu;exact mu
 have ntup:∀c xs,H c=some (.tup xs) ->c≠x:=fun c xs r z=>by subst z;rw[r] at mu;exact mu
 by_cases hb:b=x
 . subst hb;rw[B5] at q;cases q;exact new
 . rw[D4 hb] at q
   by_cases hbe:b=e
   . have q':H b=some (.own x):=by
       rcases he with z|z
       . exact absurd (hbe.trans z) hb
       . rw[hbe];exact z
     rw[q] at q';cases q'
     obtain⟨v,hv⟩:=heo
     exact⟨v,by rw[hbe];exact hv⟩
   . refine(ok b u q).stay (fun c v hc r=>k c v ?_ r) (fun c r=>by rw[D4 (nown c b r)];exact r) fun c xs r=>by rw[D4 (ntup c xs r)];exact r
     rcases hc with rfl|hc
     . exact hbe
     . rintro rfl
       rcases he with z|z
       . exact nown c b hc z
       . rw[hc] at z;cases z;exact hb rfl
end
structure Un(fs ex:List Addr)(H H':Hp)(h h':Heap):Prop where
 keep:∀b o,h.get? b=some o ->H b=none ->b ∉ fs ->b ∉ ex ->h'.get? b=some o
 slot:∀b o,h.get? b=some o ->H b=none ->b∈fs ->b ∉ ex ->∃sl,h'.get? b=some {o with slots:=sl}
 free:∀b o,h.get? b=some o ->H b=none ->b ∉ ex ->H' b=none
 there:∀b o,h.get? b=some o ->b ∉ ex ->∃o',h'.get? b=some o'
 tups:∀b xs,H b=some (.tup xs) ->H' b=some (.tup xs)
 frzs:∀b o u,H b=some (.frz o u) ->H' b=some (.frz o u)
 tbls:∀b ps,H b=some (.tbl ps) ->∃more,H' b=some (.tbl (ps++more))
section
variable{fs fs' ex ex':List Addr}{H H1 H2:Hp}{h h1 h2 h':Heap}{a x e:Addr}{o:HO}
theorem Un.any(u:Un fs ex H H1 h h1){b:Addr}{ob:Obj}(q:h.get? b=some ob)(n:H b=none)(hx:b ∉ ex):∃sl,h1.get? b=some {ob with slots:=sl}:=by
 by_cases hb:b∈fs
 . exact u.slot b ob q n hb hx
 . exact⟨ob.slots,u.keep b ob q n hb hx⟩
theorem Un.kept(k:∀b u,h.get? b=some u ->h'.get? b=some u):Un fs ex H H h h':=
 ⟨fun b ob q _ _ _=>k b ob q,fun b ob q _ _ _=>⟨ob.slots,k b ob q⟩,fun _ _ _ n _=>n,fun b ob q _=>⟨ob,k b ob q⟩,fun _ _ q=>q,fun _ _ _ q=>q,fun _ ps q=>⟨#[],by rw[q];simp⟩⟩
theorem Un.refl:Un fs ex H H h h:=Un.kept fun _ _ q=>q
theorem Un.laid(k:∀b u,h.get? b=some u ->h'.get? b=some u)(hp:h.objs.size<=a)(hn:H a=none):Un fs ex H (upd H a o) h h' where
 keep:=fun b u q _ _ _=>k b u q
 slot:=fun b u q _ _ _=>⟨u.slots,k b u q⟩
 free:=fun b u q n _=>by rw[D4 (Nat.ne_of_lt (Nat.lt_of_lt_of_le (Heap.lt_size q) hp))];exact n
 there:=fun b u q _=>⟨u,k b u q⟩
 tups:=fun b xs q=>by rw[D4 (G6 q hn)];exact q
 frzs:=fun b u xs q=>by rw[D4 (G6 q hn)];exact q
 tbls:=fun b ps q=>⟨#[],by rw[D4 (G6 q hn),q];simp⟩
theorem Un.write(mu:Mut (H x))(he:e=x\/H e=some (.own x))(k:∀b u,b≠e ->h.get? b=some u ->h'.get? b=some u)(heo:∃u,h'.get? e=some u):Un fs ex H (upd H x o) h h':=by
 have hx:∀b,H b=none ->b≠x:=fun b n z=>by subst z;rw[n] at mu;exact mu
 have hb:∀b,H b=none ->b≠e:=fun b n z=>by
   subst z
   rcases he with r|r
   . exact hx b n r
   . rw[n] at r;cases r
 have hm:∀b u,H b=some u ->¬Mut (some u) ->b≠x:=fun b u q nm z=>by subst z;rw[q] at mu;exact nm mu
 refine⟨fun b u q n _ _=>k b u (hb b n) q,fun b u q n _ _=>⟨u.slots,k b u (hb b n) q⟩,fun b u q n _=>by rw[D4 (hx b n)];exact n,fun b u q _=>?_,
   fun b xs q=>by rw[D4 (hm b _ q fun z=>z)];exact q,fun b u xs q=>by rw[D4 (hm b _ q fun z=>z)];exact q,fun b ps q=>⟨#[],by rw[D4 (hm b _ q fun z=>z),q];simp⟩⟩
 by_cases hbe:b=e
 . subst hbe;exact heo
 . exact⟨u,k b u hbe q⟩
end
noncomputable def trk (h:Heap) (H:Hp):List Addr:=(List.range h.objs.size).filter fun a=>(H a).isSome
noncomputable def C7y (h:Heap) (H:Hp):Heap:=PySem.W.hideAll h (trk h H)
theorem U5d(h:Heap)(H:Hp):(C7y h H).objs.size=h.objs.size:=PySem.W.hideAll_size _ _
theorem V0x{h:Heap}{H:Hp}{b:Addr}{o:Obj}(e:h.get? b=some o)(n:H b=none):(C7y h H).get? b=some o:=
 PySem.W.hideAll_get _ e fun hm=>by
   have q:(H b).isSome=true:=(List.mem_filter.mp hm).2
   rw[n] at q;simp at q
theorem Y6y{h:Heap}{H:Hp}{b:Addr}{o:Obj}(e:(C7y h H).get? b=some o):h.get? b=some o/\H b=none:=by
 have e':h.get? b=some o:=PySem.W.of_hideAll (trk h H) e
 refine⟨e',?_⟩
 cases q:H b with
 |none=>rfl
 | some x=>
   have hm:b∈trk h H:=List.mem_filter.mpr ⟨List.mem_range.mpr (Heap.lt_size e'),by simp[q]⟩
   have z:(C7y h H).get? b=none:=PySem.W.hideAll_none (trk h H) hm
   rw[z] at e;cases e
structure Mod(K:PySem.W.Frag)(mg:Str ->Option Value)(base:Heap):Prop where
 kin:K.In base
 glob:base.Ns mainGlobals mg
 blt:∃mb,base.Ns builtinsNs mb/\∀x:Str,x≠"__name__" ->mb x=bootBuiltins x
 nolimit:base.NoLimit
structure Cx where
 prog:Program
 w:World
 K:PySem.W.Frag
 mg:Str ->Option Value
 base:Heap
 A:Around
 N:List Str
 s₀:Shared
 H₀:Hp
 env:Env
 outer:List Env
 stack:List Env
 ex:List Addr
 fn:Str ->Bool
 calm:Bool
 pn:List (Addr×Obj)
 xe:Value ->Shared ->Prop
noncomputable def frs (l:List Env):List Addr:=l.filterMap (·.frame)
noncomputable abbrev Cx.fs (X:Cx):List Addr:=frs X.outer
noncomputable def Vis (sc:Scope) (x:Str):Prop:=sc.names.lookup x=some .local\/sc.names.lookup x=some .cell\/sc.names.lookup x=some .free
noncomputable def Loc (sc:Scope) (x:Str):Prop:=sc.names.lookup x=some .local\/sc.names.lookup x=some .cell
noncomputable def Look (env:Env) (h:Heap) (m:Str ->Option Value) (x:Str) (u:Value):Prop:=
 (env.kindOf x=some .local/\m x=some u)\/((env.kindOf x=some .cell\/env.kindOf x=some .free)/\∃c,env.cells.lookup x=some c/\h.IsCell c (some u))
structure Cx.Ok(X:Cx):Prop where
 mod:Mod X.K X.mg X.base
 kind:X.env.scope.kind= .function
 glob:X.env.globals=mainGlobals
 blt:X.env.builtins=builtinsNs
 above:X.s₀.heap.objs.size<=X.env.locals
 inj:∀x y c,X.env.cells.lookup x=some c ->X.env.cells.lookup y=some c ->x=y
 has:∀x,(X.env.kindOf x=some .cell\/X.env.kindOf x=some .free) ->∃c,X.env.cells.lookup x=some c
 cab:∀x c,X.fn x=true ->X.env.cells.lookup x=some c ->X.s₀.heap.objs.size<=c
 hd:X.calm=true ->X.A.handled=none
 frames:X.A.frames=some X.stack
 stk:X.stack=X.outer\/(X.stack=X.env::X.outer/\X.env.frame=some X.env.locals)
 exf:∀b∈X.ex,b≠X.env.locals/\∀x c,X.env.cells.lookup x=some c ->c≠b
 bs:∀b o,X.base.get? b=some o ->X.s₀.heap.get? b=some o/\X.H₀ b=none
 bsz:X.base.objs.size<=X.s₀.heap.objs.size
 noex:∀b o,X.base.get? b=some o ->b ∉ X.ex
 exfs:∀b∈X.ex,b ∉ X.fs
 funs:X.s₀.heap.FunFrames X.base X.outer
 frf:∀b∈X.fs,X.H₀ b=none
structure Inv(X:Cx)(pins:List (Addr×Obj))(σ:List (Option V))(H:Hp)(s:Shared):Prop where
 ok:X.Ok
 os:s.os=X.s₀.os
 bare:AllBare s.gens
 base:Un X.fs X.ex X.H₀ H X.s₀.heap s.heap
 loc:∃m,s.heap.Ns X.env.locals m/\∀(i:Nat) (x:Str) (v:V),X.N[i]?=some x ->σ[i]?=some (some v) ->Vis X.env.scope x ->∃u,RelV v u/\Look X.env s.heap m x u
 cell:∀x c,X.env.cells.lookup x=some c ->∃v,s.heap.IsCell c v
 free:H X.env.locals=none
 freeC:∀x c,X.env.cells.lookup x=some c ->H c=none
 pin:∀p∈X.pn++pins,s.heap.get? p.1=some p.2/\H p.1=none/\p.1≠X.env.locals/\p.1 ∉ X.fs/\∀v,p.2.data≠ .cell v
 hok:HOk X.prog X.w H s.heap
 len:σ.length=X.N.length
section
variable{X:Cx}{pins:List (Addr×Obj)}{σ:List (Option V)}{H H':Hp}{s:Shared}{h':Heap}
theorem Cx.Ok.nofr(ok:X.Ok){b:Addr}{o:Obj}(e:X.base.get? b=some o):b ∉ X.fs:=fun hb=>by
 have:=(ok.funs.mem hb).1
 rw[e] at this;cases this
theorem Inv.bs(I:Inv X pins σ H s):∀b o,X.base.get? b=some o ->s.heap.get? b=some o/\H b=none:=fun b o e=>
 ⟨I.base.keep b o (I.ok.bs b o e).1 (I.ok.bs b o e).2 (I.ok.nofr e) (I.ok.noex b o e),I.base.free b o (I.ok.bs b o e).1 (I.ok.bs b o e).2 (I.ok.noex b o e)⟩
theorem Inv.bk(I:Inv X pins σ H s):∀b o,X.base.get? b=some o ->s.heap.get? b=some o:=fun b o e=>(I.bs b o e).1
theorem Inv.mod(I:Inv X pins σ H s):Mod X.K X.mg X.base:=I.ok.mod
theorem Inv.kIn(I:Inv X pins σ H s):X.K.In s.heap:=I.ok.mod.kin.keeps I.bk
theorem Inv.lt(I:Inv X pins σ H s):X.env.locals<s.heap.objs.size:=let⟨_,hn,_⟩:=I.loc;hn.lt
theorem Inv.sz(I:Inv X pins σ H s):X.s₀.heap.objs.size<=s.heap.objs.size:=Nat.le_trans I.ok.above (Nat.le_of_lt I.lt)
theorem Inv.nofs(I:Inv X pins σ H s){a:Addr}(h:s.heap.objs.size<=a):a ∉ X.fs:=fun hb=>by
 obtain⟨_,o,ho,_⟩:=I.ok.funs.mem hb
 exact absurd (Nat.lt_of_lt_of_le (Heap.lt_size ho) (Nat.le_trans I.sz h)) (Nat.lt_irrefl _)
theorem Inv.cne(I:Inv X pins σ H s):∀x c,X.env.cells.lookup x=some c ->c≠X.env.locals:=fun x c e z=>by
 obtain⟨v,o,ho,hd⟩:=I.cell x c e
 obtain⟨m,⟨o',es,ep,ho',hd',_⟩,_⟩:=I.loc
 rw[z,ho'] at ho;cases ho;rw[hd'] at hd;cases hd
theorem Inv.funs(I:Inv X pins σ H s):s.heap.FunFrames X.base X.outer:=by
 have all:∀(l:List Env),(∀b∈frs l,b∈X.fs) ->X.s₀.heap.FunFrames X.base l ->s.heap.FunFrames X.base l:=by
   intro l
   induction l with
   |nil=>intro _ _;trivial
   | cons env r ih=>
     intro hs hl
     obtain⟨hk,⟨L,o,hf,hn,ho,hd⟩,hr⟩:=hl
     have hL:L∈X.fs:=hs L (by unfold frs;rw[List.filterMap_cons,hf];exact List.mem_cons_self)
     obtain⟨sl,e⟩:=I.base.slot L o ho (I.ok.frf L hL) hL fun z=>I.ok.exfs L z hL
     exact⟨hk,⟨L,_,hf,hn,e,hd⟩,ih (fun b hb=>hs b (by unfold frs;rw[List.filterMap_cons,hf];exact List.mem_cons_of_mem _ hb)) hr⟩
 exact all X.outer (fun _ hb=>hb) I.ok.funs
theorem Inv.stack(I:Inv X pins σ H s):s.heap.FunFrames X.base X.stack:=by
 rcases I.ok.stk with e|⟨e,hf⟩
 . rw[e];exact I.funs
 . rw[e]
   obtain⟨m,hn,_⟩:=I.loc
   refine .cons (by rw[I.ok.kind];decide) hf hn ?_ I.funs
   exact Heap.get?_none_of_le (Nat.le_trans I.ok.bsz I.ok.above)
theorem Inv.stkSub(I:Inv X pins σ H s):∀b∈frs X.stack,b∈X.env.locals::X.fs:=fun b hb=>by
 rcases I.ok.stk with e|⟨e,hf⟩
 . rw[e] at hb;exact List.mem_cons_of_mem _ hb
 . rw[e] at hb
   unfold frs at hb
   rw[List.filterMap_cons,hf] at hb
   exact hb
theorem Inv.stkFree(I:Inv X pins σ H s):∀b∈frs X.stack,H b=none:=fun b hb=>by
 rcases List.mem_cons.mp (I.stkSub b hb) with e|hb
 . rw[e];exact I.free
 . obtain⟨_,o,ho,_⟩:=I.ok.funs.mem hb
   exact I.base.free b o ho (I.ok.frf b hb) fun z=>I.ok.exfs b z hb
theorem Inv.step{g':Array GenState}{t':Nat}{d':Drawn}{ch:List Addr}(I:Inv X pins σ H s)
   (hch:∀b∈ch,(b∈X.ex\/X.s₀.heap.objs.size<=b)/\b≠X.env.locals/\(∀x c,X.env.cells.lookup x=some c ->c≠b)/\∀p∈X.pn++pins,p.1≠b)
   (keep:∀b o,b≠X.env.locals ->b ∉ X.fs ->b ∉ ch ->s.heap.get? b=some o ->H b=none ->h'.get? b=some o)
   (slot:∀b o,b≠X.env.locals ->b∈X.fs ->b ∉ ch ->s.heap.get? b=some o ->H b=none ->∃sl,h'.get? b=some {o with slots:=sl}) (free:∀b o,b ∉ ch ->s.heap.get? b=some o ->H b=none ->H' b=none)
   (there:∀b o,b ∉ ch ->s.heap.get? b=some o ->∃o',h'.get? b=some o')
   (tups:∀b xs,H b=some (.tup xs) ->H' b=some (.tup xs)) (frzs:∀b o u,H b=some (.frz o u) ->H' b=some (.frz o u)) (tbls:∀b ps,H b=some (.tbl ps) ->∃more,H' b=some (.tbl (ps++more)))
   (ns:∀m,s.heap.Ns X.env.locals m ->h'.Ns X.env.locals m) (hok:HOk X.prog X.w H' h') (hg:AllBare g'):
   Inv X pins σ H' {s with heap:=h',gens:=g',drawn:=d',toks:=t'}:=by
 have neL:∀b o,X.s₀.heap.get? b=some o ->b≠X.env.locals:=fun b o e=>Nat.ne_of_lt (Nat.lt_of_lt_of_le (Heap.lt_size e) I.ok.above)
 have neC:∀b o,X.s₀.heap.get? b=some o ->b ∉ X.ex ->b ∉ ch:=fun b o e hx hb=>by
   rcases(hch b hb).1 with z|z
   . exact hx z
   . exact absurd (Nat.lt_of_lt_of_le (Heap.lt_size e) z) (Nat.lt_irrefl _)
 have cellK:∀x c,X.env.cells.lookup x=some c ->∀v,s.heap.IsCell c v ->h'.IsCell c v:=fun x c e v ⟨o,ho,hd⟩=>by
   have nch:c ∉ ch:=fun z=>(hch c z).2.2.1 x c e rfl
   by_cases hc:c∈X.fs
   . obtain⟨sl,q⟩:=slot c o (I.cne x c e) hc nch ho (I.freeC x c e)
     exact⟨_,q,hd⟩
   . exact⟨o,keep c o (I.cne x c e) hc nch ho (I.freeC x c e),hd⟩
 refine⟨I.ok,I.os,hg,⟨fun b o e n hb hx=>?_,fun b o e n hb hx=>?_,fun b o e n hx=>?_,fun b o e hx=>?_,fun b xs e=>tups b xs (I.base.tups b xs e),fun b o xs e=>frzs b o xs (I.base.frzs b o xs e),fun b ps e=>?_⟩,?_,fun x c e=>?_,?_,fun x c e=>?_,fun p hp=>?_,hok,I.len⟩
 . exact keep b o (neL b o e) hb (neC b o e hx) (I.base.keep b o e n hb hx) (I.base.free b o e n hx)
 . obtain⟨sl,e1⟩:=I.base.slot b o e n hb hx
   obtain⟨sl',e2⟩:=slot b _ (neL b o e) hb (neC b o e hx) e1 (I.base.free b o e n hx)
   exact⟨sl',e2⟩
 . obtain⟨o',e1⟩:=I.base.there b o e hx
   exact free b o' (neC b o e hx) e1 (I.base.free b o e n hx)
 . obtain⟨o',e1⟩:=I.base.there b o e hx
   exact there b o' (neC b o e hx) e1
 . obtain⟨m1,e1⟩:=I.base.tbls b ps e
   obtain⟨m2,e2⟩:=tbls b _ e1
   exact⟨m1++m2,by rw[e2,Array.append_assoc]⟩
 . obtain⟨m,hn,hl⟩:=I.loc
   refine⟨m,ns m hn,fun i x v e1 e2 e3=>?_⟩
   obtain⟨u,r,l⟩:=hl i x v e1 e2 e3
   refine⟨u,r,?_⟩
   rcases l with l|⟨k,c,e,z⟩
   . exact .inl l
   . exact .inr ⟨k,c,e,cellK x c e _ z⟩
 . obtain⟨v,z⟩:=I.cell x c e
   exact⟨v,cellK x c e v z⟩
 . obtain⟨m,⟨o,_,_,ho,_⟩,_⟩:=I.loc
   exact free _ o (fun z=>(hch _ z).2.1 rfl) ho I.free
 . obtain⟨v,o,ho,hd⟩:=I.cell x c e
   exact free c o (fun z=>(hch c z).2.2.1 x c e rfl) ho (I.freeC x c e)
 . obtain⟨e,n,ne,nf,d⟩:=I.pin p hp
   have nch:p.1 ∉ ch:=fun z=>(hch p.1 z).2.2.2 p hp rfl
   exact⟨keep p.1 p.2 ne nf nch e n,free p.1 p.2 nch e n,ne,nf,d⟩
theorem Inv.un{t':Nat}(I:Inv X pins σ H s)(u:Un X.fs [] H H' s.heap h')(hok:HOk X.prog X.w H' h'):Inv X pins σ H' {s with heap:=h',toks:=t'}:=by
 obtain⟨m,⟨o,es,ep,ho,r⟩,_⟩:=id I.loc
 obtain⟨sl,hL⟩:=u.any ho I.free (by simp)
 exact I.step (g':=s.gens) (d':=s.drawn) (ch:=[]) (fun _ z=>nomatch z) (fun b o _ hb _ e n=>u.keep b o e n hb (by simp)) (fun b o _ hb _ e n=>u.slot b o e n hb (by simp)) (fun b o _ e n=>u.free b o e n (by simp)) (fun b o _ e=>u.there b o e (by simp)) u.tups u.frzs u.tbls (fun m' hm=>by
   obtain⟨o',es',ep',ho',r'⟩:=hm
   rw[ho] at ho';cases ho'
   exact⟨_,es',ep',hL,r'⟩) hok I.bare
theorem Inv.call{g':Array GenState}{t':Nat}{d':Drawn}{ch:List Addr}(I:Inv X pins σ H s)(u:Un (frs X.stack) ch H H' s.heap h')(hok:HOk X.prog X.w H' h')(hg:AllBare g')
   (hch:∀b∈ch,(b∈X.ex\/X.s₀.heap.objs.size<=b)/\b≠X.env.locals/\(∀x c,X.env.cells.lookup x=some c ->c≠b)/\∀p∈X.pn++pins,p.1≠b):
   Inv X pins σ H' {s with heap:=h',gens:=g',drawn:=d',toks:=t'}:=by
 obtain⟨m,⟨o,es,ep,ho,r⟩,_⟩:=id I.loc
 obtain⟨sl,hL⟩:=u.any ho I.free fun z=>(hch _ z).2.1 rfl
 exact I.step (ch:=ch) hch (fun b o hL hb hc e n=>u.keep b o e n (fun z=>(List.mem_cons.mp (I.stkSub b z)).elim hL hb) hc) (fun b o _ _ hc e n=>u.any e n hc) (fun b o hc e n=>u.free b o e n hc) (fun b o hc e=>u.there b o e hc) u.tups u.frzs u.tbls (fun m' hm=>by
   obtain⟨o',es',ep',ho',r'⟩:=hm
   rw[ho] at ho';cases ho'
   exact⟨_,es',ep',hL,r'⟩) hok hg
theorem Inv.turned{t':Nat}{it:Addr}(I:Inv X pins σ H s)(k:∀b o,b≠it ->s.heap.get? b=some o ->h'.get? b=some o)(hn:H it=none)(hL:it≠X.env.locals)
   (h1:it∈X.ex\/X.s₀.heap.objs.size<=it) (h2:∀x c,X.env.cells.lookup x=some c ->c≠it) (h3:∀p∈X.pn++pins,p.1≠it):Inv X pins σ H {s with heap:=h',toks:=t'}:=by
 have nit:∀b u,H b=some u ->b≠it:=fun b u e z=>by rw[z,hn] at e;cases e
 refine I.step (g':=s.gens) (d':=s.drawn) (ch:=[it]) (fun b hb=>?_) (fun b o _ _ hc e _=>k b o (fun z=>hc (by simp[z])) e) (fun b o _ _ hc e _=>⟨o.slots,k b o (fun z=>hc (by simp[z])) e⟩) (fun _ _ _ _ n=>n)
   (fun b o hc e=>⟨o,k b o (fun z=>hc (by simp[z])) e⟩) (fun _ _ e=>e) (fun _ _ _ e=>e) (fun b ps e=>⟨#[],by rw[e];simp⟩) (fun m hm=>?_) (fun b u e=>?_) I.bare
 . have e:b=it:=by simpa using hb
   subst e
   exact⟨h1,hL,h2,h3⟩
 . obtain⟨o,es,ep,ho,r⟩:=hm
   exact⟨o,es,ep,k _ o (Ne.symm hL) ho,r⟩
 . refine(I.hok b u e).stay (fun c v hc q=>k c v ?_ q) (fun _ q=>q) fun _ _ q=>q
   rcases hc with z|z
   . rw[z];exact nit b u e
   . exact nit c _ z
theorem Inv.tok(I:Inv X pins σ H s)(t:Nat):Inv X pins σ H {s with toks:=t}:=I.un (h':=s.heap) (t':=t) Un.refl I.hok
theorem Inv.kept{t':Nat}(I:Inv X pins σ H s)(k:∀b u,s.heap.get? b=some u ->h'.get? b=some u):Inv X pins σ H {s with heap:=h',toks:=t'}:=I.un (Un.kept k) (I.hok.kept k)
theorem Inv.laid{a:Addr}{o:HO}{t':Nat}(I:Inv X pins σ H s)(k:∀b u,s.heap.get? b=some u ->h'.get? b=some u)(hp:s.heap.objs.size<=a)(new:ObjOk X.prog X.w (upd H a o) h' a o):
   Inv X pins σ (upd H a o) {s with heap:=h',toks:=t'}:=I.un (Un.laid k hp (I.hok.fresh hp)) (I.hok.laid k hp new)
theorem Inv.write{x e:Addr}{o:HO}{t':Nat}(I:Inv X pins σ H s)(mu:Mut (H x))(he:e=x\/H e=some (.own x))(k:∀b u,b≠e ->s.heap.get? b=some u ->h'.get? b=some u)(heo:∃u,h'.get? e=some u)
   (new:ObjOk X.prog X.w (upd H x o) h' x o):Inv X pins σ (upd H x o) {s with heap:=h',toks:=t'}:=I.un (Un.write mu he k heo) (I.hok.write mu he k heo new)
theorem Inv.pins_of{pins':List (Addr×Obj)}(I:Inv X pins σ H s)(h:∀p∈pins',s.heap.get? p.1=some p.2/\H p.1=none/\p.1≠X.env.locals/\p.1 ∉ X.fs/\∀v,p.2.data≠ .cell v):Inv X pins' σ H s:=
 ⟨I.ok,I.os,I.bare,I.base,I.loc,I.cell,I.free,I.freeC,fun p hp=>(List.mem_append.mp hp).elim (fun z=>I.pin p (List.mem_append_left _ z)) (h p),I.hok,I.len⟩
theorem C4g{N:List Str}(hN:N.Nodup){i j:Nat}{x:Str}(a:N[i]?=some x)(b:N[j]?=some x):i=j:=by
 obtain⟨h1,e1⟩:=List.getElem?_eq_some_iff.mp a
 obtain⟨h2,e2⟩:=List.getElem?_eq_some_iff.mp b
 exact(List.getElem_inj hN).mp (e1.trans e2.symm)
theorem U4x{M:Model}{A:Around}{E:Value ->Shared ->Prop}{i:Nat}{x:Str}{v:V}{u:Value}{Q:Unit ->Shared ->Prop}(I:Inv X pins σ H s)(hN:X.N.Nodup)(hi:X.N[i]?=some x)(hx:Loc X.env.scope x)(r:RelV v u)
   (h:∀s',Inv X pins (σ.set i (some v)) H s' ->(∃a,Heap.SameBut a s.heap s'.heap/\(a=X.env.locals\/X.env.cells.lookup x=some a)) ->Q () s') (hf:X.fn x=true\/X.env.scope.names.lookup x=some .local:=by first|exact .inl rfl|exact .inr rfl|assumption):wpAny M A (storeName X.env x u) Q E s:=by
 obtain⟨m,hn,hl⟩:=id I.loc
 have hcls:(X.env.scope.kind== .class||(X.env.scope.kind== .module&&X.env.locals !=X.env.globals))=false:=by rw[I.ok.kind];rfl
 have hiσ:i<σ.length:=by rw[I.len];exact(List.getElem?_eq_some_iff.mp hi).1
 have cne:=I.cne
 have tracked:∀{a:Addr} {h':Heap},(∃o,s.heap.get? a=some o/\H a=none) ->Heap.SameBut a s.heap h' ->HOk X.prog X.w H h':=fun{a h'} ha hs b ob e=>by
   obtain⟨_,_,hfree⟩:=ha
   refine(I.hok b ob e).stay (fun c w' hc q=>(hs.2 c ?_).trans q) (fun _ q=>q) fun _ _ q=>q
   rintro rfl
   rcases hc with rfl|hc
   . rw[hfree] at e;cases e
   . rw[hfree] at hc;cases hc
 rcases hx with hk|hk
 . refine wpAny_storeName_local hk hn (fun h' hn' hs=>?_) hcls
   obtain⟨oL,_,_,hoL,_⟩:=id hn
   refine h _ ⟨I.ok,I.os,I.bare,⟨fun b o e n hb hx=>?_,fun b o e n hb hx=>?_,I.base.free,fun b o e hx=>?_,I.base.tups,I.base.frzs,I.base.tbls⟩,⟨_,hn',fun j y v' e1 e2 e3=>?_⟩,fun y c e=>?_,I.free,I.freeC,fun p hp=>?_,tracked ⟨oL,hoL,I.free⟩ hs,by simpa using I.len⟩ ⟨_,hs,.inl rfl⟩
   . exact(hs.2 b (Nat.ne_of_lt (Nat.lt_of_lt_of_le (Heap.lt_size e) I.ok.above))).trans (I.base.keep b o e n hb hx)
   . obtain⟨sl,e1⟩:=I.base.slot b o e n hb hx
     exact⟨sl,(hs.2 b (Nat.ne_of_lt (Nat.lt_of_lt_of_le (Heap.lt_size e) I.ok.above))).trans e1⟩
   . obtain⟨o',e1⟩:=I.base.there b o e hx
     exact⟨o',(hs.2 b (Nat.ne_of_lt (Nat.lt_of_lt_of_le (Heap.lt_size e) I.ok.above))).trans e1⟩
   . by_cases hj:j=i
     . subst hj
       rw[hi] at e1;cases e1
       rw[List.getElem?_set_self hiσ] at e2
       cases e2
       exact⟨u,r,.inl ⟨hk,by simp⟩⟩
     . rw[List.getElem?_set_ne (Ne.symm hj)] at e2
       obtain⟨u',r',q⟩:=hl j y v' e1 e2 e3
       refine⟨u',r',?_⟩
       rcases q with⟨k,e⟩|⟨k,c,e,z⟩
       . refine .inl ⟨k,?_⟩
         have:y≠x:=fun e=>hj (C4g hN e1 (e▸hi))
         simp[this,e]
       . exact .inr ⟨k,c,e,z.sameBut hs (cne y c e)⟩
   . obtain⟨w',z⟩:=I.cell y c e
     exact⟨w',z.sameBut hs (cne y c e)⟩
   . obtain⟨e,n,ne,nf,d⟩:=I.pin p hp
     exact⟨(hs.2 p.1 ne).trans e,n,ne,nf,d⟩
 . have hfn:X.fn x=true:=by
     rcases hf with z|z
     . exact z
     . rw[z] at hk;cases hk
   obtain⟨c,hc⟩:=I.ok.has x (.inl hk)
   obtain⟨w',z⟩:=I.cell x c hc
   refine wpAny_storeName_cell I.ok.kind hk hc z (fun h' hc' hs=>?_)
   obtain⟨oc,hoc,hocd⟩:=id z
   refine h {s with heap:=h'} ⟨I.ok,I.os,I.bare,⟨fun b o e n hb hx=>?_,fun b o e n hb hx=>?_,I.base.free,fun b o e hx=>?_,I.base.tups,I.base.frzs,I.base.tbls⟩,⟨m,hn.sameBut hs (Ne.symm (cne x c hc)),fun j y v' e1 e2 e3=>?_⟩,fun y c' e=>?_,I.free,I.freeC,fun p hp=>?_,tracked ⟨oc,hoc,I.freeC x c hc⟩ hs,by simpa using I.len⟩ ⟨c,hs,.inr hc⟩
   . exact(hs.2 b (Nat.ne_of_lt (Nat.lt_of_lt_of_le (Heap.lt_size e) (I.ok.cab x c hfn hc)))).trans (I.base.keep b o e n hb hx)
   . obtain⟨sl,e1⟩:=I.base.slot b o e n hb hx
     exact⟨sl,(hs.2 b (Nat.ne_of_lt (Nat.lt_of_lt_of_le (Heap.lt_size e) (I.ok.cab x c hfn hc)))).trans e1⟩
   . obtain⟨o',e1⟩:=I.base.there b o e hx
     exact⟨o',(hs.2 b (Nat.ne_of_lt (Nat.lt_of_lt_of_le (Heap.lt_size e) (I.ok.cab x c hfn hc)))).trans e1⟩
   . by_cases hj:j=i
     . subst hj
       rw[hi] at e1;cases e1
       rw[List.getElem?_set_self hiσ] at e2
       cases e2
       exact⟨u,r,.inr ⟨.inl hk,c,hc,hc'⟩⟩
     . rw[List.getElem?_set_ne (Ne.symm hj)] at e2
       obtain⟨u',r',q⟩:=hl j y v' e1 e2 e3
       refine⟨u',r',?_⟩
       rcases q with q|⟨k,c',e,z'⟩
       . exact .inl q
       . refine .inr ⟨k,c',e,z'.sameBut hs ?_⟩
         rintro rfl
         exact hj (C4g hN e1 (I.ok.inj _ _ _ e hc▸hi))
   . by_cases hcc:c'=c
     . subst hcc;exact⟨_,hc'⟩
     . obtain⟨w2,z2⟩:=I.cell y c' e
       exact⟨w2,z2.sameBut hs hcc⟩
   . obtain⟨e,n,ne,nf,d⟩:=I.pin p hp
     refine⟨(hs.2 p.1 ?_).trans e,n,ne,nf,d⟩
     intro q
     rw[q,hoc] at e
     have q':oc=p.2:=Option.some.inj e
     exact d w' (by rw[<-q'];exact hocd)
theorem A9u{M:Model}{A:Around}{E:Value ->Shared ->Prop}{i:Nat}{x:Str}{v:V}{u:Value}{Q:Unit ->Shared ->Prop}(I:Inv X pins σ H s)(hN:X.N.Nodup)(hi:X.N[i]?=some x)(hx:Loc X.env.scope x)(r:RelV v u)
   (h:∀s',Inv X pins (σ.set i (some v)) H s' ->Q () s') (hf:X.fn x=true\/X.env.scope.names.lookup x=some .local:=by first|exact .inl rfl|exact .inr rfl|assumption):wpAny M A (storeName X.env x u) Q E s:=
 U4x I hN hi hx r (fun s' I' _=>h s' I') hf
theorem Inv.call'{s':Shared}{ch:List Addr}(I:Inv X pins σ H s)(ho:s'.os=s.os)(u:Un (frs X.stack) ch H H' s.heap s'.heap)(hok:HOk X.prog X.w H' s'.heap)(hg:AllBare s'.gens)
   (hch:∀b∈ch,(b∈X.ex\/X.s₀.heap.objs.size<=b)/\b≠X.env.locals/\(∀x c,X.env.cells.lookup x=some c ->c≠b)/\∀p∈X.pn++pins,p.1≠b):Inv X pins σ H' s':=by
 obtain⟨h',g',d',t',o'⟩:=s'
 have e:o'=s.os:=ho
 subst e
 exact I.call (g':=g') (t':=t') (d':=d') u hok hg hch
end
noncomputable abbrev XK:=Value ->Option Addr ->Hp ->Prop
noncomputable abbrev St:=List (Option V)
noncomputable abbrev VK:=V ->Hp ->Prop
noncomputable abbrev TE:=St ->Hp ->VK ->Prop
noncomputable abbrev TT:=St ->Hp ->(Bool ->Hp ->Prop) ->Prop
noncomputable abbrev TA:=St ->Hp ->(List V ->Hp ->Prop) ->Prop
structure Ends where
 nx:St ->Hp ->Prop
 rt:VK
 bk:St ->Hp ->Prop:=fun _ _=>False
 ct:St ->Hp ->Prop:=fun _ _=>False
noncomputable abbrev TS:=Ends ->St ->Hp ->Prop
noncomputable def EP (X:Cx) (pins:List (Addr×Obj)) (σ:St) (Q:VK) (u:Value) (s':Shared):Prop:=∃v H',Inv X pins σ H' s'/\RelV v u/\Q v H'
noncomputable def TP (X:Cx) (pins:List (Addr×Obj)) (σ:St) (Q:Bool ->Hp ->Prop) (b:Bool) (s':Shared):Prop:=∃H',Inv X pins σ H' s'/\Q b H'
noncomputable def AP (X:Cx) (pins:List (Addr×Obj)) (σ:St) (Q:List V ->Hp ->Prop) (us:List Value) (s':Shared):Prop:=∃vs H',Inv X pins σ H' s'/\Vals vs us/\Q vs H'
noncomputable def SP (X:Cx) (pins:List (Addr×Obj)) (D:Ends) (f:Flow) (s':Shared):Prop:=
 match f with
 | .next=>∃σ' H',Inv X pins σ' H' s'/\D.nx σ' H'
 | .brk=>∃σ' H',Inv X pins σ' H' s'/\D.bk σ' H'
 | .cont=>∃σ' H',Inv X pins σ' H' s'/\D.ct σ' H'
 | .ret u=>∃v σ' H',Inv X pins σ' H' s'/\RelV v u/\D.rt v H'
noncomputable def PE (X:Cx) (e:Expr) (t:TE):Prop:=
 ∀(pins:List (Addr×Obj)) (s:Shared) (σ:St) (H:Hp) (Q:VK),Inv X pins σ H s ->t σ H Q ->wpAny (model X.prog X.w) X.A (eval e X.env) (EP X pins σ Q) X.xe s
noncomputable def PT (X:Cx) (e:Expr) (t:TT):Prop:=
 ∀(pins:List (Addr×Obj)) (s:Shared) (σ:St) (H:Hp) (Q:Bool ->Hp ->Prop),Inv X pins σ H s ->t σ H Q ->wpAny (model X.prog X.w) X.A (isTrue e X.env (eval e X.env)) (TP X pins σ Q) X.xe s
noncomputable def PW (X:Cx) (e:Expr) (t:TT):Prop:=
 ∀(whole:Sem Value) (pins:List (Addr×Obj)) (s:Shared) (σ:St) (H:Hp) (Q:Bool ->Hp ->Prop),Inv X pins σ H s ->t σ H Q ->wpAny (model X.prog X.w) X.A (isTrue e X.env whole) (TP X pins σ Q) X.xe s
theorem PW.pt{X:Cx}{e:Expr}{t:TT}(h:PW X e t):PT X e t:=h _
noncomputable def PA (X:Cx) (es:List Expr) (t:TA):Prop:=
 ∀(pos:Pos) (pins:List (Addr×Obj)) (s:Shared) (σ:St) (H:Hp) (Q:List V ->Hp ->Prop),Inv X pins σ H s ->t σ H Q ->wpAny (model X.prog X.w) X.A (spliced (backTo pos (starEach es X.env))) (AP X pins σ Q) X.xe s
noncomputable def PS (X:Cx) (st:Stmt) (t:TS):Prop:=
 ∀(pins:List (Addr×Obj)) (s:Shared) (σ:St) (H:Hp) (D:Ends),Inv X pins σ H s ->t D σ H ->wpAny (model X.prog X.w) X.A (exec st X.env) (SP X pins D) X.xe s
noncomputable def PSs (X:Cx) (st:List Stmt) (t:TS):Prop:=
 ∀(pins:List (Addr×Obj)) (s:Shared) (σ:St) (H:Hp) (D:Ends),Inv X pins σ H s ->t D σ H ->wpAny (model X.prog X.w) X.A (execs st X.env) (SP X pins D) X.xe s
theorem thn{α:Type}{t:Sem α}{Q Q':α ->Shared ->Prop}{M:Model}{A:Around}{E:Value ->Shared ->Prop}{s:Shared}(h:wpAny M A t Q E s)(hQ:∀a s,Q a s ->Q' a s):wpAny M A t Q' E s:=wpAny_mono h hQ fun _ _ x=>x
section
variable{X:Cx}
noncomputable def Z8w (i:Nat):TE:=fun σ H Q=>∃v,σ[i]?=some (some v)/\Q v H
noncomputable def tC (v:V):TE:=fun _ H Q=>Q v H
theorem V2v{i:Nat}{x:Str}{pos:Pos}(hN:X.N[i]?=some x)(hv:Vis X.env.scope x)(hd:(x==("__debug__":Str))=false:=by decide)(hcd:(x==("__classdict__":Str))=false:=by decide):PE X (.Name x pos) (Z8w i):=by
 intro pins s σ H Q I h
 obtain⟨v,e,h⟩:=h
 obtain⟨m,hn,hl⟩:=I.loc
 obtain⟨u,r,l⟩:=hl i x v hN e hv
 have fin:EP X pins σ Q u s:=⟨v,H,I,r,h⟩
 rcases l with⟨hk,hm⟩|⟨hk,c,hc,hcell⟩
 . exact wpAny_Name (wpAny_loadName_local I.ok.kind hk hn hm fin) hd
 . rcases hk with hk|hk
   . exact wpAny_Name (wpAny_loadName_cell I.ok.kind hk hc hcell fin) hd
   . exact wpAny_Name (wpAny_loadName_free I.ok.kind hk hc hcell fin hcd) hd
theorem A7{i j pos}:PE X (.Constant (.int i) j pos) (tC (.int i)):=fun _ _ _ H _ I h=>wpAny_Constant_int ⟨.int i,H,I.tok _,⟨_,rfl⟩,h⟩
theorem A2y{b j pos}:PE X (.Constant (.bool b) j pos) (tC (.bl b)):=fun _ _ _ H _ I h=>Constant_bool ⟨.bl b,H,I,rfl,h⟩
theorem V3a{j pos}:PE X (.Constant .none j pos) (tC .non):=fun _ _ _ H _ I h=>Constant_none ⟨.non,H,I,rfl,h⟩
theorem C9{x j pos}:PE X (.Constant (.str x) j pos) (tC (.str x)):=fun _ _ _ H _ I h=>Calls.Constant_str ⟨.str x,H,I.tok _,⟨_,rfl⟩,h⟩
noncomputable def Gl (X:Cx) (x:Str):Prop:=X.env.kindOf x=some .globalImplicit
theorem A1t{E:Value ->Shared ->Prop}{pins:List (Addr×Obj)}{s:Shared}{σ:St}{H:Hp}{x:Str}{u:Value}{pos:Pos}{Q:Value ->Shared ->Prop}(I:Inv X pins σ H s)(hg:Gl X x)(hm:X.mg x=some u)(h:Q u s)
   (hd:(x==("__debug__":Str))=false:=by decide):wpAny (model X.prog X.w) X.A (eval (.Name x pos) X.env) Q E s:=
 Calls.Name_function_global I.ok.kind hg (Calls.loadGlobal_global (by rw[I.ok.glob];exact I.mod.glob.keeps I.bk) hm h) hd
theorem D4q{E:Value ->Shared ->Prop}{pins:List (Addr×Obj)}{s:Shared}{σ:St}{H:Hp}{x:Str}{u:Value}{pos:Pos}{Q:Value ->Shared ->Prop}(I:Inv X pins σ H s)(hg:Gl X x)(hm:X.mg x=none)(hv:bootBuiltins x=some u)(h:Q u s)
   (hn:x≠"__name__":=by decide) (hd:(x==("__debug__":Str))=false:=by decide):wpAny (model X.prog X.w) X.A (eval (.Name x pos) X.env) Q E s:=by
 obtain⟨mb,h1,h2⟩:=I.mod.blt
 exact Calls.Name_function_global I.ok.kind hg (Calls.loadGlobal_builtin (by rw[I.ok.glob];exact I.mod.glob.keeps I.bk) hm (by rw[I.ok.blt];exact h1.keeps I.bk) ((h2 x hn).trans hv) h) hd
theorem Y7n{x:Str}{v:V}{u:Value}{pos:Pos}(hg:Gl X x)(hm:X.mg x=some u)(r:RelV v u)(hd:(x==("__debug__":Str))=false:=by decide):PE X (.Name x pos) (tC v):=
 fun _ _ _ H _ I h=>A1t I hg hm ⟨v,H,I,r,h⟩ hd
theorem Y8f{x:Str}{v:V}{u:Value}{pos:Pos}(hg:Gl X x)(hm:X.mg x=none)(hv:bootBuiltins x=some u)(r:RelV v u)(hn:x≠"__name__":=by decide)(hd:(x==("__debug__":Str))=false:=by decide):PE X (.Name x pos) (tC v):=
 fun _ _ _ H _ I h=>D4q I hg hm hv ⟨v,H,I,r,h⟩ hn hd
variable{a b:Expr}{ta tb:TE}{pos:Pos}
noncomputable def tB (t:TE):TT:=fun σ H Q=>t σ H fun x H1=>∃c,x= .bl c/\Q c H1
theorem V4{e:Expr}{t:TE}(h:PE X e t)(he:∀whole,isTrue e X.env whole=(do let v<-whole;standAt e.pos;holding [v] (truthy v)):=by intro _;rfl):PT X e (tB t):=by
 intro pins s σ H Q I hw
 refine isTrue_plain (thn (h pins s σ H _ I hw) fun v s1 hh_=>?_) (he _)
 obtain⟨x,H1,I1,r1,q1⟩:=hh_
 obtain⟨d,rfl,q⟩:=q1
 cases r1
 exact wpAny_truthy_bool ⟨H1,I1,q⟩
variable{tA tB':TT}{rest:List Expr}
noncomputable def tAnd (t u:TT):TT:=fun σ H Q=>t σ H fun c H1=>if c=true then u σ H1 Q else Q false H1
noncomputable def tOr (t u:TT):TT:=fun σ H Q=>t σ H fun c H1=>if c=true then Q true H1 else u σ H1 Q
noncomputable def tNot (t:TT):TT:=fun σ H Q=>t σ H fun c H1=>Q (!c) H1
theorem B6j(ha:PT X a tA):PW X (.BoolOp .And [a] pos) tA:=by
 intro wh pins s σ H Q I h
 refine isTrue_and (thn (ha pins s σ H Q I h) fun c s1 e=>?_)
 cases c with
 |true=>exact isTrue_and_nil e
 |false=>exact e
theorem A6s(ha:PT X a tA):PW X (.BoolOp .Or [a] pos) tA:=by
 intro wh pins s σ H Q I h
 refine isTrue_or (thn (ha pins s σ H Q I h) fun c s1 e=>?_)
 cases c with
 |false=>exact isTrue_or_nil e
 |true=>exact e
theorem B8j(ha:PT X a tA)(hb:PW X (.BoolOp .And (b::rest) pos) tB'):PW X (.BoolOp .And (a::b::rest) pos) (tAnd tA tB'):=by
 intro wh pins s σ H Q I h
 refine isTrue_and (thn (ha pins s σ H _ I h) fun c s1 ⟨H1,I1,q1⟩=>?_)
 cases c with
 |true=>exact hb wh pins s1 σ H1 Q I1 q1
 |false=>exact⟨H1,I1,q1⟩
theorem B4k(ha:PT X a tA)(hb:PW X (.BoolOp .Or (b::rest) pos) tB'):PW X (.BoolOp .Or (a::b::rest) pos) (tOr tA tB'):=by
 intro wh pins s σ H Q I h
 refine isTrue_or (thn (ha pins s σ H _ I h) fun c s1 ⟨H1,I1,q1⟩=>?_)
 cases c with
 |true=>exact⟨H1,I1,q1⟩
 |false=>exact hb wh pins s1 σ H1 Q I1 q1
theorem A1h(ha:PT X a tA):PT X (.UnaryOp .Not a pos) (tNot tA):=by
 intro pins s σ H Q I h
 exact isTrue_not (ha pins s σ H (fun c H1=>Q (!c) H1) I h)
noncomputable def Z9a (ta tb:TE):TE:=fun σ H Q=>ta σ H fun x H1=>∃c,x= .bl c/\if c=true then tb σ H1 Q else Q (.bl false) H1
noncomputable def tOrV (ta tb:TE):TE:=fun σ H Q=>ta σ H fun x H1=>∃c,x= .bl c/\if c=true then Q (.bl true) H1 else tb σ H1 Q
noncomputable def Z9v (ta:TE):TE:=fun σ H Q=>ta σ H fun x H1=>∃c,x= .bl c/\Q (.bl (!c)) H1
theorem A5h{op}{t:TE}(h:PE X a t):PE X (.BoolOp op [a] pos) t:=fun pins s σ H Q I hw=>BoolOp_one (h pins s σ H Q I hw)
theorem A6r(ha:PE X a ta)(hb:PE X (.BoolOp .And (b::rest) pos) tb):PE X (.BoolOp .And (a::b::rest) pos) (Z9a ta tb):=by
 intro pins s σ H Q I h
 refine BoolOp_and (thn (ha pins s σ H _ I h) fun v s1 hh_=>?_)
 obtain⟨x,H1,I1,r1,q1⟩:=hh_
 obtain⟨c,rfl,q1⟩:=q1
 cases r1
 refine wpAny_truthy_bool ?_
 cases c with
 |true=>exact hb pins s1 σ H1 Q I1 q1
 |false=>exact⟨.bl false,H1,I1,rfl,q1⟩
theorem V2t(ha:PE X a ta)(hb:PE X (.BoolOp .Or (b::rest) pos) tb):PE X (.BoolOp .Or (a::b::rest) pos) (tOrV ta tb):=by
 intro pins s σ H Q I h
 refine BoolOp_or (thn (ha pins s σ H _ I h) fun v s1 hh_=>?_)
 obtain⟨x,H1,I1,r1,q1⟩:=hh_
 obtain⟨c,rfl,q1⟩:=q1
 cases r1
 refine wpAny_truthy_bool ?_
 cases c with
 |false=>exact hb pins s1 σ H1 Q I1 q1
 |true=>exact⟨.bl true,H1,I1,rfl,q1⟩
theorem Z4t(ha:PE X a ta):PE X (.UnaryOp .Not a pos) (Z9v ta):=by
 intro pins s σ H Q I h
 refine UnaryOp_ (thn (ha pins s σ H _ I h) fun v s1 hh_=>?_)
 obtain⟨x,H1,I1,r1,q1⟩:=hh_
 obtain⟨c,rfl,q1⟩:=q1
 cases r1
 exact not_of (wpAny_truthy_bool ⟨.bl (!c),H1,I1,rfl,q1⟩)
noncomputable def tIf (t:TT) (ta tb:TE):TE:=fun σ H Q=>t σ H fun c H1=>if c=true then ta σ H1 Q else tb σ H1 Q
theorem A0a{c:Expr}(hc:PT X c tA)(ha:PE X a ta)(hb:PE X b tb):PE X (.IfExp c a b pos) (tIf tA ta tb):=by
 intro pins s σ H Q I h
 refine wpAny_IfExp (thn (hc pins s σ H _ I h) fun d s1 ⟨H1,I1,q1⟩=>?_)
 cases d with
 |true=>exact ha pins s1 σ H1 Q I1 q1
 |false=>exact hb pins s1 σ H1 Q I1 q1
end
noncomputable def SqL (K:PySem.W.Frag) (H:Hp) (a:Addr) (xs:List V):Prop:=
 Rd H a (.lst xs)\/
   ∃(o:Obj) (its:Array Value) (n:Nat),K.lookup a=some o/\o.cls= .type "list"/\o.dict=none/\o.data= .seq its n/\its.size<=sizeLine/\Vals xs its.toList
noncomputable def SqT (K:PySem.W.Frag) (H:Hp) (a:Addr) (xs:List V):Prop:=
 Rd H a (.tup xs)\/
   ∃(o:Obj) (its:Array Value) (n:Nat),K.lookup a=some o/\o.cls= .type "tuple"/\o.data= .seq its n/\its.size<=sizeLine/\Vals xs its.toList
noncomputable def absV:Value ->Option V
 | .none=>some .non
 | .bool b=>some (.bl b)
 | .int i _=>some (.int i)
 | .str x _=>some (.str x)
 | .bytes b _=>some (.byt b)
 | .float b _=>some (.flt b)
 | .ref a=>some (.ref a)
 | .type n=>some (.ty n)
 |_=>none
theorem RelV.abs{x:V}{u:Value}(r:RelV x u):absV u=some x:=by
 cases x with
 |non=>cases r;rfl
 |bl _=>cases r;rfl
 |int _=>obtain⟨t,rfl⟩:=r;rfl
 |str _=>obtain⟨t,rfl⟩:=r;rfl
 |byt _=>obtain⟨t,rfl⟩:=r;rfl
 |flt _=>obtain⟨t,rfl⟩:=r;rfl
 |ref _=>cases r;rfl
 |ty _=>cases r;rfl
theorem RelV.inj{x y:V}{u:Value}(r:RelV x u)(q:RelV y u):x=y:=Option.some.inj (r.abs.symm.trans q.abs)
theorem Vals.inj:∀{xs ys:List V} {us:List Value},Vals xs us ->Vals ys us ->xs=ys
 |_,_,_,.nil,.nil=>rfl
 |_,_,_,.cons r t,.cons r' t'=>by rw[r.inj r',Vals.inj t t']
section
variable{X:Cx}{pins:List (Addr×Obj)}{σ:St}{H:Hp}{s:Shared}{a:Addr}{xs ys:List V}
theorem SqL.of{K:PySem.W.Frag}(h:H a=some (.lst xs)):SqL K H a xs:= .inl (.inl h)
theorem SqT.of{K:PySem.W.Frag}(h:H a=some (.tup xs)):SqT K H a xs:= .inl (.inl h)
theorem Inv.list(I:Inv X pins σ H s)(h:SqL X.K H a xs):∃its:List Value,Vals xs its/\PlainL s.heap a its.toArray/\xs.length<=sizeLine:=by
 rcases h with h|⟨o,its,n,hk,hc,hd,hs,hz,r⟩
 . obtain⟨z,its,n,r,e⟩:=h.ok I.hok
   exact⟨its,r,⟨_,n,e,rfl,rfl,rfl⟩,z⟩
 . refine⟨its.toList,r,⟨o,n,I.kIn a o hk,hc,hd,by simpa using hs⟩,?_⟩
   have e:=r.length
   simp only[Array.length_toList] at e
   omega
theorem Inv.tuple(I:Inv X pins σ H s)(h:SqT X.K H a xs):∃its:List Value,Vals xs its/\IsTup s.heap a its.toArray/\xs.length<=sizeLine:=by
 rcases h with h|⟨o,its,n,hk,hc,hs,hz,r⟩
 . obtain⟨z,its,r,p⟩:=h.ok I.hok
   exact⟨its,r,p,z⟩
 . refine⟨its.toList,r,⟨o,I.kIn a o hk,hc,n,by simpa using hs⟩,?_⟩
   have e:=r.length
   simp only[Array.length_toList] at e
   omega
theorem Inv.list_inj(I:Inv X pins σ H s)(h:SqL X.K H a xs)(h':SqL X.K H a ys):xs=ys:=by
 obtain⟨its,r,⟨o,n,e,_,_,d⟩,_⟩:=I.list h
 obtain⟨its',r',⟨o',n',e',_,_,d'⟩,_⟩:=I.list h'
 rw[e] at e';cases e'
 rw[d] at d'
 injection d' with d1 _
 have:its=its':=by simpa using congrArg Array.toList d1
 subst this
 exact r.inj r'
theorem Inv.tuple_inj(I:Inv X pins σ H s)(h:SqT X.K H a xs)(h':SqT X.K H a ys):xs=ys:=by
 obtain⟨its,r,⟨o,e,_,n,d⟩,_⟩:=I.tuple h
 obtain⟨its',r',⟨o',e',_,n',d'⟩,_⟩:=I.tuple h'
 rw[e] at e';cases e'
 rw[d] at d'
 injection d' with d1 _
 have:its=its':=by simpa using congrArg Array.toList d1
 subst this
 exact r.inj r'
end
noncomputable abbrev Cx.wish (X:Cx) (E:Value ->Shared ->Prop):Cx:={X with xe:=E}
noncomputable abbrev Cx.nox (X:Cx):Cx:=X.wish fun _ _=>False
theorem Cx.Ok.wish{X:Cx}(ok:X.Ok)(E:Value ->Shared ->Prop):(X.wish E).Ok:=
 ⟨ok.mod,ok.kind,ok.glob,ok.blt,ok.above,ok.inj,ok.has,ok.cab,ok.hd,ok.frames,ok.stk,ok.exf,ok.bs,ok.bsz,ok.noex,ok.exfs,ok.funs,ok.frf⟩
theorem Cx.Ok.unwish{X:Cx}{E:Value ->Shared ->Prop}(ok:(X.wish E).Ok):X.Ok:=
 ⟨ok.mod,ok.kind,ok.glob,ok.blt,ok.above,ok.inj,ok.has,ok.cab,ok.hd,ok.frames,ok.stk,ok.exf,ok.bs,ok.bsz,ok.noex,ok.exfs,ok.funs,ok.frf⟩
section
variable{X:Cx}{pins:List (Addr×Obj)}{σ:St}{H:Hp}{s:Shared}{E:Value ->Shared ->Prop}
theorem Inv.wish(I:Inv X pins σ H s)(E:Value ->Shared ->Prop):Inv (X.wish E) pins σ H s:=⟨I.ok.wish E,I.os,I.bare,I.base,I.loc,I.cell,I.free,I.freeC,I.pin,I.hok,I.len⟩
theorem Inv.unwish(I:Inv (X.wish E) pins σ H s):Inv X pins σ H s:=⟨I.ok.unwish,I.os,I.bare,I.base,I.loc,I.cell,I.free,I.freeC,I.pin,I.hok,I.len⟩
theorem SP.unwish{D:Ends}{f:Flow}{s':Shared}(h:SP (X.wish E) pins D f s'):SP X pins D f s':=by
 cases f with
 |next=>obtain⟨σ',H',I,q⟩:=h;exact⟨σ',H',I.unwish,q⟩
 |brk=>obtain⟨σ',H',I,q⟩:=h;exact⟨σ',H',I.unwish,q⟩
 |cont=>obtain⟨σ',H',I,q⟩:=h;exact⟨σ',H',I.unwish,q⟩
 |ret u=>obtain⟨v,σ',H',I,r,q⟩:=h;exact⟨v,σ',H',I.unwish,r,q⟩
theorem PSs.nox{st:List Stmt}{t:TS}(h:PSs X.nox st t):PSs X st t:=fun pins s σ H D I hw=>
 wpAny_mono (h pins s σ H D (I.wish _) hw) (fun _ _ q=>q.unwish) fun _ _ z=>False.elim z
end
section
variable{X:Cx}{st:Stmt}{rest:List Stmt}{t u:TS}{e:Expr}{te:TE}{pos:Pos}
noncomputable def A0aa:TS:=fun D σ H=>D.nx σ H
noncomputable def Z5f (t u:TS):TS:=fun D σ H=>t {D with nx:=u D} σ H
theorem D3:PSs X [] A0aa:=fun _ _ σ H _ I h=>wpAny_execs_nil ⟨σ,H,I,h⟩
theorem A6(h1:PS X st t)(h2:PSs X rest u):PSs X (st::rest) (Z5f t u):=by
 intro pins s σ H D I h
 refine wpAny_execs_cons (thn (h1 pins s σ H {D with nx:=u D} I h) fun f s1 q=>?_)
 cases f with
 | next=>
   obtain⟨σ',H',I',q⟩:=q
   exact h2 pins s1 σ' H' D I' q
 |ret v=>exact q
 |brk=>exact q
 |cont=>exact q
theorem A8(h1:PS X st t):PSs X [st] t:=by
 intro pins s σ H D I h
 refine wpAny_execs_cons (thn (h1 pins s σ H D I h) fun f s1 q=>?_)
 cases f with
 |next=>exact wpAny_execs_nil q
 |ret v=>exact q
 |brk=>exact q
 |cont=>exact q
theorem Inv.quiet{pins:List (Addr×Obj)}{σ:St}{H:Hp}{s:Shared}(I:Inv X pins σ H s):interactive X.env=false:=by simp[interactive,I.ok.kind]
noncomputable def Z8x (te:TE):TS:=fun D σ H=>te σ H fun _ H1=>D.nx σ H1
theorem V5(he:PE X e te)(hs:swapsWith e none pos.line X.env=pure false:=by rfl):PS X (.Expr e pos) (Z8x te):=by
 intro pins s σ H D I h
 exact wpAny_Expr_any (thn (he pins s σ H _ I h) fun v s1 ⟨x,H1,I1,r1,q1⟩=>⟨σ,H1,I1,q1⟩) I.quiet hs
noncomputable def tRet (te:TE):TS:=fun D σ H=>te σ H D.rt
theorem B7(he:PE X e te):PS X (.Return (some e) pos) (tRet te):=by
 intro pins s σ H D I h
 exact wpAny_Return_some (thn (he pins s σ H _ I h) fun v s1 ⟨x,H1,I1,r1,q1⟩=>⟨x,σ,H1,I1,r1,q1⟩)
noncomputable def tIfS (c:TT) (t u:TS):TS:=fun D σ H=>c σ H fun b H1=>if b=true then t D σ H1 else u D σ H1
theorem G0{c:Expr}{a b:List Stmt}{tc:TT}(hc:PT X c tc)(ha:PSs X a t)(hb:PSs X b u):PS X (.If c a b pos) (tIfS tc t u):=by
 intro pins s σ H D I h
 refine wpAny_If (thn (hc pins s σ H _ I h) fun d s1 ⟨H1,I1,q1⟩=>?_)
 cases d with
 |true=>exact ha pins s1 σ H1 D I1 q1
 |false=>exact hb pins s1 σ H1 D I1 q1
end
noncomputable abbrev TG:=V ->St ->Hp ->(St ->Hp ->Prop) ->Prop
noncomputable abbrev TGs:=List V ->St ->Hp ->(St ->Hp ->Prop) ->Prop
noncomputable def PG (X:Cx) (target:Expr) (t:TG):Prop:=
 ∀ (pins:List (Addr×Obj)) (s:Shared) (σ:St) (H:Hp) (v:V) (u:Value) (Q:St ->Hp ->Prop),Inv X pins σ H s ->RelV v u ->t v σ H Q ->
   wpAny (model X.prog X.w) X.A (assign target X.env u) (fun _ s'=>∃σ' H',Inv X pins σ' H' s'/\Q σ' H') X.xe s
noncomputable def PGs (X:Cx) (ts:List Expr) (t:TGs):Prop:=
 ∀ (pins:List (Addr×Obj)) (s:Shared) (σ:St) (H:Hp) (vs:List V) (us:List Value) (Q:St ->Hp ->Prop),Inv X pins σ H s ->Vals vs us ->t vs σ H Q ->
   wpAny (model X.prog X.w) X.A (assignInOrder ((assignEach ts X.env).map (·.2)) us) (fun _ s'=>∃σ' H',Inv X pins σ' H' s'/\Q σ' H') X.xe s
noncomputable abbrev TIp:=V ->V ->Hp ->VK ->Prop
noncomputable def PIp (X:Cx) (op:Operator) (t:TIp):Prop:=
 ∀ (pins:List (Addr×Obj)) (s:Shared) (σ:St) (H:Hp) (x y:V) (v u:Value) (Q:VK),Inv X pins σ H s ->RelV x v ->RelV y u ->t x y H Q ->
   wpAny (model X.prog X.w) X.A (inplaceOp op v u) (EP X pins σ Q) X.xe s
section
variable{X:Cx}{pos:Pos}
noncomputable def V2g (i:Nat):TG:=fun v σ H Q=>Q (σ.set i (some v)) H
theorem A0b{i:Nat}{x:Str}(hN:X.N.Nodup)(hi:X.N[i]?=some x)(hx:Loc X.env.scope x)(hf:X.fn x=true\/X.env.scope.names.lookup x=some .local:=by first|exact .inl rfl|exact .inr rfl|assumption):PG X (.Name x pos) (V2g i):=by
 intro pins s σ H v u Q I r h
 exact wpAny_assign_Name (A9u I hN hi hx r (fun s' I'=>⟨_,H,I',h⟩) hf)
noncomputable def gNil:TGs:=fun vs σ H Q=>vs=[]/\Q σ H
noncomputable def A0bf (t:TG) (u:TGs):TGs:=fun vs σ H Q=>∃v r,vs=v::r/\t v σ H fun σ' H'=>u r σ' H' Q
theorem D3u:PGs X [] gNil:=by
 intro pins s σ H vs us Q I r h
 obtain⟨e,h⟩:=h
 subst e
 cases r
 exact assignInOrder_nil ⟨σ,H,I,h⟩
theorem A5u{e:Expr}{es:List Expr}{t:TG}{u:TGs}(h1:PG X e t)(h2:PGs X es u)
   (hs:(assignEach (e::es) X.env).map (·.2)=assign e X.env::(assignEach es X.env).map (·.2):=by rfl):PGs X (e::es) (A0bf t u):=by
 intro pins s σ H vs us Q I r h
 obtain⟨v,vr,e1,h⟩:=h
 subst e1
 cases r with
 | cons r rr=>
   rw[hs]
   refine assignInOrder_cons (thn (h1 pins s σ H _ _ _ I r h) fun _ s1 hh_=>?_)
   obtain⟨σ1,H1,I1,q1⟩:=hh_
   exact h2 pins s1 σ1 H1 _ _ Q I1 rr q1
noncomputable def Z5c (K:PySem.W.Frag) (n:Nat) (t:TGs):TG:=fun v σ H Q=>∃a xs,v= .ref a/\SqT K H a xs/\xs.length=n/\t xs σ H Q
theorem V1x{es:List Expr}{k:Nat}{t:TGs}{n:Nat}(hc:X.calm=true)(h:PGs X es t)
   (hn:(assignEach es X.env).length=n:=by rfl) (hst:(assignEach es X.env).findIdx? (·.1)=none:=by rfl):PG X (.Tuple es k pos) (Z5c X.K n t):=by
 intro pins s σ H v u Q I r hw
 obtain⟨a,xs,e1,hq,hl,hw⟩:=hw
 subst e1
 cases r
 obtain⟨its,rv,ht,hz⟩:=I.tuple hq
 refine assign_Tuple_tuple (I.ok.hd hc) ht (by simp[hn, <-hl,rv.length]) hst fun h' hx=>?_
 have I1:Inv X pins σ H {s with heap:=h'}:=I.kept (t':=s.toks) fun b o e=>hx b o (Nat.ne_of_lt (Heap.lt_size e)) e
 exact h pins _ σ H xs _ Q I1 (by simpa using rv) hw
noncomputable def Z9u (te:TE) (g:TG):TS:=fun D σ H=>te σ H fun x H1=>g x σ H1 D.nx
theorem V1b{tg e:Expr}{te:TE}{g:TG}(he:PE X e te)(hg:PG X tg g)(hs:swapsWithSole [tg] e pos.line X.env=pure false:=by rfl)(hw:swappedStores [tg] e X.env=pure none:=by rfl)
   (h1:(assignEach [tg] X.env).map (·.2)=[assign tg X.env]:=by rfl):PS X (.Assign [tg] e pos) (Z9u te g):=by
 intro pins s σ H D I h
 refine wpAny_Assign_stores (thn (he pins s σ H _ I h) fun v s1 hh_=>?_) hs hw
 obtain⟨x,H1,I1,r1,q1⟩:=hh_
 rw[h1]
 exact thn (hg pins s1 σ H1 x v _ I1 r1 q1) fun _ s2 q=>q
theorem D7{i:Nat}{x:Str}{e:Expr}{te:TE}{pos':Pos}(hN:X.N.Nodup)(hi:X.N[i]?=some x)(hx:Loc X.env.scope x)(he:PE X e te)(hs:swapsWith e (some (.Name x pos')) pos.line X.env=pure false:=by rfl)(hf:X.fn x=true\/X.env.scope.names.lookup x=some .local:=by first|exact .inl rfl|exact .inr rfl|assumption):
   PS X (.Assign [.Name x pos'] e pos) (Z9u te (V2g i)):=by
 intro pins s σ H D I h
 refine wpAny_Assign_Name (thn (he pins s σ H _ I h) fun v s1 hh_=>?_) hs
 obtain⟨y,H1,I1,r1,q1⟩:=hh_
 exact A9u I1 hN hi hx r1 (fun s2 I2=>⟨_,H1,I2,q1⟩) hf
noncomputable def tAug (i:Nat) (te:TE) (ti:TIp):TS:=fun D σ H=>∃x,σ[i]?=some (some x)/\te σ H fun y H1=>ti x y H1 fun z H2=>D.nx (σ.set i (some z)) H2
theorem Z4f{i:Nat}{x:Str}{e:Expr}{te:TE}{op:Operator}{ti:TIp}{pos':Pos}(hN:X.N.Nodup)(hi:X.N[i]?=some x)(hx:Loc X.env.scope x)(he:PE X e te)(ho:PIp X op ti)(hf:X.fn x=true\/X.env.scope.names.lookup x=some .local:=by first|exact .inl rfl|exact .inr rfl|assumption):
   PS X (.AugAssign (.Name x pos') op e pos) (tAug i te ti):=by
 intro pins s σ H D I h
 obtain⟨v,e1,h⟩:=h
 obtain⟨m,hn,hl⟩:=I.loc
 have vis:Vis X.env.scope x:=by rcases hx with k|k;exact .inl k;exact .inr (.inl k)
 obtain⟨u,r,l⟩:=hl i x v hi e1 vis
 refine wpAny_AugAssign_Name ?_
 have go:wpAny (model X.prog X.w) X.A (eval e X.env) (fun w s₂=>wpAny (model X.prog X.w) X.A (inplaceOp op u w) (fun r s₃=>wpAny (model X.prog X.w) X.A (storeName X.env x r) (fun _=>SP X pins D .next) X.xe s₃) X.xe s₂) X.xe s:=by
   refine thn (he pins s σ H _ I h) fun w s1 hh_=>?_
   obtain⟨y,H1,I1,r1,q1⟩:=hh_
   refine thn (ho pins s1 σ H1 v y u w _ I1 r r1 q1) fun z s2 hh_=>?_
   obtain⟨zv,H2,I2,r2,q2⟩:=hh_
   exact A9u I2 hN hi hx r2 (fun s3 I3=>⟨_,H2,I3,q2⟩) hf
 rcases l with⟨hk,hm⟩|⟨hk,c,hc,hcell⟩
 . exact wpAny_loadName_local I.ok.kind hk hn hm go
 . rcases hk with hk|hk
   . exact wpAny_loadName_cell I.ok.kind hk hc hcell go
   . rcases hx with k|k
     . have:X.env.scope.names.lookup x=some .free:=hk
       rw[k] at this;cases this
     . have:X.env.scope.names.lookup x=some .free:=hk
       rw[k] at this;cases this
noncomputable def ipI (f:Int ->Int ->Int):TIp:=fun x y H Q=>∃i j,x= .int i/\y= .int j/\Q (.int (f i j)) H
theorem Z6b:PIp X .Add (ipI fun i j=>i+j):=by
 intro pins s σ H x y v u Q I r1 r2 h
 obtain⟨i,j,e1,e2,q⟩:=h
 subst e1;subst e2
 obtain⟨t,rfl⟩:=r1
 obtain⟨t',rfl⟩:=r2
 exact iadd_int ⟨.int _,H,I.tok _,⟨_,rfl⟩,q⟩
end
section
variable{X:Cx}{pos:Pos}
noncomputable def U9y (c:TT) (tb:TS):TS:=fun D σ H=>∃W:Nat ->St ->Hp ->Prop,(∃m,W m σ H)/\∀m σ H,W m σ H ->
 c σ H fun b H1=>if b=true then∃N:St ->Hp ->Prop,(∀σ' H',N σ' H' ->∃m',m'<m/\W m' σ' H')/\tb {D with nx:=N,ct:=N,bk:=D.nx} σ H1 else D.nx σ H1
theorem C4t{c:Expr}{body:List Stmt}{tc:TT}{tb:TS}(hp:PassesOwn (model X.prog X.w) X.A X.env X.xe)(hc:PT X c tc)(hb:PSs X body tb):PS X (.While c body [] pos) (U9y tc tb):=by
 intro pins s σ H D I h
 obtain⟨W,⟨m0,w0⟩,turn⟩:=h
 refine wpAny_While (codeAny_whileLoop (fun n s'=>∃σ' H',Inv X pins σ' H' s'/\W n σ' H') ?_ m0 ⟨σ,H,I,w0⟩)
 rintro n s1 ⟨σ1,H1,I1,w1⟩
 refine wpAny_passesOwn hp (thn (hc pins s1 σ1 H1 _ I1 (turn n σ1 H1 w1)) fun b s2 ⟨H2,I2,q2⟩=>?_)
 cases b with
 | true=>
   obtain⟨N,hN,q2⟩:=q2
   rw[if_pos rfl]
   refine wpAny_passesOwn hp (thn (hb pins s2 σ1 H2 _ I2 q2) fun f s3 q3=>?_)
   cases f with
   | next=>
     obtain⟨σ3,H3,I3,n3⟩:=q3
     obtain⟨m',hm,w3⟩:=hN σ3 H3 n3
     exact⟨m',hm,σ3,H3,I3,w3⟩
   | cont=>
     obtain⟨σ3,H3,I3,n3⟩:=q3
     obtain⟨m',hm,w3⟩:=hN σ3 H3 n3
     exact⟨m',hm,σ3,H3,I3,w3⟩
   |brk=>exact q3
   |ret v=>exact q3
 | false=>
   rw[if_neg Bool.false_ne_true]
   exact wpAny_execs_nil ⟨σ1,H2,I2,q2⟩
end
structure It where
 go:Nat ->Hp ->Prop
 yld:Nat ->Hp ->V ->Hp ->Prop
 stop:Nat ->Hp ->Prop
noncomputable def A4g (X:Cx) (pins:List (Addr×Obj)) (H:Hp) (b:Addr):Prop:=
 H b=none/\b≠X.env.locals/\b ∉ X.fs/\(b∈X.ex\/X.s₀.heap.objs.size<=b)/\(∀x c,X.env.cells.lookup x=some c ->c≠b)/\∀p∈X.pn++pins,p.1≠b
theorem Inv.fpOk{X:Cx}{pins:List (Addr×Obj)}{σ:St}{H H':Hp}{s:Shared}{b:Addr}(I:Inv X pins σ H s)(hb:s.heap.objs.size<=b)(hn:H' b=none):A4g X pins H' b:=by
 refine⟨hn,Nat.ne_of_gt (Nat.lt_of_lt_of_le I.lt hb),I.nofs hb,.inr (Nat.le_trans I.sz hb),fun x c e z=>?_,fun p hp z=>?_⟩
 . obtain⟨v,q⟩:=I.cell x c e
   exact absurd (Nat.lt_of_lt_of_le q.lt (by rw[z];exact hb)) (Nat.lt_irrefl _)
 . exact absurd (Nat.lt_of_lt_of_le (Heap.lt_size (I.pin p hp).1) (by rw[z];exact hb)) (Nat.lt_irrefl _)
structure Turn(P:Program)(w:World)(K:PySem.W.Frag)(tg:Expr)(J:It)(fp:List Addr)(it:Addr)(tn:Nat ->Heap ->Prop):Prop where
 mem:it∈fp
 obj:∀i h,tn i h ->∀b∈fp,∃o,h.get? b=some o/\∀v,o.data≠ .cell v
 keep:∀i h h',tn i h ->(∀b∈fp,∀o,h.get? b=some o ->h'.get? b=some o) ->tn i h'
 item:∀(X:Cx),X.prog=P ->X.w=w ->X.K=K ->X.calm=true ->∀(i:Nat) (pins:List (Addr×Obj)) (s:Shared) (σ:St) (H:Hp) (E:Value ->Shared ->Prop),Inv X pins σ H s ->(∀b∈fp,A4g X pins H b) ->tn i s.heap ->J.go i H ->
   wpAny (model P w) X.A (pyNext (.ref it)) (fun r s1=>∃u,r=some u/\
     wpAny (model P w) X.A (letOwnedTupleGo tg (.ref it) u) (fun _ s2=>∃x H',Inv X pins σ H' s2/\RelV x u/\J.yld i H x H'/\tn (i+1) s2.heap/\∀b∈fp,H' b=none) E s1) E s
 done:∀(X:Cx),X.prog=P ->X.w=w ->X.K=K ->X.calm=true ->∀(i:Nat) (pins:List (Addr×Obj)) (s:Shared) (σ:St) (H:Hp) (E:Value ->Shared ->Prop),Inv X pins σ H s ->(∀b∈fp,A4g X pins H b) ->tn i s.heap ->J.stop i H ->
   wpAny (model P w) X.A (pyNext (.ref it)) (fun r s1=>r=none/\Inv X pins σ H s1) E s
 self:∀(A:Around) (i:Nat) (s:Shared) (Q:Value ->Shared ->Prop) (E:Value ->Shared ->Prop),tn i s.heap ->Q (.ref it) s ->wpAny (model P w) A (pyIter (.ref it)) Q E s
noncomputable abbrev TI:=St ->Hp ->(It ->Hp ->Prop) ->Prop
noncomputable def PIE (X:Cx) (pins:List (Addr×Obj)) (σ:St) (tg:Expr) (R:It ->Hp ->Prop) (itv:Value) (s2:Shared):Prop:=
 ∃(it:Addr) (fp:List Addr) (tn:Nat ->Heap ->Prop) (J:It) (H':Hp),itv= .ref it/\Inv X pins σ H' s2/\Turn X.prog X.w X.K tg J fp it tn/\tn 0 s2.heap/\(∀b∈fp,A4g X pins H' b)/\R J H'
noncomputable def PI (X:Cx) (tg iter:Expr) (wi:TI):Prop:=
 ∀ (pins:List (Addr×Obj)) (s:Shared) (σ:St) (H:Hp) (R:It ->Hp ->Prop),Inv X pins σ H s ->wi σ H R ->
   wpAny (model X.prog X.w) X.A (eval iter X.env) (fun v s1=>wpAny (model X.prog X.w) X.A (pyIter v) (PIE X pins σ tg R) X.xe s1) X.xe s
theorem U2c{M:Model}{A:Around}{E:Value ->Shared ->Prop}{s:Shared}{tg:Expr}{it:Addr}{u:Value}{o:Obj}{n:String}{vs:Array Value}{Q:Unit ->Shared ->Prop}(ho:s.heap.get? it=some o)(hc:o.cls= .type n)(hd:o.data= .fields vs)
   (hn: ["enumerate","zip","dict_itemiterator","dict_reverseitemiterator","odict_iterator","itertools.zip_longest","itertools.pairwise"].contains n=false) (hQ:Q () s):wpAny M A (letOwnedTupleGo tg (.ref it) u) Q E s:=by
 unfold letOwnedTupleGo
 cases tg <;>first
   |exact wpAny_pure hQ
   |(cases u<;>first
       |exact wpAny_pure hQ
       | (refine wpAny_bind (wpAny_load ho ?_)
          rw[hc,hd]
          show wpAny M A (if(["enumerate","zip","dict_itemiterator","dict_reverseitemiterator","odict_iterator","itertools.zip_longest","itertools.pairwise"].contains n&&vs[0]?==some (rawInt _))=true then _ else _) Q E s
          rw[if_neg (by intro h;rw[hn,Bool.false_and] at h;cases h)]
          exact wpAny_pure hQ))
noncomputable def Itl (K:PySem.W.Frag) (a:Addr):It:=
 ⟨fun i H=>∃xs x,SqL K H a xs/\xs[i]?=some x,fun i H x H'=>H'=H/\∀xs,SqL K H a xs ->xs[i]?=some x,fun i H=>∃xs,SqL K H a xs/\xs.length<=i⟩
noncomputable def Itt (K:PySem.W.Frag) (a:Addr):It:=
 ⟨fun i H=>∃xs x,SqT K H a xs/\xs[i]?=some x,fun i H x H'=>H'=H/\∀xs,SqT K H a xs ->xs[i]?=some x,fun i H=>∃xs,SqT K H a xs/\xs.length<=i⟩
noncomputable def Itr (lo:Int) (n:Nat):It:=⟨fun i _=>i<n,fun i H x H'=>H'=H/\x= .int (lo+i),fun i _=>n<=i⟩
theorem U5w{P:Program}{w:World}{K:PySem.W.Frag}{tg:Expr}(a it:Addr):Turn P w K tg (Itl K a) [it] it (fun i h=>h.IsListIter it a i) where
 mem:=by simp
 obj:=fun i h st b hb=>by
   have e:b=it:=by simpa using hb
   subst e
   obtain⟨o,e,c,d⟩:=st
   exact⟨o,e,fun v z=>by rw[d] at z;cases z⟩
 keep:=fun i h h' st k=>st.at fun o e=>k it (by simp) o e
 item:=by
   intro X hP hw hK hc i pins s σ H E I hf st hg
   subst hP hw hK
   obtain⟨xs,x,hq,hx⟩:=hg
   obtain⟨its,rv,p,hz⟩:=I.list hq
   obtain⟨u,hu,ru⟩:=rv.get hx
   obtain⟨f0,f1,f2,f3,f4,f5⟩:=hf it (by simp)
   refine wpAny_pyNext_list_item st p.isList (x:=u) (by simpa using hu) fun h' st' sb=>?_
   have I1:Inv X pins σ H {s with heap:=h'}:=I.turned (t':=s.toks) (fun b o hb e=>(sb.2 b hb).trans e) f0 f1 f3 f4 f5
   obtain⟨o,e,c,d⟩:=id st'
   exact⟨u,rfl,U2c (s:={s with heap:=h'}) e c d (by decide) ⟨x,H,I1,ru,⟨rfl,fun ys hy=>by rw[I.list_inj hy hq];exact hx⟩,st',fun b hb=>(hf b hb).1⟩⟩
 done:=by
   intro X hP hw hK hc i pins s σ H E I hf st hg
   subst hP hw hK
   obtain⟨xs,hq,hx⟩:=hg
   obtain⟨its,rv,p,hz⟩:=I.list hq
   obtain⟨f0,f1,f2,f3,f4,f5⟩:=hf it (by simp)
   have hl:=rv.length
   exact wpAny_pyNext_list_end (I.ok.hd hc) st p.isList (by simp;omega) fun h' eb=>⟨rfl,I.turned (t':=s.toks) (fun b o hb e=>eb b o hb e) f0 f1 f3 f4 f5⟩
 self:=fun _ _ _ _ _ st h=>wpAny_pyIter_listiter st h
theorem J1b{P:Program}{w:World}{K:PySem.W.Frag}{tg:Expr}(a it:Addr):Turn P w K tg (Itt K a) [it] it (fun i h=>h.IsTupleIter it a i) where
 mem:=by simp
 obj:=fun i h st b hb=>by
   have e:b=it:=by simpa using hb
   subst e
   obtain⟨o,e,c,d⟩:=st
   exact⟨o,e,fun v z=>by rw[d] at z;cases z⟩
 keep:=fun i h h' st k=>st.at fun o e=>k it (by simp) o e
 item:=by
   intro X hP hw hK hc i pins s σ H E I hf st hg
   subst hP hw hK
   obtain⟨xs,x,hq,hx⟩:=hg
   obtain⟨its,rv,p,hz⟩:=I.tuple hq
   obtain⟨u,hu,ru⟩:=rv.get hx
   obtain⟨f0,f1,f2,f3,f4,f5⟩:=hf it (by simp)
   refine wpAny_pyNext_tuple_item st (show s.heap.IsTuple a its.toArray from p) (x:=u) (by simpa using hu) fun h' st' sb=>?_
   have I1:Inv X pins σ H {s with heap:=h'}:=I.turned (t':=s.toks) (fun b o hb e=>(sb.2 b hb).trans e) f0 f1 f3 f4 f5
   obtain⟨o,e,c,d⟩:=id st'
   exact⟨u,rfl,U2c (s:={s with heap:=h'}) e c d (by decide) ⟨x,H,I1,ru,⟨rfl,fun ys hy=>by rw[I.tuple_inj hy hq];exact hx⟩,st',fun b hb=>(hf b hb).1⟩⟩
 done:=by
   intro X hP hw hK hc i pins s σ H E I hf st hg
   subst hP hw hK
   obtain⟨xs,hq,hx⟩:=hg
   obtain⟨its,rv,p,hz⟩:=I.tuple hq
   obtain⟨f0,f1,f2,f3,f4,f5⟩:=hf it (by simp)
   have hl:=rv.length
   exact wpAny_pyNext_tuple_end (I.ok.hd hc) st (show s.heap.IsTuple a its.toArray from p) (by simp;omega) fun h' eb=>⟨rfl,I.turned (t':=s.toks) (fun b o hb e=>eb b o hb e) f0 f1 f3 f4 f5⟩
 self:=fun _ _ _ _ _ st h=>wpAny_pyIter_tupleiter st h
theorem G9j{P:Program}{w:World}{K:PySem.W.Frag}{tg:Expr}(it:Addr)(lo:Int)(n:Nat):Turn P w K tg (Itr lo n) [it] it (fun i h=>IsRangeIter h it (lo+(i:Nat)*1) ((n:Int)- (i:Nat)) 1) where
 mem:=by simp
 obj :=fun i h st b hb=>by
   have e:b=it:=by simpa using hb
   subst e
   exact⟨_,st,fun v z=>by
     have z':Data.fields _=Data.cell v:=z
     cases z'⟩
 keep:=fun i h h' st k=>k it (by simp) _ st
 item:=by
   intro X hP hw hK hc i pins s σ H E I hf st hg
   subst hP hw hK
   obtain⟨f0,f1,f2,f3,f4,f5⟩:=hf it (by simp)
   have W:=Walks.range (prog:=X.prog) (w:=X.w) (I.ok.hd hc) it lo 1 n
   refine W.item i s _ _ hg st fun v h' tk hv st' kk=>?_
   obtain⟨t,rfl⟩:=hv
   have I1:Inv X pins σ H {s with heap:=h',toks:=tk}:=I.turned (fun b o hb e=>kk b o (by simpa using hb) e) f0 f1 f3 f4 f5
   refine⟨_,rfl,U2c (s:={s with heap:=h',toks:=tk}) (n:="range_iterator") st' rfl rfl (by decide) ⟨.int (lo+i),H,I1,⟨t,?_⟩,⟨rfl,rfl⟩,st',fun b hb=>(hf b hb).1⟩⟩
   rw[Int.mul_one]
 done:=by
   intro X hP hw hK hc i pins s σ H E I hf st hg
   subst hP hw hK
   obtain⟨f0,f1,f2,f3,f4,f5⟩:=hf it (by simp)
   exact wpAny_pyNext_range_end (I.ok.hd hc) st (by have:n<=i:=hg;omega) fun h' eb=>⟨rfl,I.turned (t':=s.toks) (fun b o hb e=>eb b o hb e) f0 f1 f3 f4 f5⟩
 self:=fun _ _ _ _ _ st h=>wpAny_pyIter_rangeiter st h
section
variable{X:Cx}{tg:Expr}
noncomputable def V1s (K:PySem.W.Frag) (tl:TE):TI:=fun σ H R=>tl σ H fun x H1=>∃a,x= .ref a/\(∃xs,SqL K H1 a xs)/\R (Itl K a) H1
noncomputable def iTup (K:PySem.W.Frag) (tl:TE):TI:=fun σ H R=>tl σ H fun x H1=>∃a,x= .ref a/\(∃xs,SqT K H1 a xs)/\R (Itt K a) H1
theorem C2z{l:Expr}{tl:TE}(hl:PE X l tl):PI X tg l (V1s X.K tl):=by
 intro pins s σ H R I h
 refine thn (hl pins s σ H _ I h) fun v s1 hh_=>?_
 obtain⟨x,H1,I1,r1,q1⟩:=hh_
 obtain⟨a,e,⟨xs,hq⟩,q⟩:=q1
 subst e
 cases r1
 obtain⟨its,rv,p,hz⟩:=I1.list hq
 refine wpAny_pyIter_list p.isList ?_
 refine⟨s1.heap.objs.size,[s1.heap.objs.size],_,_,H1,rfl,I1.kept (t':=s1.toks) fun b o e=>Heap.get?_push_of_some _ e,U5w a _,⟨_,Heap.get?_push_size _ rfl,rfl,rfl⟩,fun b hb=>?_,q⟩
 have e:b=s1.heap.objs.size:=by simpa using hb
 subst e
 exact I1.fpOk (Nat.le_refl _) (I1.hok.fresh (Nat.le_refl _))
theorem Z5e{l:Expr}{tl:TE}(hl:PE X l tl):PI X tg l (iTup X.K tl):=by
 intro pins s σ H R I h
 refine thn (hl pins s σ H _ I h) fun v s1 hh_=>?_
 obtain⟨x,H1,I1,r1,q1⟩:=hh_
 obtain⟨a,e,⟨xs,hq⟩,q⟩:=q1
 subst e
 cases r1
 obtain⟨its,rv,p,hz⟩:=I1.tuple hq
 refine wpAny_pyIter_tuple (show s1.heap.IsTuple a its.toArray from p) ?_
 refine⟨s1.heap.objs.size,[s1.heap.objs.size],_,_,H1,rfl,I1.kept (t':=s1.toks) fun b o e=>Heap.get?_push_of_some _ e,J1b a _,⟨_,Heap.get?_push_size _ rfl,rfl,rfl⟩,fun b hb=>?_,q⟩
 have e:b=s1.heap.objs.size:=by simpa using hb
 subst e
 exact I1.fpOk (Nat.le_refl _) (I1.hok.fresh (Nat.le_refl _))
theorem U9q{pins:List (Addr×Obj)}{σ:St}{H:Hp}{s:Shared}{R:It ->Hp ->Prop}{E:Value ->Shared ->Prop}{lo hi:Int}{t u v:Tok}{tk:Nat}(I:Inv X pins σ H s)(h1: -(2^62)<=lo)(h2:lo<2^62)(h3: -(2^62)<=hi)(h4:hi<2^62)
   (q:R (Itr lo (hi-lo).toNat) H):wpAny (model X.prog X.w) X.A (pyIter (.ref s.heap.objs.size)) (PIE X pins σ tg R) E {s with heap:=s.heap.push {cls:= .type "range",data:= .fields #[.int lo t,.int hi u,.int 1 v]},toks:=tk}:=by
 refine wpAny_pyIter_range (IsRange.new ..) (small_one h1 h2 h3 h4) ?_
 have I1:Inv X pins σ H {s with heap:=s.heap.push {cls:= .type "range",data:= .fields #[.int lo t,.int hi u,.int 1 v]},toks:=tk}:=I.kept fun b o e=>Heap.get?_push_of_some _ e
 refine⟨(s.heap.push {cls:= .type "range",data:= .fields #[.int lo t,.int hi u,.int 1 v]}).objs.size,[(s.heap.push {cls:= .type "range",data:= .fields #[.int lo t,.int hi u,.int 1 v]}).objs.size],_,_,H,rfl,
   I1.kept (t':=tk) fun b o e=>Heap.get?_push_of_some _ e,G9j _ lo (hi-lo).toNat,?_,fun b hb=>?_,q⟩
 . have e1:lo+((0:Nat):Int)*1=lo:=by simp
   have e2:(((hi-lo).toNat:Nat):Int)- ((0:Nat):Int)=Builtin.Range.rangeSize lo hi 1:=by rw[rangeSize_one];split<;>omega
   show IsRangeIter _ _ (lo+((0:Nat):Int)*1) ((((hi-lo).toNat:Nat):Int)- ((0:Nat):Int)) 1
   rw[e1,e2]
   exact Heap.get?_push_size _ rfl
 . have e:b=(s.heap.push {cls:= .type "range",data:= .fields #[.int lo t,.int hi u,.int 1 v]}).objs.size:=by simpa using hb
   subst e
   exact I1.fpOk (Nat.le_refl _) (I1.hok.fresh (Nat.le_refl _))
noncomputable def A0aj (ta:TA):TI:=fun σ H R=>ta σ H fun vs H1=>∃j:Int,vs=[.int j]/\ -(2^62)<=j/\j<2^62/\R (Itr 0 j.toNat) H1
theorem U4f{a:Expr}{ta:TA}{p pos:Pos}(hg:Gl X "range")(hm:X.mg "range"=none)(ha:PA X [a] ta)(hs:starEach [a] X.env=[(false,eval a X.env)]:=by rfl):PI X tg (.Call (.Name "range" p) [a] [] pos) (A0aj ta):=by
 intro pins s σ H R I h
 refine Call_ (D4q I hg hm boot_range (PyProof.Rows.callWith_type1 (thn (ha pos pins s σ H _ I h) fun us s1 hh_=>?_) hs rfl))
 obtain⟨vs,H1,I1,r1,q1⟩:=hh_
 obtain⟨j,e,q1,q2,q⟩:=q1
 subst e
 cases r1 with
 | cons r rr=>
   cases rr
   obtain⟨t,rfl⟩:=r
   exact call_range_1 (U9q I1 (by omega) (by omega) q1 q2 (by simpa using q))
noncomputable def tFor (wi:TI) (g:TG) (tb:TS):TS:=fun D σ H=>wi σ H fun J H1=>∃W:Nat ->Nat ->St ->Hp ->Prop,(∃m,W 0 m σ H1)/\∀i m σ H,W i m σ H ->
 (J.stop i H/\D.nx σ H)\/(J.go i H/\∃N:St ->Hp ->Prop,(∀σ' H',N σ' H' ->∃m',m'<m/\W (i+1) m' σ' H')/\∀x H',J.yld i H x H' ->g x σ H' fun σ2 H2=>tb {D with nx:=N,ct:=N,bk:=D.nx} σ2 H2)
noncomputable def A0e (fp:List Addr) (h:Heap):List (Addr×Obj):=fp.filterMap fun b=>(h.get? b).map fun o=>(b,o)
theorem A1g{fp:List Addr}{h:Heap}{b:Addr}{o:Obj}(hb:b∈fp)(e:h.get? b=some o):(b,o)∈A0e fp h:=List.mem_filterMap.mpr ⟨b,hb,by rw[e];rfl⟩
theorem U4v{fp:List Addr}{h:Heap}{p:Addr×Obj}(hp:p∈A0e fp h):p.1∈fp/\h.get? p.1=some p.2:=by
 obtain⟨b,hb,e⟩:=List.mem_filterMap.mp hp
 cases q:h.get? b with
 |none=>rw[q] at e;cases e
 | some o=>
   rw[q] at e
   have e':(b,o)=p:=Option.some.inj e
   subst e'
   exact⟨hb,q⟩
theorem Inv.pinned{pins:List (Addr×Obj)}{σ:St}{H:Hp}{s:Shared}{fp:List Addr}(I:Inv X pins σ H s)(hf:∀b∈fp,A4g X pins H b)(ho:∀b∈fp,∃o,s.heap.get? b=some o/\∀v,o.data≠ .cell v):Inv X (pins++A0e fp s.heap) σ H s:=
 I.pins_of fun p hp=>(List.mem_append.mp hp).elim (fun z=>I.pin p (List.mem_append_right _ z)) fun z=>by
   obtain⟨hb,e⟩:=U4v z
   obtain⟨f0,f1,f2,_⟩:=hf p.1 hb
   obtain⟨o,e',d⟩:=ho p.1 hb
   rw[e] at e';cases e'
   exact⟨e,f0,f1,f2,d⟩
theorem Inv.unpinned{pins pl:List (Addr×Obj)}{σ:St}{H:Hp}{s:Shared}(I:Inv X (pins++pl) σ H s):Inv X pins σ H s:=I.pins_of fun p hp=>I.pin p (List.mem_append_right _ (List.mem_append_left _ hp))
theorem D4m{iter:Expr}{body:List Stmt}{wi:TI}{g:TG}{tb:TS}{pos:Pos}(hp:PassesOwn (model X.prog X.w) X.A X.env X.xe)(hc:X.calm=true)(hi:PI X tg iter wi)(hg:PG X tg g)(hb:PSs X body tb)
   (hs:∀x,foldedSetIterable iter X.env x=pure x:=by intro _;rfl):PS X (.For tg iter body [] pos) (tFor wi g tb):=by
 intro pins s σ H D I h
 refine wpAny_For (thn (hi pins s σ H _ I h) fun v s1 h1=>thn h1 fun itv s2 h2=>?_) hs
 obtain⟨it,fp,tn,J,H2,e,I2,T,st2,f2,W,⟨m0,w0⟩,turn⟩:=h2
 subst e
 have stat:∀{H':Hp},(∀b∈fp,H' b=none) ->∀b∈fp,A4g X pins H' b:=fun hn b hb=>⟨hn b hb,(f2 b hb).2⟩
 refine codeAny_forLoop_any (fun n s'=>∃i σ' H',Inv X pins σ' H' s'/\tn i s'.heap/\(∀b∈fp,H' b=none)/\W i n σ' H') ?_ m0 ⟨0,σ,H2,I2,st2,fun b hb=>(f2 b hb).1,w0⟩
 rintro n s3 ⟨i,σ3,H3,I3,st3,fr3,w3⟩
 rcases turn i n σ3 H3 w3 with⟨stop,qn⟩|⟨go,N,hN,step⟩
 . refine wpAny_passesOwn hp (thn (T.done X rfl rfl rfl hc i pins s3 σ3 H3 X.xe I3 (stat fr3) st3 stop) fun r s4 ⟨hr,I4⟩=>?_)
   subst hr
   exact wpAny_execs_nil ⟨σ3,H3,I4,qn⟩
 . refine wpAny_passesOwn hp (thn (T.item X rfl rfl rfl hc i pins s3 σ3 H3 X.xe I3 (stat fr3) st3 go) fun r s4 ⟨u,hr,h4⟩=>?_)
   subst hr
   refine wpAny_passesOwn hp (thn h4 fun _ s5 hh_=>?_)
   obtain⟨x,H5,I5,r5,y5,st5,fr5⟩:=hh_
   have I5':=I5.pinned (stat fr5) (T.obj _ _ st5)
   refine wpAny_passesOwn hp (thn (hg _ s5 σ3 H5 x u _ I5' r5 (step x H5 y5)) fun _ s6 hh_=>?_)
   obtain⟨σ6,H6,I6,q6⟩:=hh_
   refine wpAny_passesOwn hp (thn (hb _ s6 σ6 H6 _ I6 q6) fun f s7 q7=>?_)
   have again:∀{σ7:St} {H7:Hp},Inv X (pins++A0e fp s5.heap) σ7 H7 s7 ->N σ7 H7 ->∃m,m<n/\∃i σ' H',Inv X pins σ' H' s7/\tn i s7.heap/\(∀b∈fp,H' b=none)/\W i m σ' H':=fun{σ7 H7} I7 n7=>by
     obtain⟨m',hm,w7⟩:=hN σ7 H7 n7
     refine⟨m',hm,i+1,σ7,H7,I7.unpinned,T.keep _ _ _ st5 fun b hb o e=>(I7.pin (b,o) (List.mem_append_right _ (List.mem_append_right _ (A1g hb e)))).1,fun b hb=>?_,w7⟩
     obtain⟨o,e,d⟩:=T.obj _ _ st5 b hb
     exact(I7.pin (b,o) (List.mem_append_right _ (List.mem_append_right _ (A1g hb e)))).2.1
   cases f with
   |next=>obtain⟨σ7,H7,I7,n7⟩:=q7;exact again I7 n7
   |cont=>obtain⟨σ7,H7,I7,n7⟩:=q7;exact again I7 n7
   |brk=>obtain⟨σ7,H7,I7,q7⟩:=q7;exact⟨σ7,H7,I7.unpinned,q7⟩
   |ret v=>obtain⟨x7,σ7,H7,I7,r7,q7⟩:=q7;exact⟨x7,σ7,H7,I7.unpinned,r7,q7⟩
end
theorem A9m{K:PySem.W.Frag}{a:Addr}{xs:List V}{g:TG}{tb:TS}{D:Ends}{σ:St}{H:Hp}(Pv:Nat ->St ->Hp ->Prop)(h0:Pv 0 σ H)(hl:∀i σ H,i<=xs.length ->Pv i σ H ->SqL K H a xs)
   (hs:∀i x σ H,xs[i]?=some x ->Pv i σ H ->g x σ H fun σ2 H2=>tb {D with nx:=Pv (i+1),ct:=Pv (i+1),bk:=D.nx} σ2 H2) (hd:∀σ H,Pv xs.length σ H ->D.nx σ H):
   ∃ W:Nat ->Nat ->St ->Hp ->Prop,(∃m,W 0 m σ H)/\∀i m σ H,W i m σ H ->
     ((Itl K a).stop i H/\D.nx σ H)\/((Itl K a).go i H/\∃N:St ->Hp ->Prop,(∀σ' H',N σ' H' ->∃m',m'<m/\W (i+1) m' σ' H')/\∀x H',(Itl K a).yld i H x H' ->g x σ H' fun σ2 H2=>tb {D with nx:=N,ct:=N,bk:=D.nx} σ2 H2):=by
 refine⟨fun i m σ H=>m=xs.length-i/\i<=xs.length/\Pv i σ H,⟨xs.length,by simp,Nat.zero_le _,h0⟩,?_⟩
 rintro i m σ H ⟨rfl,hi,p⟩
 have q:=hl i σ H hi p
 by_cases hlt:i<xs.length
 . refine .inr ⟨⟨xs,xs[i],q,by simp[hlt]⟩,Pv (i+1),fun σ' H' p'=>⟨xs.length-(i+1),by omega,rfl,hlt,p'⟩,fun x H' y=>?_⟩
   obtain⟨e,y⟩:=y
   subst e
   exact hs i x σ _ (y xs q) p
 . have e:i=xs.length:=by omega
   subst e
   exact .inl ⟨⟨xs,q,Nat.le_refl _⟩,hd σ H p⟩
theorem D1v{lo:Int}{n:Nat}{g:TG}{tb:TS}{D:Ends}{σ:St}{H:Hp}(Pv:Nat ->St ->Hp ->Prop)(h0:Pv 0 σ H)
   (hs:∀i σ H,i<n ->Pv i σ H ->g (.int (lo+i)) σ H fun σ2 H2=>tb {D with nx:=Pv (i+1),ct:=Pv (i+1),bk:=D.nx} σ2 H2) (hd:∀σ H,Pv n σ H ->D.nx σ H):
   ∃ W:Nat ->Nat ->St ->Hp ->Prop,(∃m,W 0 m σ H)/\∀i m σ H,W i m σ H ->
     ((Itr lo n).stop i H/\D.nx σ H)\/((Itr lo n).go i H/\∃N:St ->Hp ->Prop,(∀σ' H',N σ' H' ->∃m',m'<m/\W (i+1) m' σ' H')/\∀x H',(Itr lo n).yld i H x H' ->g x σ H' fun σ2 H2=>tb {D with nx:=N,ct:=N,bk:=D.nx} σ2 H2):=by
 refine⟨fun i m σ H=>m=n-i/\i<=n/\Pv i σ H,⟨n,by simp,Nat.zero_le _,h0⟩,?_⟩
 rintro i m σ H ⟨rfl,hi,p⟩
 by_cases hlt:i<n
 . refine .inr ⟨hlt,Pv (i+1),fun σ' H' p'=>⟨n-(i+1),by omega,rfl,hlt,p'⟩,fun x H' y=>?_⟩
   obtain⟨e,y⟩:=y
   subst e y
   exact hs i σ _ hlt p
 . have e:i=n:=by omega
   subst e
   exact .inl ⟨Nat.le_refl _,hd σ H p⟩
theorem C3f{c:TT}{tb:TS}{D:Ends}{σ:St}{H:Hp}(Pv:St ->Hp ->Prop)(μ:St ->Hp ->Nat)(h0:Pv σ H)
   (hs:∀σ H,Pv σ H ->c σ H fun b H1=>if b=true then tb {D with nx:=fun σ' H'=>Pv σ' H'/\μ σ' H'<μ σ H,ct:=fun σ' H'=>Pv σ' H'/\μ σ' H'<μ σ H,bk:=D.nx} σ H1 else D.nx σ H1)
   (mono:∀σ H Q Q',(∀b H1,Q b H1 ->Q' b H1) ->c σ H Q ->c σ H Q'):U9y c tb D σ H:=by
 refine⟨fun m σ H=>m=μ σ H/\Pv σ H,⟨_,rfl,h0⟩,?_⟩
 rintro m σ H ⟨rfl,p⟩
 refine mono σ H _ _ (fun b H1 q=>?_) (hs σ H p)
 cases b with
 |true=>exact⟨_,fun σ' H' ⟨p',l⟩=>⟨_,l,rfl,p'⟩,q⟩
 |false=>exact q
noncomputable abbrev R2:=V ->V ->Hp ->VK ->Prop
noncomputable def OpR (X:Cx) (f:Value ->Value ->Sem Value) (r:R2):Prop:=
 ∀ (pins:List (Addr×Obj)) (s:Shared) (σ:St) (H:Hp) (x y:V) (v u:Value) (Q:VK),Inv X pins σ H s ->RelV x v ->RelV y u ->r x y H Q ->
   wpAny (model X.prog X.w) X.A (f v u) (EP X pins σ Q) X.xe s
noncomputable def UnR (X:Cx) (f:Value ->Sem Value) (r:V ->Hp ->VK ->Prop):Prop:=
 ∀ (pins:List (Addr×Obj)) (s:Shared) (σ:St) (H:Hp) (x:V) (v:Value) (Q:VK),Inv X pins σ H s ->RelV x v ->r x H Q ->
   wpAny (model X.prog X.w) X.A (f v) (EP X pins σ Q) X.xe s
noncomputable def A2x (X:Cx) (f:Value) (r:List V ->Hp ->VK ->Prop):Prop:=
 ∀ (pins:List (Addr×Obj)) (s:Shared) (σ:St) (H:Hp) (xs:List V) (us:List Value) (Q:VK),Inv X pins σ H s ->Vals xs us ->r xs H Q ->
   wpAny (model X.prog X.w) X.A (call f us) (EP X pins σ Q) X.xe s
noncomputable def tOp (r:R2) (ta tb:TE):TE:=fun σ H Q=>ta σ H fun x H1=>tb σ H1 fun y H2=>r x y H2 Q
noncomputable def tUn (r:V ->Hp ->VK ->Prop) (ta:TE):TE:=fun σ H Q=>ta σ H fun x H1=>r x H1 Q
noncomputable def rI (C:Int ->Int ->Prop) (g:Int ->Int ->V):R2:=fun x y H Q=>∃i j,x= .int i/\y= .int j/\C i j/\Q (g i j) H
noncomputable def rI0 (g:Int ->Int ->V):R2:=fun x y H Q=>∃i j,x= .int i/\y= .int j/\Q (g i j) H
noncomputable def rU (g:Int ->V):V ->Hp ->VK ->Prop:=fun x H Q=>∃i,x= .int i/\Q (g i) H
section
variable{X:Cx}{a b c:Expr}{ta tb tc:TE}{pos:Pos}
theorem Z6a(ha:PE X a ta)(hb:PE X b tb){pins:List (Addr×Obj)}{s:Shared}{σ:St}{H:Hp}{R:V ->V ->Hp ->Prop}(I:Inv X pins σ H s)
   (h:ta σ H fun x H1=>tb σ H1 fun y H2=>R x y H2) {Q:Value ->Shared ->Prop} {f:Value ->Value ->Sem Value}
   (hf:∀v u s2 x y H2,Inv X pins σ H2 s2 ->RelV x v ->RelV y u ->R x y H2 ->wpAny (model X.prog X.w) X.A (f v u) Q X.xe s2):
   wpAny (model X.prog X.w) X.A (eval a X.env) (fun v s₁=>wpAny (model X.prog X.w) X.A (eval b X.env) (fun u s₂=>wpAny (model X.prog X.w) X.A (f v u) Q X.xe s₂) X.xe s₁) X.xe s:=by
 refine thn (ha pins s σ H _ I h) fun v s1 hh_=>?_
 obtain⟨x,H1,I1,r1,q1⟩:=hh_
 refine thn (hb pins s1 σ H1 _ I1 q1) fun u s2 hh_=>?_
 obtain⟨y,H2,I2,r2,q2⟩:=hh_
 exact hf v u s2 x y H2 I2 r1 r2 q2
theorem C7{op:Operator}{r:R2}(ho:OpR X (binaryOp op) r)(ha:PE X a ta)(hb:PE X b tb):PE X (.BinOp a op b pos) (tOp r ta tb):=by
 intro pins s σ H Q I h
 exact wpAny_BinOp (Z6a ha hb I h fun v u s2 x y H2 I2 rx ry q=>ho pins s2 σ H2 x y v u Q I2 rx ry q)
theorem D2v{op:UnaryOp}{r:V ->Hp ->VK ->Prop}(ho:UnR X (unaryOp op) r)(ha:PE X a ta):PE X (.UnaryOp op a pos) (tUn r ta):=by
 intro pins s σ H Q I h
 exact UnaryOp_ (thn (ha pins s σ H _ I h) fun v s1 ⟨x,H1,I1,r1,q1⟩=>ho pins s1 σ H1 x v Q I1 r1 q1)
theorem opI{f:Value ->Value ->Sem Value}{C:Int ->Int ->Prop}{g:Int ->Int ->Int}
   (rule:∀(i j:Int) (t u:Tok) (s:Shared) (Q:Value ->Shared ->Prop) (E:Value ->Shared ->Prop),C i j ->Q (.int (g i j) s.toks) {s with toks:=s.toks+1} ->wpAny (model X.prog X.w) X.A (f (.int i t) (.int j u)) Q E s):
   OpR X f (rI C fun i j=> .int (g i j)):=by
 intro pins s σ H x y v u Q I rx ry h
 obtain⟨i,j,rfl,rfl,hc,q⟩:=h
 obtain⟨t,rfl⟩:=rx
 obtain⟨t',rfl⟩:=ry
 exact rule i j t t' s _ _ hc ⟨.int (g i j),H,I.tok _,⟨_,rfl⟩,q⟩
theorem opI0{f:Value ->Value ->Sem Value}{g:Int ->Int ->Int}
   (rule:∀(i j:Int) (t u:Tok) (s:Shared) (Q:Value ->Shared ->Prop) (E:Value ->Shared ->Prop),Q (.int (g i j) s.toks) {s with toks:=s.toks+1} ->wpAny (model X.prog X.w) X.A (f (.int i t) (.int j u)) Q E s):
   OpR X f (rI0 fun i j=> .int (g i j)):=by
 intro pins s σ H x y v u Q I rx ry h
 obtain⟨i,j,rfl,rfl,q⟩:=h
 obtain⟨t,rfl⟩:=rx
 obtain⟨t',rfl⟩:=ry
 exact rule i j t t' s _ _ ⟨.int (g i j),H,I.tok _,⟨_,rfl⟩,q⟩
theorem Y6t{f:Value ->Value ->Sem Value}{g:Int ->Int ->Bool}
   (rule:∀(i j:Int) (t u:Tok) (s:Shared) (Q:Value ->Shared ->Prop) (E:Value ->Shared ->Prop),Q (.bool (g i j)) s ->wpAny (model X.prog X.w) X.A (f (.int i t) (.int j u)) Q E s):
   OpR X f (rI0 fun i j=> .bl (g i j)):=by
 intro pins s σ H x y v u Q I rx ry h
 obtain⟨i,j,rfl,rfl,q⟩:=h
 obtain⟨t,rfl⟩:=rx
 obtain⟨t',rfl⟩:=ry
 exact rule i j t t' s _ _ ⟨.bl (g i j),H,I,rfl,q⟩
noncomputable def Z5b (i j:Int):Prop:=0<=j/\j<=1000000/\i.natAbs<2^64
noncomputable def CMul (i j:Int):Prop:=(-(2^64)<i/\i<2^64)\/(-(2^64)<j/\j<2^64)
theorem CMul.ok{i j:Int}(h:CMul i j):IntMulOk i j:=by
 rcases h with⟨h1,h2⟩|⟨h1,h2⟩
 . exact .of_left (intBits_le_64 h1 h2)
 . exact .of_right (intBits_le_64 h1 h2)
theorem Y3:OpR X (binaryOp .Add) (rI0 fun i j=> .int (i+j)):=opI0 fun _ _ _ _ _ _ _ q=>add_int q
theorem V1:OpR X (binaryOp .Sub) (rI0 fun i j=> .int (i-j)):=opI0 fun _ _ _ _ _ _ _ q=>sub_int q
theorem U4:OpR X (binaryOp .Mod) (rI (fun _ j=>0<j) fun i j=> .int (i % j)):=opI fun i j _ _ _ _ _ hc q=>by
 have h1:(0:Int)<j:=hc
 exact mod_int' (by omega) (by rw[Int.fmod_eq_emod_of_nonneg i (by omega)];exact q)
theorem J0r:OpR X (binaryOp .Pow) (rI Z5b fun i j=> .int (i^j.toNat)):=opI fun _ _ _ _ _ _ _ hc q=>pow_int_small hc.1 hc.2.1 hc.2.2 q
theorem unI{f:Value ->Sem Value}{g:Int ->Int}
   (rule:∀(i:Int) (t:Tok) (s:Shared) (Q:Value ->Shared ->Prop) (E:Value ->Shared ->Prop),Q (.int (g i) s.toks) {s with toks:=s.toks+1} ->wpAny (model X.prog X.w) X.A (f (.int i t)) Q E s):
   UnR X f (rU fun i=> .int (g i)):=by
 intro pins s σ H x v Q I rx h
 obtain⟨i,rfl,q⟩:=h
 obtain⟨t,rfl⟩:=rx
 exact rule i t s _ _ ⟨.int (g i),H,I.tok _,⟨_,rfl⟩,q⟩
theorem B7z:UnR X (unaryOp .USub) (rU fun i=> .int (-i)):=unI fun _ _ _ _ _ q=>neg_int q
end
noncomputable def Z9x:V ->V ->Bool
 | .non,.non=>true| .non,.int _=>true| .int _,.non=>true| .non,.bl _=>true| .bl _,.non=>true| .non,.str _=>true| .str _,.non=>true
 | .int _,.int _=>true| .bl _,.bl _=>true| .str _,.str _=>true| .byt _,.byt _=>true
 | .int _,.str _=>true| .str _,.int _=>true| .bl _,.str _=>true| .str _,.bl _=>true
 |_,_=>false
noncomputable def rEq:R2:=fun x y H Q=>Z9x x y=true/\Q (.bl (decide (x=y))) H
noncomputable def rNe:R2:=fun x y H Q=>Z9x x y=true/\Q (.bl (!decide (x=y))) H
theorem U1g{i j:Int}:decide (V.int i=V.int j)=(i==j):=by
 rw[Bool.eq_iff_iff]
 simp
theorem V0u{i j:Bool}:decide (V.bl i=V.bl j)=(i==j):=by
 rw[Bool.eq_iff_iff]
 simp
theorem dec_str{i j:Str}:decide (V.str i=V.str j)=(i==j):=by
 rw[Bool.eq_iff_iff]
 simp
theorem U2j{i j:Array UInt8}:decide (V.byt i=V.byt j)=(i.toList==j.toList):=by
 rw[Bool.eq_iff_iff]
 cases i
 cases j
 simp
section
variable{X:Cx}{a b c:Expr}{ta tb tc:TE}{pos:Pos}
theorem U8{pins:List (Addr×Obj)}{σ:St}{H:Hp}{s:Shared}{Q:VK}{k k':Bool}(I:Inv X pins σ H s)(q:Q (.bl k) H)(e:k=k'):EP X pins σ Q (.bool k') s:=by
 subst e
 exact⟨.bl k,H,I,rfl,q⟩
theorem G4:OpR X (compareOp .Eq) rEq:=by
 intro pins s σ H x y v u Q I rx ry h
 obtain⟨hs,q⟩:=h
 cases x with
 | non=>
   cases rx
   cases y with
   |non=>cases ry;exact PySem.EqNone.eq_none_none (U8 I q (by simp))
   |bl j=>cases ry;exact PySem.EqNone.eq_none_bool (U8 I q (by simp))
   |int j=>obtain⟨t',rfl⟩:=ry;exact PySem.EqNone.eq_none_int (U8 I q (by simp))
   |str j=>obtain⟨t',rfl⟩:=ry;exact PySem.EqNone.eq_none_str (U8 I q (by simp))
   |_=>exact absurd (show false=true from hs) Bool.false_ne_true
 | bl i=>
   cases rx
   cases y with
   |non=>cases ry;exact PySem.EqNone.eq_bool_none (U8 I q (by simp))
   |bl j=>cases ry;exact eq_bool (U8 I q V0u)
   |str j=>obtain⟨t',rfl⟩:=ry;exact PySem.EqMixed.eq_bool_str (U8 I q (by simp))
   |_=>exact absurd (show false=true from hs) Bool.false_ne_true
 | int i=>
   obtain⟨t,rfl⟩:=rx
   cases y with
   |non=>cases ry;exact PySem.EqNone.eq_int_none (U8 I q (by simp))
   |int j=>obtain⟨t',rfl⟩:=ry;exact eq_int (U8 I q U1g)
   |str j=>obtain⟨t',rfl⟩:=ry;exact PySem.EqMixed.eq_int_str (U8 I q (by simp))
   |_=>exact absurd (show false=true from hs) Bool.false_ne_true
 | str i=>
   obtain⟨t,rfl⟩:=rx
   cases y with
   |non=>cases ry;exact PySem.EqNone.eq_str_none (U8 I q (by simp))
   |bl j=>cases ry;exact PySem.EqMixed.eq_str_bool (U8 I q (by simp))
   |int j=>obtain⟨t',rfl⟩:=ry;exact PySem.EqMixed.eq_str_int (U8 I q (by simp))
   |str j=>obtain⟨t',rfl⟩:=ry;exact eq_str (U8 I q dec_str)
   |_=>exact absurd (show false=true from hs) Bool.false_ne_true
 | byt i=>
   obtain⟨t,rfl⟩:=rx
   cases y with
   |byt j=>obtain⟨t',rfl⟩:=ry;exact PySem.W.eq_bytes (U8 I q U2j)
   |_=>exact absurd (show false=true from hs) Bool.false_ne_true
 |_=>cases y<;>exact absurd (show false=true from hs) Bool.false_ne_true
theorem B4n:OpR X (compareOp .NotEq) rNe:=by
 intro pins s σ H x y v u Q I rx ry h
 obtain⟨hs,q⟩:=h
 cases x with
 | non=>
   cases rx
   cases y with
   |non=>cases ry;exact PySem.EqNone.ne_none_none (U8 I q (by simp))
   |bl j=>cases ry;exact PySem.EqNone.ne_none_bool (U8 I q (by simp))
   |int j=>obtain⟨t',rfl⟩:=ry;exact PySem.EqNone.ne_none_int (U8 I q (by simp))
   |str j=>obtain⟨t',rfl⟩:=ry;exact PySem.EqNone.ne_none_str (U8 I q (by simp))
   |_=>exact absurd (show false=true from hs) Bool.false_ne_true
 | bl i=>
   cases rx
   cases y with
   |non=>cases ry;exact PySem.EqNone.ne_bool_none (U8 I q (by simp))
   |bl j=>cases ry;exact ne_bool (U8 I q (congrArg not V0u))
   |str j=>obtain⟨t',rfl⟩:=ry;exact PySem.EqMixed.ne_bool_str (U8 I q (by simp))
   |_=>exact absurd (show false=true from hs) Bool.false_ne_true
 | int i=>
   obtain⟨t,rfl⟩:=rx
   cases y with
   |non=>cases ry;exact PySem.EqNone.ne_int_none (U8 I q (by simp))
   |int j=>obtain⟨t',rfl⟩:=ry;exact ne_int (U8 I q (congrArg not U1g))
   |str j=>obtain⟨t',rfl⟩:=ry;exact PySem.EqMixed.ne_int_str (U8 I q (by simp))
   |_=>exact absurd (show false=true from hs) Bool.false_ne_true
 | str i=>
   obtain⟨t,rfl⟩:=rx
   cases y with
   |non=>cases ry;exact PySem.EqNone.ne_str_none (U8 I q (by simp))
   |bl j=>cases ry;exact PySem.EqMixed.ne_str_bool (U8 I q (by simp))
   |int j=>obtain⟨t',rfl⟩:=ry;exact PySem.EqMixed.ne_str_int (U8 I q (by simp))
   |str j=>obtain⟨t',rfl⟩:=ry;exact ne_str (U8 I q (congrArg not dec_str))
   |_=>exact absurd (show false=true from hs) Bool.false_ne_true
 | byt i=>
   obtain⟨t,rfl⟩:=rx
   cases y with
   |byt j=>obtain⟨t',rfl⟩:=ry;exact PySem.W.ne_bytes (U8 I q (congrArg not U2j))
   |_=>exact absurd (show false=true from hs) Bool.false_ne_true
 |_=>cases y<;>exact absurd (show false=true from hs) Bool.false_ne_true
theorem G5v:OpR X (compareOp .Lt) (rI0 fun i j=> .bl (decide (i<j))):=Y6t fun _ _ _ _ _ _ _ q=>lt_int q
theorem Z3s:OpR X (compareOp .LtE) (rI0 fun i j=> .bl (decide (i<=j))):=Y6t fun _ _ _ _ _ _ _ q=>le_int q
theorem G5r:OpR X (compareOp .Gt) (rI0 fun i j=> .bl (decide (j<i))):=Y6t fun _ _ _ _ _ _ _ q=>gt_int q
theorem C3h:OpR X (compareOp .GtE) (rI0 fun i j=> .bl (decide (j<=i))):=Y6t fun _ _ _ _ _ _ _ q=>ge_int q
theorem Z5j:OpR X (compareOp .Is) (fun x y H Q=>y= .non/\Q (.bl (decide (x= .non))) H):=by
 intro pins s σ H x y v u Q I rx ry h
 obtain⟨rfl,q⟩:=h
 cases ry
 refine is_none_gen (U8 I q ?_)
 cases x<;>first
   |(cases rx;rfl)
   |(obtain⟨t,rfl⟩:=rx;rfl)
theorem C8(b:Expr){op:CmpOp}(h:op≠ .In:=by decide)(h2:op≠ .NotIn:=by decide):behindInMarks op b=false:=by
 have e1:(op==CmpOp.In)=false:=by cases op<;>first|rfl|exact absurd rfl h
 have e2:(op==CmpOp.NotIn)=false:=by cases op<;>first|rfl|exact absurd rfl h2
 cases b<;>simp[behindInMarks,e1,e2]
theorem J0{op:CmpOp}{r:R2}(ho:OpR X (compareOp op) r)(ha:PE X a ta)(hb:PE X b tb)(hm:behindInMarks op b=false):PE X (.Compare a [op] [b] pos) (tOp r ta tb):=by
 intro pins s σ H Q I h
 exact wpAny_Compare1 (Z6a ha hb I h fun v u s2 x y H2 I2 rx ry q=>ho pins s2 σ H2 x y v u Q I2 rx ry q) hm
noncomputable def A0bg (t:TE):TT:=fun σ H Q=>t σ H fun x H'=>∃k,x= .bl k/\Q k H'
theorem D0{op:CmpOp}{r:R2}(ho:OpR X (compareOp op) r)(ha:PE X a ta)(hb:PE X b tb)(hm:behindInMarks op b=false):PT X (.Compare a [op] [b] pos) (A0bg (tOp r ta tb)):=by
 intro pins s σ H Q I h
 refine wpAny_isTrue_Compare1 (thn (ha pins s σ H _ I h) fun v s1 ⟨x,H1,I1,r1,q1⟩=>thn (hb pins s1 σ H1 _ I1 q1) fun u s2 ⟨y,H2,I2,r2,q2⟩=>
   thn (ho pins s2 σ H2 x y v u _ I2 r1 r2 q2) fun c s3 ⟨z,H3,I3,r3,k,e,q3⟩=>?_) hm
 subst e
 cases r3
 exact wpAny_truthy_bool ⟨H3,I3,q3⟩
theorem D3n:(sizeLine:Nat)<2^63:=by rw[sizeLine_eq];decide
theorem G9g:OpR X (binaryOp .Add) (fun x y H Q=>∃i j,x= .str i/\y= .str j/\i.length+j.length<=sizeLine/\Q (.str (i++j)) H):=by
 intro pins s σ H x y v u Q I rx ry h
 obtain⟨i,j,rfl,rfl,hz,q⟩:=h
 obtain⟨t,rfl⟩:=rx
 obtain⟨t',rfl⟩:=ry
 exact add_str (fun t' tk=>⟨.str (i++j),H,I.tok _,⟨_,rfl⟩,q⟩) hz
theorem B6h{x:V}{us:List Value}(r:Vals [x] us):∃u,us=[u]/\RelV x u:=by
 cases r with
 |cons r1 r2=>cases r2;exact⟨_,rfl,r1⟩
theorem Z3x{x y:V}{us:List Value}(r:Vals [x,y] us):∃u w',us=[u,w']/\RelV x u/\RelV y w':=by
 cases r with
 | cons r1 r2=>
   cases r2 with
   |cons r3 r4=>cases r4;exact⟨_,_,rfl,r1,r3⟩
theorem A1z:A2x X (.builtin "abs") (fun xs H Q=>∃i,xs=[.int i]/\Q (.int (if i<0 then -i else i)) H):=by
 intro pins s σ H xs us Q I r h
 obtain⟨i,rfl,q⟩:=h
 obtain⟨u,rfl,t,rfl⟩:=B6h r
 exact call_abs_int fun u tk=>⟨.int (if i<0 then -i else i),H,I.tok _,⟨_,rfl⟩,q⟩
theorem A1k(hc:X.calm=true):A2x X (.builtin "max") (fun xs H Q=>∃i j,xs=[.int i,.int j]/\Q (.int (if j>i then j else i)) H):=by
 intro pins s σ H xs us Q I r h
 obtain⟨i,j,rfl,q⟩:=h
 obtain⟨u,w',rfl,⟨t,rfl⟩,⟨t',rfl⟩⟩:=Z3x r
 refine max_two_ints (I.ok.hd hc) fun h' tk k=>⟨_,H,I.kept k,?_,q⟩
 by_cases hj:j>i
 . rw[if_pos hj,if_pos hj];exact⟨_,rfl⟩
 . rw[if_neg hj,if_neg hj];exact⟨_,rfl⟩
theorem A6a(hc:X.calm=true):A2x X (.builtin "min") (fun xs H Q=>∃i j,xs=[.int i,.int j]/\Q (.int (if j<i then j else i)) H):=by
 intro pins s σ H xs us Q I r h
 obtain⟨i,j,rfl,q⟩:=h
 obtain⟨u,w',rfl,⟨t,rfl⟩,⟨t',rfl⟩⟩:=Z3x r
 refine min_two_ints (I.ok.hd hc) fun h' tk k=>⟨_,H,I.kept k,?_,q⟩
 by_cases hj:j<i
 . rw[if_pos hj,if_pos hj];exact⟨_,rfl⟩
 . rw[if_neg hj,if_neg hj];exact⟨_,rfl⟩
theorem U4k:A2x X (.type "int") (fun xs H Q=>(∃i,xs=[.int i]/\Q (.int i) H)\/∃k,xs=[.bl k]/\Q (.int (if k then 1 else 0)) H):=by
 intro pins s σ H xs us Q I r h
 rcases h with⟨i,rfl,q⟩|⟨k,rfl,q⟩
 . obtain⟨u,rfl,t,rfl⟩:=B6h r
   exact call_int_int ⟨.int i,H,I,⟨_,rfl⟩,q⟩
 . obtain⟨u,rfl,r1⟩:=B6h r
   cases r1
   exact call_int_bool ⟨.int (if k then 1 else 0),H,I.tok _,⟨_,rfl⟩,q⟩
theorem D3t:A2x X (.type "str") (fun xs H Q=>∃i,xs=[.int i]/\i.natAbs.log2<1920/\Q (.str (toString i)) H):=by
 intro pins s σ H xs us Q I r h
 obtain⟨i,rfl,hz,q⟩:=h
 obtain⟨u,rfl,t,rfl⟩:=B6h r
 exact PySem.P.str_of_int hz ⟨.str _,H,I.tok _,⟨_,rfl⟩,q⟩
end
structure ObjM(h:Heap)(x dx C:Addr)(mA:Str ->Option Value):Prop where
 obj:h.get? x=some (PySem.W.instObj C dx)
 ns:h.Ns1 dx mA
 ne:dx≠x
theorem D2f{h:Heap}{dx:Addr}{mA:Str ->Option Value}(n:h.Ns1 dx mA):∃od,h.get? dx=some od/\∀name,PySem.W.lookIn name od=some (mA name):=by
 obtain⟨o,es,ep,ho,hd,hk,_,hm⟩:=n
 refine⟨o,ho,fun name=>?_⟩
 have e:=hm name
 unfold nsFind findBy at e
 rw[<-Array.find?_toList] at e
 unfold PySem.W.lookIn
 rw[hd]
 dsimp only
 split
 . rename_i y q
   rw[q] at e
   exact congrArg some e
 . rename_i q
   rw[q] at e
   have a:es.toList.any (·.refKey)=false:=by
     rw[List.any_eq_false]
     intro y hy
     obtain⟨z,t,hkey⟩:=hk y (Array.mem_toList_iff.mp hy)
     simp[DictEntry.refKey,hkey]
   have a':¬es.toList.any (·.refKey)=true:=by rw[a];exact Bool.false_ne_true
   rw[if_neg a']
   exact congrArg some e
theorem ObjM.look{h:Heap}{x dx C:Addr}{mA:Str ->Option Value}(I:ObjM h x dx C mA):∃od,PySem.W.InstAt h x (PySem.W.instObj C dx) C (some od)/\∀name,PySem.W.lookIn name od=some (mA name):=
 let⟨od,ho,hl⟩:=D2f I.ns
 ⟨od,⟨I.obj,rfl,rfl,ho⟩,hl⟩
section
variable{prog:Program}{w:World}{A:Around}{E:Value ->Shared ->Prop}{s:Shared}{K:PySem.W.Frag}{x dx C f:Addr}{mA:Str ->Option Value}{name:Str}{v:Value}
theorem Y9j{expr:Bool}{Q:Value ->Shared ->Prop}(X:K.In s.heap)(I:ObjM s.heap x dx C mA)(hg:PySem.W.plainGet K C name=true)(hh:PySem.W.hasDictIn K C=true)
   (ha:PySem.W.findIn K (.ref C) name=some none) (hv:mA name=some v) (hv':PySem.W.handedIn v=true) (h:Q v {s with toks:=s.toks+1}):
   wpAny (model prog w) A (getAttr (.ref x) name expr) Q E s:=by
 obtain⟨od,J,hl⟩:=I.look
 exact PySem.W.get_value X J (PySem.W.plainGet_of hg).1 (PySem.W.findObj_own hh ha rfl (by rw[hl,hv])) hv' h
theorem V1f{pl:Sem Bool}{Q:Value×List Value ->Shared ->Prop}(X:K.In s.heap)(I:ObjM s.heap x dx C mA)(hg:PySem.W.plainGet K C name=true)
   (hf:PySem.W.findIn K (.ref C) name=some (some (.ref f))) (ht:PySem.W.isFn K (.ref f)=true) (hv:mA name=none) (h:Q (.ref f,[.ref x]) s):
   wpAny (model prog w) A (getMethod (.ref x) name pl) Q E s:=by
 obtain⟨od,J,hl⟩:=I.look
 exact PySem.W.method_fn X J (PySem.W.plainGet_of hg).1 (PySem.W.plainGet_of hg).2 hf (beq_iff_eq.mp ht) (by show(PySem.W.lookIn name od).map (·.isSome)=some false;rw[hl,hv];rfl) h
theorem Y7w{ns:List Str}{Q:Unit ->Shared ->Prop}(X:K.In s.heap)(I:ObjM s.heap x dx C mA)
   (hs:PySem.W.findIn K (.ref C) "__setattr__"=some (some (.builtin "object.__setattr__"))) (hp:PySem.W.plainOver K C=true) (ht:PySem.W.takerIn K C name=some none) (hh:PySem.W.hasDictIn K C=true)
   (hw:PySem.Within mA ns) (hsz:ns.length<=sizeLine)
   (h:∀h',ObjM h' x dx C (fun y=>if y=name then some v else mA y) ->Heap.SameBut dx s.heap h' ->Q () {s with heap:=h',toks:=s.toks+2}):
   wpAny (model prog w) A (setAttr (.ref x) name v) Q E s:=by
 obtain⟨od,J,hl⟩:=I.look
 refine PySem.W.set_plain X J hs (PySem.W.osa_open (s:={s with toks:=s.toks+1}) (r:=none) X J hp ht fun b=>?_)
 obtain⟨cd,hc,hd'⟩:=PySem.W.any_some hh
 have hx:s.heap.get? x=some ⟨.ref C,some dx,.plain, #[]⟩:=I.obj
 refine wpAny_bind (wpAny_pure (wpAny_bind (wpAny_bind (wpAny_loadPart hx (wpAny_bind (PySem.W.Looks.here (s:={s with toks:=s.toks+1}) (PySem.W.looks_clsIn X hc) ?_))))))
 rw[hd']
 refine wpAny_pure (a:=some dx) (wpAny_bind (wpAny_pure (wpAny_bind ?_)))
 refine wpAny_nsSet1 (s:={s with toks:=s.toks+1}) I.ns fun h' hn2 hs2=>?_
 obtain⟨oD,esD,epD,hoD,hdD,hcD⟩:=hn2.count (PySem.Within.cons name v hw)
 refine wpAny_bind (wpAny_lookBehind hoD (by rw[hdD];exact pastItsLine_dict (Nat.le_trans hcD (by rw[List.length_cons];omega))) ?_)
 exact wpAny_pure (h _ ⟨(hs2.2 _ (Ne.symm I.ne)).trans I.obj,hn2,I.ne⟩ hs2)
theorem G5u{R:Result ->Shared ->Prop}{vs:List Value}{kw:List (Str×Value)}(X:K.In s.heap)(hm:PySem.W.makesIn K C=true)
   (hi:PySem.W.findIn K (.ref C) "__init__"=some (some (.ref f))) (hf:PySem.W.typeIn K (.ref f)=some (.type "function"))
   (h:codeAny (model prog w) (A.under (.builtin "type.__call__" ⟨.ref C::vs,kw⟩)) (.call (.ref f) ⟨.ref (s.heap.objs.size+1)::vs,kw⟩) (PySem.W.InitBack (s.heap.objs.size+1) R)
     {s with heap:=(s.heap.push PySem.W.emptyDict).push (PySem.W.instObj C s.heap.objs.size)}):
   codeAny (model prog w) A (.call (.ref C) ⟨vs,kw⟩) R s:=by
 obtain⟨hh,g,d,t,os⟩:=s
 exact PySem.W.make_core (PySem.W.makes_of X hm) (PySem.W.looks_findIn X hi) (fun self=>PySem.W.bind_fn X self hf) (.inl rfl) h
theorem U4t{R:Result ->Shared ->Prop}(X:K.In s.heap)(hm:PySem.W.makesIn K C=true)
   (hi:PySem.W.findIn K (.ref C) "__init__"=some (some (.builtin "object.__init__")))
   (hb:∀self,PySem.W.Looks (model prog w) s.heap (bindSpecial (.builtin "object.__init__") self) (.builtin "object.__init__",[self]))
   (h:codeAny (model prog w) (A.under (.builtin "type.__call__" ⟨[.ref C],[]⟩)) (.call (.builtin "object.__init__") ⟨[.ref (s.heap.objs.size+1)],[]⟩) (PySem.W.InitBack (s.heap.objs.size+1) R)
     {s with heap:=(s.heap.push PySem.W.emptyDict).push (PySem.W.instObj C s.heap.objs.size)}):
   codeAny (model prog w) A (.call (.ref C) ⟨[],[]⟩) R s:=by
 obtain⟨hh,g,d,t,os⟩:=s
 exact PySem.W.make_core (PySem.W.makes_of X hm) (PySem.W.looks_findIn X hi) hb (.inr ⟨rfl,rfl⟩) h
end
noncomputable def V6 (f:Str) (v:V):List (Str×V) ->List (Str×V)
 | []=>[(f,v)]
 |(g,x)::r=>if g=f then(g,v)::r else(g,x)::V6 f v r
theorem G3(f g:Str)(v:V):∀fs:List (Str×V),(V6 f v fs).lookup g=if g=f then some v else fs.lookup g
 | []=>by
   show List.lookup g [(f,v)]=_
   by_cases h:g=f
   . have hb:(g==f)=true:=beq_iff_eq.mpr h
     simp only[List.lookup,hb,if_pos h]
   . have hb:(g==f)=false:=beq_eq_false_iff_ne.mpr h
     simp only[List.lookup,hb,if_neg h]
 | (k, x)::r=>by
   have ih:=G3 f g v r
   rw[show V6 f v ((k,x)::r)=(if k=f then(k,v)::r else(k,x)::V6 f v r) from rfl]
   by_cases hk:k=f
   . rw[if_pos hk]
     by_cases h:g=k
     . have hb:(g==k)=true:=beq_iff_eq.mpr h
       simp only[List.lookup,hb,if_pos (h.trans hk)]
     . have hb:(g==k)=false:=beq_eq_false_iff_ne.mpr h
       simp only[List.lookup,hb,if_neg (fun e:g=f=>h (e.trans hk.symm))]
   . rw[if_neg hk]
     by_cases h:g=k
     . have hb:(g==k)=true:=beq_iff_eq.mpr h
       simp only[List.lookup,hb,if_neg (fun e:g=f=>hk (h.symm.trans e))]
     . have hb:(g==k)=false:=beq_eq_false_iff_ne.mpr h
       simp only[List.lookup,hb]
       exact ih
theorem B7s(f:Str)(v:V):∀fs:List (Str×V),f∈(V6 f v fs).map (·.1)/\∀g,g∈fs.map (·.1) ->g∈(V6 f v fs).map (·.1)
 | []=>⟨by simp[V6],fun g h=>by simp at h⟩
 | (k, x)::r=>by
   obtain⟨i1,i2⟩:=B7s f v r
   rw[show V6 f v ((k,x)::r)=(if k=f then(k,v)::r else(k,x)::V6 f v r) from rfl]
   by_cases hk:k=f
   . rw[if_pos hk]
     subst hk
     exact⟨by simp,fun g h=>by simpa using h⟩
   . rw[if_neg hk]
     refine⟨?_,fun g h=>?_⟩
     . rw[List.map_cons]
       exact List.mem_cons_of_mem _ i1
     . rw[List.map_cons] at h ⊢
       rcases List.mem_cons.mp h with e|e
       . exact List.mem_cons.mpr (.inl e)
       . exact List.mem_cons_of_mem _ (i2 g e)
theorem A2d(f:Str)(v:V):∀fs:List (Str×V),(V6 f v fs).length<=fs.length+1
 | []=>by simp[V6]
 | (k,x)::r=>by
   have ih:=A2d f v r
   rw[show V6 f v ((k,x)::r)=(if k=f then(k,v)::r else(k,x)::V6 f v r) from rfl]
   by_cases hk:k=f
   . rw[if_pos hk,List.length_cons,List.length_cons];omega
   . rw[if_neg hk,List.length_cons,List.length_cons];omega
theorem RelO.some_of{v:V}{o:Option Value}(r:RelO (some v) o):∃u,o=some u/\RelV v u:=by
 cases o with
 |none=>exact(show False from r).elim
 |some u=>exact⟨u,rfl,r⟩
theorem RelO.none_of{o:Option Value}(r:RelO none o):o=none:=by
 cases o with
 |none=>rfl
 |some u=>exact(show False from r).elim
theorem U4w{v:V}{u:Value}(r:RelV v u):PySem.W.handedIn u=true:=by
 cases v with
 |non=>cases(show u=Value.none from r);rfl
 |bl b=>cases(show u=Value.bool b from r);rfl
 |int i=>obtain⟨t,e⟩:=(show∃t,u=Value.int i t from r);cases e;rfl
 |str x=>obtain⟨t,e⟩:=(show∃t,u=Value.str x t from r);cases e;rfl
 |byt b=>obtain⟨t,e⟩:=(show∃t,u=Value.bytes b t from r);cases e;rfl
 |flt b=>obtain⟨t,e⟩:=(show∃t,u=Value.float b t from r);cases e;rfl
 |ref a=>cases(show u=Value.ref a from r);rfl
 |ty n=>cases(show u=Value.type n from r);rfl
section
variable{P:Program}{w:World}{H H':Hp}{h h':Heap}{a C dx:Addr}{fs fs':List (Str×V)}
theorem C2w(hok:HOk P w H h)(e:H a=some (.ins C dx fs)):∃mA,ObjM h a dx C mA/\(∀f,RelO (fs.lookup f) (mA f))/\PySem.Within mA (fs.map (·.1))/\fs.length<=1000/\H dx=some (.own a):=by
 obtain⟨d,z,ne,ob,mA,n,r,q⟩:=(show ObjOk P w H h a (.ins C dx fs) from hok a _ e)
 exact⟨mA,⟨ob,n,ne⟩,r,q,z,d⟩
end
structure Cls(K:PySem.W.Frag)(C:Addr):Prop where
 pg:PySem.W.plainGet K C Str.empty=true
 hd:PySem.W.hasDictIn K C=true
 po:PySem.W.plainOver K C=true
 sa:PySem.W.findIn K (.ref C) "__setattr__"=some (some (.builtin "object.__setattr__"))
theorem Cls.get{K:PySem.W.Frag}{C:Addr}(c:Cls K C)(f:Str):PySem.W.plainGet K C f=true:=c.pg
noncomputable def NoAttr (K:PySem.W.Frag) (C:Addr) (f:Str):Prop:=PySem.W.findIn K (.ref C) f=some none
theorem NoAttr.taker{K:PySem.W.Frag}{C:Addr}{f:Str}(n:NoAttr K C f):PySem.W.takerIn K C f=some none:=by
 unfold PySem.W.takerIn
 rw[show PySem.W.findIn K (.ref C) f=some none from n]
 rfl
structure Meth(K:PySem.W.Frag)(C:Addr)(m:Str)(f:Addr):Prop where
 at_:PySem.W.findIn K (.ref C) m=some (some (.ref f))
 fn:PySem.W.isFn K (.ref f)=true
 kp:PySem.W.keepIn K (.ref f)=true
section
variable{X:Cx}{pins:List (Addr×Obj)}{σ:St}{H:Hp}{s:Shared}{a C dx:Addr}{fs:List (Str×V)}{f:Str}{v:V}{A:Around}{E:Value ->Shared ->Prop}
theorem G9r{b:Bool}{Q:Value ->Shared ->Prop}(I:Inv X pins σ H s)(e:H a=some (.ins C dx fs))(c:Cls X.K C)(n:NoAttr X.K C f)(l:fs.lookup f=some v)
   (h:∀u s',Inv X pins σ H s' ->RelV v u ->Q u s'):wpAny (model X.prog X.w) A (getAttr (.ref a) f b) Q E s:=by
 obtain⟨mA,O,r,_,_,_⟩:=C2w I.hok e
 obtain⟨u,hu,ru⟩:=RelO.some_of (v:=v) (o:=mA f) (by rw[<-l];exact r f)
 exact Y9j I.kIn O (c.get f) c.hd n hu (U4w ru) (h u _ (I.tok _) ru)
theorem C3p{m:Str}{g:Addr}{pl:Sem Bool}{Q:Value×List Value ->Shared ->Prop}(I:Inv X pins σ H s)(e:H a=some (.ins C dx fs))(c:Cls X.K C)(k:Meth X.K C m g)(l:fs.lookup m=none)
   (h:Q (.ref g,[.ref a]) s):wpAny (model X.prog X.w) A (getMethod (.ref a) m pl) Q E s:=by
 obtain⟨mA,O,r,_,_,_⟩:=C2w I.hok e
 have hn:mA m=none:=RelO.none_of (by rw[<-l];exact r m)
 exact V1f I.kIn O (c.get m) k.at_ k.fn hn h
theorem J0f{y:V}{u:Value}{Q:Unit ->Shared ->Prop}(I:Inv X pins σ H s)(e:H a=some (.ins C dx fs))(c:Cls X.K C)(n:NoAttr X.K C f)(hl:fs.length<1000)(ry:RelV y u)
   (h:∀s',Inv X pins σ (upd H a (.ins C dx (V6 f y fs))) s' ->Q () s'):wpAny (model X.prog X.w) A (setAttr (.ref a) f u) Q E s:=by
 obtain⟨mA,O,r,wi,_,ho⟩:=C2w I.hok e
 have hz:(fs.map (·.1)).length<=sizeLine:=by rw[List.length_map,sizeLine_eq];omega
 refine Y7w I.kIn O c.sa c.po n.taker c.hd wi hz fun h' O' sb=>h _ ?_
 have hd:∃o,h'.get? dx=some o:=let⟨o,_,_,e',_⟩:=O'.ns;⟨o,e'⟩
 refine I.write (x:=a) (e:=dx) (by rw[e];exact True.intro) (.inr ho) (fun b q hb z=>(sb.2 b hb).trans z) hd ?_
 refine⟨by rw[D4 O.ne];exact ho,?_,O.ne,O'.obj,_,O'.ns,fun g=>?_,fun g hg=>?_⟩
 . have:=A2d f y fs;omega
 . show RelO ((V6 f y fs).lookup g) (if g=f then some u else mA g)
   rw[G3]
   by_cases q:g=f
   . rw[if_pos q,if_pos q];exact ry
   . rw[if_neg q,if_neg q];exact r g
 . by_cases q:g=f
   . rw[q];exact(B7s f y fs).1
   . refine(B7s f y fs).2 g (wi g fun z=>hg ?_)
     show(if g=f then some u else mA g)=none
     rw[if_neg q];exact z
theorem Inv.made(I:Inv X pins σ H s):Inv X pins σ (upd (upd H s.heap.objs.size (.own (s.heap.objs.size+1))) (s.heap.objs.size+1) (.ins C s.heap.objs.size []))
   {s with heap:=(s.heap.push PySem.W.emptyDict).push (PySem.W.instObj C s.heap.objs.size)}:=by
 have e1:(s.heap.push PySem.W.emptyDict).get? s.heap.objs.size=some PySem.W.emptyDict:=Heap.get?_push_size s.heap rfl
 have e2:((s.heap.push PySem.W.emptyDict).push (PySem.W.instObj C s.heap.objs.size)).get? (s.heap.objs.size+1)=some (PySem.W.instObj C s.heap.objs.size):=by
   have:=Heap.get?_push_size (s.heap.push PySem.W.emptyDict) (o:=PySem.W.instObj C s.heap.objs.size) rfl
   rwa[Heap.size_push] at this
 have e3:(s.heap.push PySem.W.emptyDict).Ns s.heap.objs.size (fun _=>none):=⟨PySem.W.emptyDict, #[],_,e1,rfl,(fun e he=>absurd he (by simp)),fun _=>rfl⟩
 have I1:=I.laid (a:=s.heap.objs.size) (o:= .own (s.heap.objs.size+1)) (h':=s.heap.push PySem.W.emptyDict) (t':=s.toks) (fun b u q=>Heap.get?_push_of_some _ q) (Nat.le_refl _) ⟨_,e1⟩
 refine I1.laid (a:=s.heap.objs.size+1) (o:= .ins C s.heap.objs.size []) (t':=s.toks) (fun b u q=>Heap.get?_push_of_some _ q) (Nat.le_of_eq (Heap.size_push _ _)) ?_
 have ne:s.heap.objs.size≠s.heap.objs.size+1:=Nat.ne_of_lt (Nat.lt_succ_self _)
 refine⟨by rw[D4 ne,B5],Nat.zero_le _,ne,e2,fun _=>none,(Heap.Ns1.of_empty e3).at fun o q=>Heap.get?_push_of_some _ q,fun _=>True.intro,fun y hy=>absurd rfl hy⟩
theorem Y9f{prog:Program}{w:World}{env:Env}{e:Expr}{f:Str}{pos:Pos}{s:Shared}{Q:Value ->Shared ->Prop}(hb:attributeBase e f env (eval e env)=eval e env)
   (h:wpAny (model prog w) A (eval e env) (fun o s₁=>wpAny (model prog w) A (getAttr o f true) Q E s₁) E s):wpAny (model prog w) A (eval (.Attribute e f pos) env) Q E s:=
 Attribute_any_ h (by rw[arm_eval_Attribute,hb])
end
noncomputable def tFld (K:PySem.W.Frag) (ta:TE) (f:Str):TE:=fun σ H Q=>ta σ H fun x H1=>∃a C dx fs v,x= .ref a/\H1 a=some (.ins C dx fs)/\Cls K C/\NoAttr K C f/\fs.lookup f=some v/\Q v H1
noncomputable def sFld (K:PySem.W.Frag) (ta tv:TE) (f:Str):TS:=fun D σ H=>tv σ H fun y H1=>ta σ H1 fun x H2=>∃a C dx fs,x= .ref a/\H2 a=some (.ins C dx fs)/\Cls K C/\NoAttr K C f/\fs.length<1000/\
 D.nx σ (upd H2 a (.ins C dx (V6 f y fs)))
section
variable{X:Cx}{o e value:Expr}{f:Str}{pos pos' tpos:Pos}{ta tv:TE}
theorem D5(he:PE X e ta)(hb:attributeBase e f X.env (eval e X.env)=eval e X.env):PE X (.Attribute e f pos) (tFld X.K ta f):=by
 intro pins s σ H Q I h
 refine Y9f hb (thn (he pins s σ H _ I h) fun u s1 hh_=>?_)
 obtain⟨x,H1,I1,rx,a,C,dx,fs,v,ex,ea,c,n,l,q⟩:=hh_
 subst ex
 obtain rfl:u=Value.ref a:=rx
 exact G9r I1 ea c n l fun u' s2 I2 ru=>⟨v,H1,I2,ru,q⟩
theorem A0r(ha:PE X o ta)(hv:PE X value tv)(hs:swapsWith value (some (.Attribute o f pos')) pos.line X.env=pure false):PS X (.Assign [.Attribute o f pos'] value pos) (sFld X.K ta tv f):=by
 intro pins s σ H D I h
 refine plainObj_wpAny_Assign_Attribute (thn (hv pins s σ H _ I h) fun u s1 ⟨y,H1,I1,ry,q⟩=>thn (ha pins s1 σ H1 _ I1 q) fun ov s2 hh_=>?_) hs
 obtain⟨x,H2,I2,rx,a,C,dx,fs,ex,ea,c,n,l,q2⟩:=hh_
 subst ex
 obtain rfl:ov=Value.ref a:=rx
 exact J0f I2 ea c n l ry fun s3 I3=>⟨σ,_,I3,q2⟩
end
section
variable{X:Cx}{pins:List (Addr×Obj)}{σ:St}{H:Hp}{s:Shared}{A:Around}{E:Value ->Shared ->Prop}{Q:Value ->Shared ->Prop}{c:Value}{b:Bool}
inductive TyOf(K:PySem.W.Frag)(H:Hp):V ->Value ->Prop where
 |non:TyOf K H .non (.type "NoneType")
 |bl (x:Bool):TyOf K H (.bl x) (.type "bool")
 |int (i:Int):TyOf K H (.int i) (.type "int")
 |str (x:Str):TyOf K H (.str x) (.type "str")
 |flt (x:UInt64):TyOf K H (.flt x) (.type "float")
 |lst {a:Addr} {xs:List V} (e:H a=some (.lst xs)):TyOf K H (.ref a) (.type "list")
 |frz {a:Addr} {o:Obj} {xs:List V} (e:H a=some (.frz o (.lst xs))):TyOf K H (.ref a) (.type "list")
 |tup {a:Addr} {xs:List V} (e:H a=some (.tup xs)):TyOf K H (.ref a) (.type "tuple")
 |dK {a:Addr} {kvs:List (Key×V)} (e:H a=some (.dK kvs)):TyOf K H (.ref a) (.type "dict")
 |dT {a:Addr} {kvs:List (List Key×V)} (e:H a=some (.dT kvs)):TyOf K H (.ref a) (.type "dict")
 |ins {a C dx:Addr} {fs:List (Str×V)} (e:H a=some (.ins C dx fs)) (cl:Cls K C) (ha:PySem.W.findIn K (.ref C) "__class__"=some (some (.builtin "object.__class__")))
     (hn:PySem.W.specialIn K (.builtin "object.__class__") "__get__"=some (some (.builtin "getset_descriptor.__get__"))) (htk:PySem.W.takesIn K (.builtin "object.__class__")=some true)
     (hm:PySem.W.mroIn K C (.type "object")=some true):TyOf K H (.ref a) (.ref C)
theorem U4n{x:V}{u t:Value}(I:Inv X pins σ H s)(rx:RelV x u)(ty:TyOf X.K H x t)(e:PySem.W.kitOne X.K t c=some b)(h:∀tk,Q (.bool b) {s with toks:=tk}):
   wpAny (model X.prog X.w) A (call (.builtin "isinstance") [u,c]) Q E s:=by
 cases ty with
 |non=>cases(show u=Value.none from rx);exact PySem.W.kia_one PySem.W.kitx_none I.kIn True.intro e (fun z=>nomatch z) h
 |bl y=>cases(show u=Value.bool y from rx);exact PySem.W.kia_one PySem.W.kitx_bool I.kIn True.intro e (fun z=>nomatch z) h
 |int i=>obtain⟨t,q⟩:=(show∃t,u=Value.int i t from rx);cases q;exact PySem.W.kia_one PySem.W.kitx_int I.kIn True.intro e (fun z=>nomatch z) h
 |str y=>obtain⟨t,q⟩:=(show∃t,u=Value.str y t from rx);cases q;exact PySem.W.kia_one PySem.W.kitx_str I.kIn True.intro e (fun z=>nomatch z) h
 |flt y=>obtain⟨t,q⟩:=(show∃t,u=Value.float y t from rx);cases q;exact PySem.W.kia_one PySem.W.kitx_float I.kIn True.intro e (fun z=>nomatch z) h
 | @lst a xs ea=>
   cases(show u=Value.ref a from rx)
   obtain⟨_,_,n,_,h1⟩:=(show ObjOk X.prog X.w H s.heap a (.lst xs) from I.hok a _ ea)
   exact PySem.W.kia_one PySem.W.kitx_list I.kIn ⟨_,h1,rfl⟩ e (fun z=>nomatch z) h
 | @frz a ob xs ea=>
   cases(show u=Value.ref a from rx)
   obtain⟨_,_,_,n,_,h1⟩:=(show ObjOk X.prog X.w H s.heap a (.frz ob (.lst xs)) from I.hok a _ ea)
   exact PySem.W.kia_one PySem.W.kitx_list I.kIn ⟨_,h1,rfl⟩ e (fun z=>nomatch z) h
 | @tup a xs ea=>
   cases(show u=Value.ref a from rx)
   obtain⟨_,_,_,p⟩:=(show ObjOk X.prog X.w H s.heap a (.tup xs) from I.hok a _ ea)
   obtain⟨o,h1,h2,_⟩:=p
   exact PySem.W.kia_one PySem.W.kitx_tuple I.kIn ⟨o,h1,h2⟩ e (fun z=>nomatch z) h
 | @dK a kvs ea=>
   cases(show u=Value.ref a from rx)
   obtain⟨_,_,vs,_,p⟩:=(show ObjOk X.prog X.w H s.heap a (.dK kvs) from I.hok a _ ea)
   obtain⟨o,es,ep,h1,h2,_⟩:=p
   exact PySem.W.kia_one PySem.W.kitx_dict I.kIn ⟨o,h1,h2.1⟩ e (fun z=>nomatch z) h
 | @dT a kvs ea=>
   cases(show u=Value.ref a from rx)
   obtain⟨_,_,xs,_,o,es,ep,h1,h2,_⟩:=(show ObjOk X.prog X.w H s.heap a (.dT kvs) from I.hok a _ ea)
   exact PySem.W.kia_one PySem.W.kitx_dict I.kIn ⟨o,h1,h2.1⟩ e (fun z=>nomatch z) h
 | @ins a C dx fs ea cl ha hn htk hm=>
   cases(show u=Value.ref a from rx)
   obtain⟨mA,O,_⟩:=C2w I.hok ea
   obtain⟨od,J,_⟩:=O.look
   exact PySem.W.kia_one (PySem.W.kitx_own (cl.get _) cl.hd ha hn htk hm) I.kIn J e (fun z=>nomatch z) h
end
structure Room(k:Nat)(A:Around):Prop where
 hd:A.handled=none
 dp:A.depth+3*k+5<recursionLimit
 un:A.units+16*k+200<cLine
theorem Room.mono{j k:Nat}{A:Around}(r:Room k A)(h:j<=k):Room j A:=⟨r.hd,by have:=r.dp;omega,by have:=r.un;omega⟩
theorem Room.deeper{k:Nat}{A:Around}(r:Room (k+1) A)(env:Env):Room k (A.deeper env):=
 ⟨r.hd,by have:=r.dp;show A.depth+1+3*k+5<_;omega,by have:=r.un;show A.units+3+16*k+200<_;omega⟩
theorem G9p{A:Around}{C:Addr}{us:List Value}{kw:List (Str×Value)}:(A.under (.builtin "type.__call__" ⟨.ref C::us,kw⟩)).depth=A.depth+1:=by
 first|rfl|simp[Around.under,Code.weight,Code.isCreation,Code.isGuard,Code.isCaller,Code.frames,Code.isFrame,guardIds]
theorem J0t{A:Around}{C:Addr}{us:List Value}{kw:List (Str×Value)}:(A.under (.builtin "type.__call__" ⟨.ref C::us,kw⟩)).units=A.units+1:=by
 first|rfl|simp[Around.under,Code.cUnits,Code.frames,Code.isFrame]
theorem Room.make{k:Nat}{A:Around}(r:Room (k+1) A)(C:Addr)(us:List Value)(kw:List (Str×Value)):Room k (A.under (.builtin "type.__call__" ⟨.ref C::us,kw⟩)):=
 ⟨r.hd,by have:=r.dp;rw[G9p];omega,by have:=r.un;rw[J0t];omega⟩
theorem Room.depth{k:Nat}{A:Around}(r:Room k A):A.depth<recursionLimit:=by have:=r.dp;omega
theorem Room.units{k:Nat}{A:Around}(r:Room k A):A.units+64<cLine:=by have:=r.un;omega
noncomputable def U4d:TA:=fun _ H Q=>Q [] H
noncomputable def G6j (ta:TE) (tr:TA):TA:=fun σ H Q=>ta σ H fun x H1=>tr σ H1 fun xs H2=>Q (x::xs) H2
section
variable{X:Cx}{e:Expr}{es:List Expr}{te:TE}{t:TA}{pos:Pos}
theorem A5:PA X [] U4d:=fun _ _ _ _ H Q I h=>Calls.spliced_nil ⟨[],H,I,.nil,h⟩
theorem A1(ha:PE X e te)(hr:PA X es t)(hs:starEach (e::es) X.env=(false,eval e X.env)::starEach es X.env:=by rfl):PA X (e::es) (G6j te t):=by
 intro pos pins s σ H Q I h
 rw[hs]
 show wpAny _ _ (spliced ((false,eval e X.env)::backTo pos (starEach es X.env))) _ _ s
 refine Calls.spliced_cons (thn (ha pins s σ H _ I h) fun u s1 hh_=>?_)
 obtain⟨x,H1,I1,r1,q1⟩:=hh_
 exact thn (hr pos pins s1 σ H1 _ I1 q1) fun us s2 ⟨xs,H2,I2,r2,q2⟩=>⟨x::xs,H2,I2,.cons r1 r2,q2⟩
noncomputable def tTup (t:TA):TE:=fun σ H Q=>t σ H fun xs H1=>xs.length<=sizeLine/\∀p,H1 p=none ->Q (.ref p) (upd H1 p (.tup xs))
noncomputable def tLst (t:TA):TE:=fun σ H Q=>t σ H fun xs H1=>xs.length<=sizeLine/\∀p,H1 p=none ->Q (.ref p) (upd H1 p (.lst xs))
theorem V3{x1}(h:PA X es t):PE X (.Tuple es x1 pos) (tTup t):=by
 intro pins s σ H Q I hq
 refine wpAny_Tuple_spliced (thn (h pos pins s σ H _ I hq) fun us s1 ⟨xs,H1,I1,r,z,q⟩=>⟨by rw[<-r.length];exact z,?_⟩)
 have hf:H1 s1.heap.objs.size=none:=I1.hok.fresh (Nat.le_refl _)
 refine⟨.ref s1.heap.objs.size,upd H1 s1.heap.objs.size (.tup xs),I1.laid (t':=s1.toks) (fun b u e=>Heap.get?_push_of_some _ e) (Nat.le_refl _) ?_,rfl,q _ hf⟩
 exact⟨z,us,r,⟨_,Heap.get?_push_size _ rfl,rfl,_,rfl⟩⟩
theorem U1(h:PA X es t):PE X (.List es pos) (tLst t):=by
 intro pins s σ H Q I hq
 refine wpAny_List_spliced (thn (h pos pins s σ H _ I hq) fun us s1 ⟨xs,H1,I1,r,z,q⟩=>⟨by rw[<-r.length];exact z,?_⟩)
 have hf:H1 s1.heap.objs.size=none:=I1.hok.fresh (Nat.le_refl _)
 refine⟨.ref s1.heap.objs.size,upd H1 s1.heap.objs.size (.lst xs),I1.laid (t':=s1.toks) (fun b u e=>Heap.get?_push_of_some _ e) (Nat.le_refl _) ?_,rfl,q _ hf⟩
 exact⟨z,us,0,r,Heap.get?_push_size _ rfl⟩
end
noncomputable abbrev Sp:=List V ->Hp ->VK ->XK ->Prop
noncomputable abbrev CXT:=List Env ->Hp ->Shared ->XK ->Value ->Shared ->Prop
structure Env0(P:Program)(w:World)(K:PySem.W.Frag)(mg:Str ->Option Value)(base:Heap)(A:Around)(outer:List Env)(s:Shared)(H:Hp):Prop where
 frames:A.frames=some outer
 mod:Mod K mg base
 bs:∀b o,base.get? b=some o ->s.heap.get? b=some o/\H b=none
 bsz:base.objs.size<=s.heap.objs.size
 funs:s.heap.FunFrames base outer
 frf:∀b∈frs outer,H b=none
 hok:HOk P w H s.heap
 bare:AllBare s.gens
noncomputable def CE (outer:List Env) (P:Program) (w:World) (H:Hp) (s:Shared) (Q:VK) (u:Value) (s':Shared):Prop:=
 ∃v H',s'.os=s.os/\AllBare s'.gens/\Un (frs outer) [] H H' s.heap s'.heap/\HOk P w H' s'.heap/\RelV v u/\Q v H'
noncomputable def CR (CX:CXT) (outer:List Env) (P:Program) (w:World) (H:Hp) (s:Shared) (Q:VK) (E:XK) (r:Result) (s':Shared):Prop:=
 match r with
 | .ok (.ret u)=>CE outer P w H s Q u s'
 | .ok _=>False
 | .error e=>CX outer H s E e s'
structure FnOk(P:Program)(w:World)(K:PySem.W.Frag)(mg:Str ->Option Value)(base:Heap)(CX:CXT)(k:Nat)(f:Addr)(fd:FuncData)(ps:List Str)(sp:Sp):Prop where
 len:∀vs H Q E,sp vs H Q E ->vs.length=ps.length
 run:∀(A:Around) (outer:List Env) (s:Shared) (H:Hp) (args:Args) (us:List Value) (vs:List V) (Q:VK) (E:XK),Room k A ->Env0 P w K mg base A outer s H ->BindsTo s fd args (ps.zip us) ->Vals vs us ->sp vs H Q E ->
   codeAny (model P w) A (.call (.ref f) args) (CR CX outer P w H s Q E) s
theorem FnOk.mono{P:Program}{w:World}{K:PySem.W.Frag}{mg:Str ->Option Value}{base:Heap}{CX:CXT}{j k:Nat}{f:Addr}{fd:FuncData}{ps:List Str}{sp:Sp}(F:FnOk P w K mg base CX j f fd ps sp)(h:j<=k):
   FnOk P w K mg base CX k f fd ps sp:=⟨F.len,fun A outer s H args us vs Q E hr=>F.run A outer s H args us vs Q E (hr.mono h)⟩
theorem Env0.make{P:Program}{w:World}{K:PySem.W.Frag}{mg:Str ->Option Value}{base:Heap}{A:Around}{outer:List Env}{s:Shared}{H:Hp}(e:Env0 P w K mg base A outer s H)(C:Addr)(us:List Value)(kw:List (Str×Value)):
   Env0 P w K mg base (A.under (.builtin "type.__call__" ⟨.ref C::us,kw⟩)) outer s H:=⟨by first|exact e.frames|(simpa[Around.under,Code.envs,Code.isFrame,pushEnvs] using e.frames),e.mod,e.bs,e.bsz,e.funs,e.frf,e.hok,e.bare⟩
section
variable{X:Cx}{pins:List (Addr×Obj)}{σ:St}{H:Hp}{s s':Shared}
theorem Inv.env0(I:Inv X pins σ H s):Env0 X.prog X.w X.K X.mg X.base X.A X.stack s H:=
 ⟨I.ok.frames,I.ok.mod,I.bs,Nat.le_trans I.ok.bsz I.sz,I.stack,I.stkFree,I.hok,I.bare⟩
theorem Inv.after{Q:VK}{u:Value}(I:Inv X pins σ H s)(h:CE X.stack X.prog X.w H s Q u s'):EP X pins σ Q u s':=by
 obtain⟨v,H',os,bare,un,hok,r,q⟩:=h
 obtain⟨hh,g,d,t,os'⟩:=s'
 obtain rfl:os'=s.os:=os
 exact⟨v,H',I.call (h':=hh) (g':=g) (d':=d) (t':=t) (ch:=[]) un hok bare (fun b z=>absurd z (by simp)),r,q⟩
end
noncomputable def Z9g (C:Addr) (sp:Sp) (dvs:List V) (E:XK) (t:TA):TE:=fun σ H Q=>t σ H fun vs H1=>∀x dx,H1 x=none ->H1 dx=none ->dx≠x ->
 sp (.ref x::(vs++dvs)) (upd (upd H1 dx (.own x)) x (.ins C dx [])) (fun v H2=>v= .non/\Q (.ref x) H2) E
noncomputable def Binds (K:PySem.W.Frag) (fd:FuncData) (ps:List Str) (ds:List Value):Prop:=
 ∀(s:Shared) (us:List Value),K.In s.heap ->(us++ds).length=ps.length ->BindsTo s fd ⟨us,[]⟩ (ps.zip (us++ds))
theorem Binds.all{K:PySem.W.Frag}{fd:FuncData}{ps:List Str}(h:∀us:List Value,us.length=ps.length ->bindArgs fd ⟨us,[]⟩=pure (ps.zip us)):Binds K fd ps []:=fun s us _ hl=>by
 rw[List.append_nil] at hl ⊢
 exact .of_eq (h us hl)
noncomputable def G9q (CX:CXT) (X:Cx) (E:XK):Prop:=∀(pins:List (Addr×Obj)) (σ:St) (H:Hp) (s:Shared) (e:Value) (s':Shared),Inv X pins σ H s ->CX X.stack H s E e s' ->X.xe e s'
section
variable{X:Cx}{CX:CXT}{k:Nat}{f C:Addr}{fd:FuncData}{ps:List Str}{sp:Sp}{dvs:List V}{ds:List Value}{E:XK}{x m:Str}{p pos apos:Pos}{e o:Expr}{es:List Expr}{ta:TE}{t:TA}
structure Mk(K:PySem.W.Frag)(C f:Addr):Prop where
 makes:PySem.W.makesIn K C=true
 init:PySem.W.findIn K (.ref C) "__init__"=some (some (.ref f))
 fn:PySem.W.isFn K (.ref f)=true
 kp:PySem.W.keepIn K (.ref C)=true
theorem U9t{pins:List (Addr×Obj)}{σ:St}{H:Hp}{s:Shared}{Q:VK}{us:List Value}{vs:List V}(M:Mk X.K C f)(F:FnOk X.prog X.w X.K X.mg X.base CX k f fd ps sp)(hr:Room (k+1) X.A)(hb:Binds X.K fd ps ds)(hd:Vals dvs ds)
   (hx:G9q CX X E) (I:Inv X pins σ H s) (r:Vals vs us)
   (h:∀x dx,H x=none ->H dx=none ->dx≠x ->sp (.ref x::(vs++dvs)) (upd (upd H dx (.own x)) x (.ins C dx [])) (fun v H2=>v= .non/\Q (.ref x) H2) E):
   wpAny (model X.prog X.w) X.A (call (.ref C) us) (EP X pins σ Q) X.xe s:=by
 have hq:=h (s.heap.objs.size+1) s.heap.objs.size (I.hok.fresh (Nat.le_succ _)) (I.hok.fresh (Nat.le_refl _)) (Nat.ne_of_lt (Nat.lt_succ_self _))
 have I2:=Inv.made (C:=C) I
 have r2:Vals (V.ref (s.heap.objs.size+1)::(vs++dvs)) (Value.ref (s.heap.objs.size+1)::(us++ds)):= .cons rfl (r.append hd)
 have hl:(Value.ref (s.heap.objs.size+1)::us++ds).length=ps.length:=by
   have e:=r2.length
   rw[F.len _ _ _ _ hq] at e
   exact e.symm
 refine wpAny_call (G5u (f:=f) I.kIn M.makes M.init (beq_iff_eq.mp M.fn) (codeAny_mono (F.run _ X.stack _ _ ⟨Value.ref (s.heap.objs.size+1)::us,[]⟩ (Value.ref (s.heap.objs.size+1)::(us++ds)) _ _ E (hr.make C us [])
   (I2.env0.make C us []) (hb _ (Value.ref (s.heap.objs.size+1)::us) I2.kIn hl) r2 hq) fun r s' hq'=>?_))
 cases r with
 |error e=>exact hx pins σ _ _ e s' I2 hq'
 | ok fl=>
   cases fl with
   | ret u=>
     obtain⟨v,H',I3,rv,ev,q3⟩:=I2.after hq'
     subst ev
     exact⟨rv,⟨V.ref (s.heap.objs.size+1),H',I3,rfl,q3⟩⟩
   |next=>exact False.elim hq'
   |brk=>exact False.elim hq'
   |cont=>exact False.elim hq'
theorem D4u(M:Mk X.K C f)(F:FnOk X.prog X.w X.K X.mg X.base CX k f fd ps sp)(hr:Room (k+1) X.A)(hg:Gl X x)(hm:X.mg x=some (.ref C))(hb:Binds X.K fd ps ds)(hd:Vals dvs ds)(hx:G9q CX X E)
   (ha:PA X (e::es) t) (hdb:(x==("__debug__":Str))=false:=by decide) (he:starEach (e::es) X.env=(false,eval e X.env)::starEach es X.env:=by rfl) (hpl:(backTo pos (starEach es X.env)).any (·.1)=false:=by rfl):
   PE X (.Call (.Name x p) (e::es) [] pos) (Z9g C sp dvs E t):=by
 intro pins s σ H Q I h
 refine wpAny_Call_Name_kw (A1t I hg hm ?_ hdb)
 refine PySem.W.callWith_K (h₀:=X.base) I.ok.mod.kin M.kp (thn (ha pos pins s σ H _ I h) fun us s1 ⟨vs,H1,I1,r,q⟩=>⟨I1.kIn,?_⟩) he hpl
 exact U9t M F hr hb hd hx I1 r q
end
section
variable{X:Cx}{CX:CXT}{k:Nat}{f C:Addr}{fd:FuncData}{ps ks:List Str}{sp:Sp}{E:XK}{x m:Str}{p pos apos kpos:Pos}{e o:Expr}{es:List Expr}{kws:List Keyword}{te ta:TE}{t tk:TA}{nm:Option Str}
structure KBinds(K:PySem.W.Frag)(fd:FuncData)(ps ks:List Str)(g:List Value ->List Value ->List Value)(gV:List V ->List V ->List V):Prop where
 to:∀(s:Shared) (us ws:List Value),K.In s.heap ->(g us ws).length=ps.length ->BindsTo s fd ⟨us,ks.zip ws⟩ (ps.zip (g us ws))
 rel:∀{vs:List V} {us:List Value} {zs:List V} {ws:List Value},Vals vs us ->Vals zs ws ->Vals (gV vs zs) (g us ws)
variable{g:List Value ->List Value ->List Value}{gV:List V ->List V ->List V}
end
structure FnScope(N P:List Str)(sc:Scope):Prop where
 kind:sc.kind= .function
 co:sc.isCoroutine=false
 gen:sc.isGenerator=false
 nd:N.Nodup
 pre:N.take P.length=P
 par:∀x∈P,sc.names.lookup x=some .local\/sc.names.lookup x=some .cell
 nofree:∀y∈sc.names,y.2≠ .free
theorem D1n{kindOf:Str ->Option NameKind}{x:Str}:∀{binds:List (Str×Value)} {m:Str ->Option Value},(∀v,(x,v) ∉ binds) ->bindL kindOf binds m x=m x
 | [],_,_=>rfl
 | (n,v)::r,m,h=>by
   unfold bindL
   rw[D1n fun w hw=>h w (List.mem_cons_of_mem _ hw)]
   split
   . have:x≠n:=by rintro rfl;exact h v List.mem_cons_self
     simp[this]
   . rfl
theorem D2p{kindOf:Str ->Option NameKind}{x:Str}:∀{binds:List (Str×Value)} {m:Str ->Option Value},(∀v,(x,v) ∉ binds) ->bindC kindOf binds m x=m x
 | [],_,_=>rfl
 | (n,v)::r,m,h=>by
   unfold bindC
   rw[D2p fun w hw=>h w (List.mem_cons_of_mem _ hw)]
   split
   . rfl
   . have:x≠n:=by rintro rfl;exact h v List.mem_cons_self
     simp[this]
theorem D2t{kindOf:Str ->Option NameKind}{x:Str}{v:Value}:∀{P:List Str} {vs:List Value} {i:Nat} {m:Str ->Option Value},P.Nodup ->P[i]?=some x ->vs[i]?=some v ->kindOf x=some .local ->
   bindL kindOf (P.zip vs) m x=some v
 | [],_,_,_,_,h,_,_=>by simp at h
 |_::_,[],_,_,_,_,h,_=>by simp at h
 | p::P,w::vs,0,m,nd,h1,h2,hk=>by
   simp at h1 h2;subst h1;subst h2
   show bindL kindOf ((p,w)::P.zip vs) m p=_
   unfold bindL
   rw[D1n fun v hv=>(List.nodup_cons.mp nd).1 (List.of_mem_zip hv).1,if_pos hk]
   simp
 | p::P,w::vs,i+1,m,nd,h1,h2,hk=>by
   show bindL kindOf ((p,w)::P.zip vs) m x=_
   unfold bindL
   exact D2t (i:=i) (List.nodup_cons.mp nd).2 (by simpa using h1) (by simpa using h2) hk
theorem D2c{kindOf:Str ->Option NameKind}{x:Str}{v:Value}:∀{P:List Str} {vs:List Value} {i:Nat} {m:Str ->Option Value},P.Nodup ->P[i]?=some x ->vs[i]?=some v ->kindOf x≠some .local ->
   bindC kindOf (P.zip vs) m x=some v
 | [],_,_,_,_,h,_,_=>by simp at h
 |_::_,[],_,_,_,_,h,_=>by simp at h
 | p::P,w::vs,0,m,nd,h1,h2,hk=>by
   simp at h1 h2;subst h1;subst h2
   show bindC kindOf ((p,w)::P.zip vs) m p=_
   unfold bindC
   rw[D2p fun v hv=>(List.nodup_cons.mp nd).1 (List.of_mem_zip hv).1,if_neg hk]
   simp
 | p::P,w::vs,i+1,m,nd,h1,h2,hk=>by
   show bindC kindOf ((p,w)::P.zip vs) m x=_
   unfold bindC
   exact D2c (i:=i) (List.nodup_cons.mp nd).2 (by simpa using h1) (by simpa using h2) hk
noncomputable def A4a (N:List Str) (vs:List V):St:=vs.map some++List.replicate (N.length-vs.length) none
noncomputable def A0f (CX:CXT) (P:Program) (w:World) (K:PySem.W.Frag) (mg:Str ->Option Value) (base:Heap) (N:List Str) (qual:Str) (scope:Scope) (f:Addr) (cd:Value) (A:Around) (outer:List Env) (s:Shared) (H:Hp) (E:XK):Cx where
 prog:=P
 w:=w
 K:=K
 mg:=mg
 base:=base
 A:=A.deeper (envOfC qual scope s.heap.objs.size f cd)
 N:=N
 s₀:=s
 H₀:=H
 env:=envOfC qual scope s.heap.objs.size f cd
 outer:=outer
 stack:=envOfC qual scope s.heap.objs.size f cd::outer
 ex:=[]
 calm:=true
 fn:=fun _=>true
 pn:=[]
 xe:=fun e s'=>wpAny (model P w) (A.deeper (envOfC qual scope s.heap.objs.size f cd)) (leaving (envOfC qual scope s.heap.objs.size f cd) e) (fun _ s''=>CX outer H s E e s'') (fun e' s''=>CX outer H s E e' s'') s'
theorem G6e{sc:Scope}{n:Nat}{x:Str}(h:sc.names.lookup x=some .cell):∃c,(cellsFrom n sc.names []).lookup x=some c:=by
 have q:=PySem.W.cellsFrom_some sc.names n [] (.inl h)
 exact Option.isSome_iff_exists.mp q
theorem D1y{CX:CXT}{P:Program}{w:World}{K:PySem.W.Frag}{mg:Str ->Option Value}{base:Heap}{N ps:List Str}{qual:Str}{scope:Scope}{f:Addr}{cd:Value}{A:Around}{outer:List Env}{s s1:Shared}{H:Hp}{E:XK}{us:List Value}{vs:List V}
   (S:FnScope N ps scope) (hd:A.handled=none) (e0:Env0 P w K mg base A outer s H) (hl:vs.length=ps.length) (r:Vals vs us)
   (x:InCallC s s.heap.objs.size (bindL (envOfC qual scope s.heap.objs.size f cd).kindOf (ps.zip us) fun _=>none) (cellsFrom (s.heap.objs.size+1) scope.names []) (bindC (envOfC qual scope s.heap.objs.size f cd).kindOf (ps.zip us) fun _=>none) s1):
   Inv (A0f CX P w K mg base N qual scope f cd A outer s H E) [] (A4a N vs) H s1:=by
 have hpl:ps.length<=N.length:=by have:=congrArg List.length S.pre;rw[List.length_take] at this;omega
 obtain⟨h1,tk,rfl,hk⟩:=x.done
 have noA:∀b:Addr,b ∉ (A0f CX P w K mg base N qual scope f cd A outer s H E).ex:=fun b z=>absurd (show b∈([]:List Addr) from z) (by simp)
 refine⟨⟨e0.mod,S.kind,rfl,rfl,Nat.le_refl _,fun y z c h1 h2=>?_,fun y hy=>?_,fun y c _ h=>?_,fun _=>hd,Around.frames_deeper e0.frames,.inr ⟨rfl,rfl⟩,fun b z=>absurd z (noA b),e0.bs,e0.bsz,fun b _ _=>noA b,fun b z=>absurd z (noA b),e0.funs,e0.frf⟩,
   rfl,e0.bare,Un.kept hk,⟨_,x.toInCall.ns,fun i y v h1 h2 h3=>?_⟩,fun y c h=>⟨_,x.cell y c h⟩,e0.hok.fresh (Nat.le_refl _),fun y c h=>?_,fun p hp=>absurd (show p∈([]:List (Addr×Obj)) from hp) (by simp),e0.hok.kept hk,?_⟩
 . exact name_of_addr x.apart (PySem.mem_of_lookup h1) (PySem.mem_of_lookup h2)
 . have hy:scope.names.lookup y=some .cell\/scope.names.lookup y=some .free:=hy
   rcases hy with hy|hy
   . exact G6e hy
   . exact absurd rfl (S.nofree _ (PySem.mem_of_lookup hy))
 . exact Nat.le_of_lt (x.above y c (PySem.mem_of_lookup h))
 . have hi:i<vs.length:=by
     unfold A4a at h2
     by_cases hi:i<vs.length
     . exact hi
     . rw[List.getElem?_append_right (by simpa using hi)] at h2
       rw[List.getElem?_replicate] at h2
       split at h2<;>cases h2
   have ha:vs[i]?=some v:=by
     unfold A4a at h2
     rw[List.getElem?_append_left (by simpa using hi),List.getElem?_map] at h2
     cases e:vs[i]? with
     |none=>rw[e] at h2;cases h2
     |some a=>rw[e] at h2;cases h2;rfl
   obtain⟨u,hu,rv⟩:=r.get ha
   have hp:ps[i]?=some y:=by
     rw[<-S.pre,List.getElem?_take_of_lt (by omega)];exact h1
   have ndP:ps.Nodup:=by rw[<-S.pre];exact S.nd.sublist (List.take_sublist _ _)
   refine⟨u,rv,?_⟩
   rcases S.par y (List.mem_of_getElem? hp) with k|k
   . exact .inl ⟨k,D2t ndP hp hu k⟩
   . obtain⟨c,e⟩:=G6e (n:=s.heap.objs.size+1) k
     refine .inr ⟨.inl k,c,e,?_⟩
     have q:=x.cell y c e
     rw[D2c ndP hp hu (by show scope.names.lookup y≠_;rw[k];decide)] at q
     exact q
 . exact e0.hok.fresh (Nat.le_of_lt (x.above y c (PySem.mem_of_lookup h)))
 . unfold A4a
   show _=N.length
   rw[List.length_append,List.length_map,List.length_replicate]
   omega
theorem V0c{CX:CXT}{P:Program}{w:World}{K:PySem.W.Frag}{mg:Str ->Option Value}{base:Heap}{k:Nat}{f:Addr}{name qual:Str}{params:Arguments}{body:List Stmt}{scope:Scope}{dV kV doc pm cdv ct oc:Value}{an od:Option Addr}
   {osl:Array (Option Value)} {N ps:List Str} {sp:Sp} (lk:K.lookup f=some ⟨oc,od,.func (PySem.W.fnOf name qual params body scope dV kV doc pm an cdv ct),osl⟩) (hcd:PySem.W.codeIn K cdv qual=true) (S:FnScope N ps scope)
   (len:∀vs H Q E,sp vs H Q E ->vs.length=ps.length)
   (hbody:∀(A:Around) (outer:List Env) (s:Shared) (H:Hp) (vs:List V) (Q:VK) (E:XK),Room k (A.deeper (envOfC qual scope s.heap.objs.size f cdv)) ->sp vs H Q E ->
     ∃t,PSs (A0f CX P w K mg base N qual scope f cdv A outer s H E) body t/\t {nx:=fun _ H'=>Q .non H',rt:=Q} (A4a N vs) H):
   FnOk P w K mg base CX (k+1) f (PySem.W.fnOf name qual params body scope dV kV doc pm an cdv ct) ps sp:=by
 refine⟨len,fun A outer s H args us vs Q E hr e0 hb r hsp=>?_⟩
 have hl:=len _ _ _ _ hsp
 have KX:K.In s.heap:=e0.mod.kin.keeps fun b o e=>(e0.bs b o e).1
 have lim:s.heap.NoLimit:=e0.mod.nolimit.keeps fun b o e=>(e0.bs b o e).1
 have hkind:∀y∈ps.zip us,scope.names.lookup y.1=some .local\/(scope.names.lookup y.1=some .cell/\((cellsFrom (s.heap.objs.size+1) scope.names []).lookup y.1).isSome=true):=fun⟨n,v⟩ hy=>by
   rcases S.par n (List.of_mem_zip hy).1 with q|q
   . exact .inl q
   . exact .inr ⟨q,PySem.W.cellsFrom_some _ _ _ (.inl q)⟩
 refine codeAny_call_function hr.depth (KX _ _ lk) rfl S.co S.gen rfl (PySem.W.codeRec_of KX hcd) (hb _ _ _ _ ?_)
 refine wpAny_newFunctionEnv_cells S.kind hkind fun env he s1 x=>?_
 subst he
 refine⟨lim.keeps x.toInCall.keep,codeAny_func ?_⟩
 obtain⟨t,ht,hq⟩:=hbody A outer s H vs Q E (hr.deeper _) hsp
 have I:Inv (A0f CX P w K mg base N qual scope f cdv A outer s H E) [] (A4a N vs) H s1:=D1y S hr.hd e0 hl r x
 refine wpAny_mono (ht [] s1 (A4a N vs) H _ I hq) (fun fl s' hs=>?_) fun e s' hs=>hs
 have fin:∀{σ':St} {H':Hp} {v:V} {u:Value},Inv (A0f CX P w K mg base N qual scope f cdv A outer s H E) [] σ' H' s' ->RelV v u ->Q v H' ->CE outer P w H s Q u s':=
   fun{σ' H' v u} J rv q=>⟨v,H',J.os,J.bare,J.base,J.hok,rv,q⟩
 cases fl with
 | ret u=>
   obtain⟨v,σ',H',J,rv,q⟩:=hs
   exact fin J rv q
 | next=>
   obtain⟨σ',H',J,q⟩:=hs
   exact fin (v:=V.non) (u:=Value.none) J rfl q
 | brk=>
   obtain⟨_,_,_,q⟩:=hs
   exact False.elim q
 | cont=>
   obtain⟨_,_,_,q⟩:=hs
   exact False.elim q
section
variable{X:Cx}{x:Str}{p pos:Pos}{e:Expr}{es:List Expr}{t:TA}{id T:String}{r:List V ->Hp ->VK ->Prop}
noncomputable def tCB (r:List V ->Hp ->VK ->Prop) (t:TA):TE:=fun σ H Q=>t σ H fun vs H1=>r vs H1 Q
theorem J1(hc:A2x X (.builtin id) r)(hg:Gl X x)(hm:X.mg x=none)(hv:bootBuiltins x=some (.builtin id))(ha:PA X (e::es) t)(hn:x≠"__name__":=by decide)(hdb:(x==("__debug__":Str))=false:=by decide)
   (he:starEach (e::es) X.env=(false,eval e X.env)::starEach es X.env:=by rfl) (hpl:(backTo pos (starEach es X.env)).any (·.1)=false:=by rfl):PE X (.Call (.Name x p) (e::es) [] pos) (tCB r t):=by
 intro pins s σ H Q I h
 refine wpAny_Call_Name_kw (D4q I hg hm hv ?_ hn hdb)
 exact PyProof.Rows.callWith_builtin1 (thn (ha pos pins s σ H _ I h) fun us s1 ⟨vs,H1,I1,r1,q1⟩=>hc pins s1 σ H1 vs us Q I1 r1 q1) he hpl
theorem A5y(hc:A2x X (.type T) r)(hg:Gl X x)(hm:X.mg x=none)(hv:bootBuiltins x=some (.type T))(ha:PA X (e::es) t)(hn:x≠"__name__":=by decide)(hdb:(x==("__debug__":Str))=false:=by decide)
   (he:starEach (e::es) X.env=(false,eval e X.env)::starEach es X.env:=by rfl) (hpl:(backTo pos (starEach es X.env)).any (·.1)=false:=by rfl):PE X (.Call (.Name x p) (e::es) [] pos) (tCB r t):=by
 intro pins s σ H Q I h
 refine wpAny_Call_Name_kw (D4q I hg hm hv ?_ hn hdb)
 exact PyProof.Rows.callWith_type1 (thn (ha pos pins s σ H _ I h) fun us s1 ⟨vs,H1,I1,r1,q1⟩=>hc pins s1 σ H1 vs us Q I1 r1 q1) he hpl
end
end L2
namespace HT
open PySem PyProof.Rows
section
open PySem.SeqAt
open PySem.AutoSeq1 (wpAny_loadPart')
open PySem.MeetsSeq PySem.MeetsSeq2 PySem.MeetsSeq3
end
section
variable{prog:Program}{w:World}{A:Around}{E:Value ->Shared ->Prop}{s:Shared}
end
end HT
namespace L2
open PySem PySem.Spec PyProof.Rows
section
variable{X:Cx}{e:Expr}{te:TE}{lo hi:Option Expr}{tl th:TO}{pos p2:Pos}
end
noncomputable def ixN (n:Nat) (i:Int):Option Nat:=if 0<=i then(if i<n then some i.toNat else none) else if -(n:Int)<=i then some (i+n).toNat else none
noncomputable def atI {α:Type} (xs:List α) (i:Int):Option α:=(ixN xs.length i).bind fun j=>xs[j]?
theorem Y7k{n:Nat}{i:Int}{j:Nat}(h:ixN n i=some j):seqIndex? i n=some j/\j<n/\ -(n:Int)<=i/\i<n:=by
 unfold ixN at h
 by_cases h0:0<=i
 . rw[if_pos h0] at h
   by_cases h1:i<n
   . rw[if_pos h1] at h
     have e:i.toNat=j:=Option.some.inj h
     exact⟨by rw[seqIndex_of h0 h1,e],by omega,by omega,h1⟩
   . rw[if_neg h1] at h;cases h
 . rw[if_neg h0] at h
   by_cases h1: -(n:Int)<=i
   . rw[if_pos h1] at h
     have e:(i+n).toNat=j:=Option.some.inj h
     exact⟨by rw[seqIndex_neg (by omega) h1,e],by omega,h1,by omega⟩
   . rw[if_neg h1] at h;cases h
theorem U1u{α:Type}{xs:List α}{i:Int}{v:α}(h:atI xs i=some v):∃j,seqIndex? i xs.length=some j/\xs[j]?=some v/\j<xs.length/\ -(xs.length:Int)<=i/\i<xs.length:=by
 unfold atI at h
 cases e:ixN xs.length i with
 |none=>rw[e] at h;cases h
 | some j=>
   rw[e] at h
   obtain⟨h1,h2,h3,h4⟩:=Y7k e
   exact⟨j,h1,h,h2,h3,h4⟩
theorem G2{α:Type}{xs:List α}{j:Nat}{v:α}(h:xs[j]?=some v):atI xs (j:Int)=some v:=by
 have hj:j<xs.length:=(List.getElem?_eq_some_iff.mp h).1
 have e:ixN xs.length (j:Int)=some j:=by
   unfold ixN
   rw[if_pos (by omega),if_pos (by omega)];simp
 unfold atI;rw[e];exact h
noncomputable def Y6q (b:Expr):Prop:=∀o i,subscripted b false o i=operate [o,i] (getItem o i)
noncomputable def IxR (X:Cx) (r:R2):Prop:=
 ∀ (value slice:Expr) (pins:List (Addr×Obj)) (s:Shared) (σ:St) (H:Hp) (x y:V) (v u:Value) (Q:VK),Inv X pins σ H s ->RelV x v ->RelV y u ->r x y H Q ->
   subscripted slice false v u=operate [v,u] (getItem v u) ->wpAny (model X.prog X.w) X.A (subscriptTail value slice v u) (EP X pins σ Q) X.xe s
noncomputable def MtR (X:Cx) (id:String) (r:V ->List V ->Hp ->VK ->Prop):Prop:=
 ∀ (pins:List (Addr×Obj)) (s:Shared) (σ:St) (H:Hp) (x:V) (xs:List V) (v:Value) (us:List Value) (Q:VK),Inv X pins σ H s ->RelV x v ->Vals xs us ->r x xs H Q ->
   wpAny (model X.prog X.w) X.A (call (.builtin id) (v::us)) (EP X pins σ Q) X.xe s
section
variable{X:Cx}{a b:Expr}{ta tb:TE}{pos:Pos}
theorem U2{r:R2}(hr:IxR X r)(ha:PE X a ta)(hb:PE X b tb)(hs:Y6q b):PE X (.Subscript a b pos) (tOp r ta tb):=by
 intro pins s σ H Q I h
 exact Subscript_ (Z6a ha hb I h fun v u s2 x y H2 I2 rx ry q=>hr a b pins s2 σ H2 x y v u Q I2 rx ry q (hs _ _))
noncomputable def rIxL (K:PySem.W.Frag):R2:=fun x y H Q=>∃p xs i v,x= .ref p/\y= .int i/\SqL K H p xs/\atI xs i=some v/\Q v H
noncomputable def rIxT (K:PySem.W.Frag):R2:=fun x y H Q=>∃p xs i v,x= .ref p/\y= .int i/\SqT K H p xs/\atI xs i=some v/\Q v H
theorem A6y:IxR X (rIxL X.K):=by
 intro value slice pins s σ H x y v u Q I rx ry h hs
 obtain⟨p,xs,i,z,rfl,rfl,hq,he,q⟩:=h
 cases rx
 obtain⟨t,rfl⟩:=ry
 obtain⟨its,r,pl,hz⟩:=I.list hq
 obtain⟨j,h1,h2,h3,h4,h5⟩:=U1u he
 obtain⟨w,ew,rw'⟩:=r.get h2
 have hl:=r.length
 have hn:=D3n
 have fin:EP X pins σ Q w s:=⟨z,H,I,rw',q⟩
 by_cases h0:0<=i
 . have hj:i.toNat=j:=by
     rw[seqIndex_of h0 h5] at h1
     exact Option.some.inj h1
   exact item_listR pl.isList h0 (by omega) (by rw[hj];simpa using ew) fin hs
 . have hj:(i+(its.toArray.size:Int)).toNat=j:=by
     rw[seqIndex_neg (by omega) h4] at h1
     rw[List.size_toArray, <-hl]
     exact Option.some.inj h1
   exact subscriptTail_builtinR (x:=w) pl.isList.typeIs slot_list_getitem.lookup
     (wpAny_getItem_list_neg (Q:=fun r s'=>r=w/\EP X pins σ Q r s') pl.isList (by omega) (by rw[List.size_toArray]<;>omega) (by omega) (by rw[hj];simpa using ew) ⟨rfl,fin⟩) hs
theorem G8:IxR X (rIxT X.K):=by
 intro value slice pins s σ H x y v u Q I rx ry h hs
 obtain⟨p,xs,i,z,rfl,rfl,hq,he,q⟩:=h
 cases rx
 obtain⟨t,rfl⟩:=ry
 obtain⟨its,r,pl,hz⟩:=I.tuple hq
 obtain⟨j,h1,h2,h3,h4,h5⟩:=U1u he
 obtain⟨w,ew,rw'⟩:=r.get h2
 have hl:=r.length
 have hn:=D3n
 have fin:EP X pins σ Q w s:=⟨z,H,I,rw',q⟩
 exact subscriptTail_builtinR (x:=w) pl.typeIs slot_tuple_getitem.lookup
   (getItem_tuple (j:=j) (Q:=fun r s'=>r=w/\EP X pins σ Q r s') pl (by omega) (by omega) (by rw[List.size_toArray, <-hl];exact h1) (by simpa using ew) ⟨rfl,fin⟩) hs
noncomputable def B6t:V ->Bool
 | .non=>true
 | .bl _=>true
 | .int _=>true
 | .str _=>true
 |_=>false
noncomputable def eqV:V ->V ->Bool
 | .non,.non=>true
 | .bl a,.bl b=>a==b
 | .bl a,.int b=>(if a then 1 else 0)==b
 | .int a,.bl b=>a==(if b then 1 else 0)
 | .int a,.int b=>a==b
 | .str a,.str b=>a==b
 |_,_=>false
theorem Z5x{A:Around}{s:Shared}{y x:V}{u v:Value}(ry:RelV y u)(rx:RelV x v)(fy:B6t y=true)(fx:B6t x=true):SeqAt.EqAt A s u v (eqV y x):=by
 cases y with
 | non=>
   cases ry
   cases x with
   |non=>cases rx;exact SeqAt.EqAt.same _
   |bl b=>cases rx;exact SeqAt.EqAt.none_bool b
   |int b=>obtain⟨t,rfl⟩:=rx;exact SeqAt.EqAt.none_int b t
   |str b=>obtain⟨t,rfl⟩:=rx;exact SeqAt.EqAt.none_str b t
   |_=>exact absurd (show false=true from fx) Bool.false_ne_true
 | bl a=>
   cases ry
   cases x with
   |non=>cases rx;exact SeqAt.EqAt.bool_none a
   |bl b=>cases rx;exact SeqAt.EqAt.bool_bool a b
   |int b=>obtain⟨t,rfl⟩:=rx;exact SeqAt.EqAt.bool_int a b t
   |str b=>obtain⟨t,rfl⟩:=rx;exact SeqAt.EqAt.bool_str a b t
   |_=>exact absurd (show false=true from fx) Bool.false_ne_true
 | int a=>
   obtain⟨t',rfl⟩:=ry
   cases x with
   |non=>cases rx;exact SeqAt.EqAt.int_none a t'
   |bl b=>cases rx;exact SeqAt.EqAt.int_bool a t' b
   |int b=>obtain⟨t,rfl⟩:=rx;exact SeqAt.EqAt.int_int a t' b t
   |str b=>obtain⟨t,rfl⟩:=rx;exact SeqAt.EqAt.int_str a t' b t
   |_=>exact absurd (show false=true from fx) Bool.false_ne_true
 | str a=>
   obtain⟨t',rfl⟩:=ry
   cases x with
   |non=>cases rx;exact SeqAt.EqAt.str_none a t'
   |bl b=>cases rx;exact SeqAt.EqAt.str_bool a t' b
   |int b=>obtain⟨t,rfl⟩:=rx;exact SeqAt.EqAt.str_int a t' b t
   |str b=>obtain⟨t,rfl⟩:=rx;exact SeqAt.EqAt.str_str a t' b t
   |_=>exact absurd (show false=true from fx) Bool.false_ne_true
 |_=>exact absurd (show false=true from fy) Bool.false_ne_true
noncomputable def eqU (x:V) (u:Value):Bool:=match u with
 | .none=>eqV .non x
 | .bool b=>eqV (.bl b) x
 | .int i _=>eqV (.int i) x
 | .str z _=>eqV (.str z) x
 |_=>false
theorem V0h{x y:V}{u:Value}(r:RelV y u)(f:B6t y=true):eqU x u=eqV y x:=by
 cases y with
 |non=>cases r;rfl
 |bl b=>cases r;rfl
 |int i=>obtain⟨t,rfl⟩:=r;rfl
 |str z=>obtain⟨t,rfl⟩:=r;rfl
 |_=>exact absurd (show false=true from f) Bool.false_ne_true
theorem B6v{x:V}:∀{xs:List V} {us:List Value},Vals xs us ->xs.all B6t=true ->us.any (eqU x)=xs.any fun y=>eqV y x
 |_,_,.nil,_=>rfl
 | y::xs,u::us,.cons r t,f=>by
   rw[List.all_cons,Bool.and_eq_true] at f
   rw[List.any_cons,List.any_cons,V0h r f.1,B6v t f.2]
theorem A9t{A:Around}{s:Shared}{x:V}{v:Value}(rx:RelV x v)(fx:B6t x=true):∀{xs:List V} {us:List Value},Vals xs us ->xs.all B6t=true ->∀u∈us,SeqAt.EqAt A s u v (eqU x u)
 |_,_,.nil,_=>fun u hu=>by cases hu
 | y::xs,u::us,.cons r t,f=>fun u' hu=>by
   rw[List.all_cons,Bool.and_eq_true] at f
   rcases List.mem_cons.mp hu with rfl|hu
   . rw[V0h r f.1];exact Z5x r rx f.1 fx
   . exact A9t rx fx t f.2 u' hu
noncomputable def inV (x:V) (xs:List V):Bool:=xs.any fun y=>eqV y x
noncomputable def rIn (K:PySem.W.Frag) (neg:Bool):R2:=fun x y H Q=>∃p xs,y= .ref p/\(SqL K H p xs\/SqT K H p xs)/\B6t x=true/\xs.all B6t=true/\Q (.bl (if neg then !inV x xs else inV x xs)) H
theorem A5x:OpR X (compareOp .In) (rIn X.K false):=by
 intro pins s σ H x y v u Q I rx ry h
 obtain⟨p,xs,rfl,hq,fx,fs,q⟩:=h
 cases ry
 rcases hq with hq|hq
 . obtain⟨its,r,pl,hz⟩:=I.list hq
   refine SeqAt.in_listAt (eqU x) pl.isList (fun w hw=>A9t rx fx r fs w (by simpa using hw)) ⟨.bl _,H,I,rfl,?_⟩
   rw[show its.toArray.any (eqU x)=its.any (eqU x) by simp,B6v r fs]
   exact q
 . obtain⟨its,r,pl,hz⟩:=I.tuple hq
   refine SeqAt.in_tupleAt (eqU x) pl (fun w hw=>A9t rx fx r fs w (by simpa using hw)) ⟨.bl _,H,I,rfl,?_⟩
   rw[show its.toArray.any (eqU x)=its.any (eqU x) by simp,B6v r fs]
   exact q
theorem D4p:OpR X (compareOp .NotIn) (rIn X.K true):=by
 intro pins s σ H x y v u Q I rx ry h
 obtain⟨p,xs,rfl,hq,fx,fs,q⟩:=h
 cases ry
 rcases hq with hq|hq
 . obtain⟨its,r,pl,hz⟩:=I.list hq
   refine SeqAt.notIn_listAt (eqU x) pl.isList (fun w hw=>A9t rx fx r fs w (by simpa using hw)) ⟨.bl _,H,I,rfl,?_⟩
   rw[show its.toArray.any (eqU x)=its.any (eqU x) by simp,B6v r fs]
   exact q
 . obtain⟨its,r,pl,hz⟩:=I.tuple hq
   refine SeqAt.notIn_tupleAt (eqU x) pl (fun w hw=>A9t rx fx r fs w (by simpa using hw)) ⟨.bl _,H,I,rfl,?_⟩
   rw[show its.toArray.any (eqU x)=its.any (eqU x) by simp,B6v r fs]
   exact q
theorem D5f:A2x X (.builtin "len") (fun xs H Q=>∃p ys,xs=[.ref p]/\(SqL X.K H p ys\/SqT X.K H p ys)/\Q (.int ys.length) H):=by
 intro pins s σ H xs us Q I r h
 obtain⟨p,ys,rfl,hq,q⟩:=h
 obtain⟨u,rfl,rx⟩:=B6h r
 cases rx
 have hn:=D3n
 rcases hq with hq|hq
 . obtain⟨its,r',pl,hz⟩:=I.list hq
   have hlen:=r'.length
   exact Calls.call_len_list pl.isList (by simp only[List.size_toArray]<;>omega) ⟨.int ys.length,H,I.tok _,⟨s.toks+1,by rw[List.size_toArray,hlen]⟩,q⟩
 . obtain⟨its,r',pl,hz⟩:=I.tuple hq
   have hlen:=r'.length
   exact len_tuple pl (by simp only[List.size_toArray]<;>omega) ⟨.int ys.length,H,I.tok _,⟨s.toks+1,by rw[List.size_toArray,hlen]⟩,q⟩
theorem D3v:A2x X (.builtin "len") (fun xs H Q=>∃z,xs=[.str z]/\z.length<=sizeLine/\Q (.int z.length) H):=by
 intro pins s σ H xs us Q I r h
 obtain⟨z,rfl,hz,q⟩:=h
 obtain⟨u,rfl,t,rfl⟩:=B6h r
 have hn:=D3n
 exact len_str (by omega) ⟨.int z.length,H,I.tok _,⟨_,rfl⟩,q⟩
theorem D5e:A2x X (.type "list") (fun xs H Q=>∃p ys,xs=[.ref p]/\(SqL X.K H p ys\/SqT X.K H p ys)/\∀l,H l=none ->Q (.ref l) (upd H l (.lst ys))):=by
 intro pins s σ H xs us Q I r h
 obtain⟨p,ys,rfl,hq,q⟩:=h
 obtain⟨u,rfl,rx⟩:=B6h r
 cases rx
 have fin:∀(its:List Value),Vals ys its ->ys.length<=sizeLine ->∀(h':Heap) (c':Nat),(∀b o',s.heap.get? b=some o' ->h'.get? b=some o') ->
     h'.get? s.heap.objs.size=some {cls:= .type "list",dict:=none,data:= .seq its.toArray c',slots:= #[]} ->EP X pins σ Q (.ref s.heap.objs.size) {s with heap:=h'}:=fun its r' hz h' c' kp e=>
   ⟨.ref s.heap.objs.size,_,I.laid (t':=s.toks) kp (Nat.le_refl _) (show ObjOk X.prog X.w _ h' _ (.lst ys) from⟨hz,its,c',r',e⟩),rfl,q _ (I.hok.fresh (Nat.le_refl _))⟩
 rcases hq with hq|hq
 . obtain⟨its,r',pl,hz⟩:=I.list hq
   have hlen:=r'.length
   obtain⟨o,ho,hc,n,hd⟩:=pl.isList
   exact call_list_seq p (.inl rfl) ho hc hd (fun h' c' kp e=>fin its r' hz h' c' kp e) (by simp only[List.size_toArray]<;>omega)
 . obtain⟨its,r',pl,hz⟩:=I.tuple hq
   have hlen:=r'.length
   obtain⟨o,ho,hc,n,hd⟩:=pl
   exact call_list_seq p (.inr rfl) ho hc hd (fun h' c' kp e=>fin its r' hz h' c' kp e) (by simp only[List.size_toArray]<;>omega)
theorem C7w:A2x X (.type "tuple") (fun xs H Q=>∃p ys,xs=[.ref p]/\((SqL X.K H p ys/\∀l,H l=none ->Q (.ref l) (upd H l (.tup ys)))\/(SqT X.K H p ys/\Q (.ref p) H))):=by
 intro pins s σ H xs us Q I r h
 obtain⟨p,ys,rfl,h⟩:=h
 obtain⟨u,rfl,rx⟩:=B6h r
 cases rx
 rcases h with⟨hq,q⟩|⟨hq,q⟩
 . obtain⟨its,r',pl,hz⟩:=I.list hq
   have hlen:=r'.length
   refine call_tuple_list pl.isList (fun h' kp=>?_) (by simp only[List.size_toArray]<;>omega)
   have I1:Inv X pins σ H {s with heap:=h'}:=I.kept (t':=s.toks) kp
   have I2:Inv X pins σ (upd H h'.objs.size (.tup ys)) {s with heap:=h'.push {cls:= .type "tuple",data:= .seq its.toArray}}:=
     I1.laid (t':=s.toks) (fun b o e=>Heap.get?_push_of_some _ e) (Nat.le_refl _) (show ObjOk X.prog X.w _ _ _ (.tup ys) from⟨hz,its,r',IsTup.new _ _⟩)
   exact⟨.ref h'.objs.size,_,I2,rfl,q _ (I1.hok.fresh (Nat.le_refl _))⟩
 . obtain⟨its,r',pl,hz⟩:=I.tuple hq
   exact call_tuple_same pl ⟨.ref p,H,I,rfl,q⟩
noncomputable def tyV (K:PySem.W.Frag) (T:String) (x:V) (H:Hp):Prop:=match x with
 | .str _=>T="str"
 | .int _=>T="int"
 | .ref p=>(T="list"/\∃xs,SqL K H p xs)\/(T="tuple"/\∃o,K.lookup p=some o/\o.cls= .type "tuple"/\o.dict=none)\/
     (T="dict"/\((∃kvs,H p=some (.dK kvs))\/∃kvs,H p=some (.dT kvs)))\/(T="set"/\∃S n,H p=some (.set S n))
 |_=>False
theorem Z4z{pins:List (Addr×Obj)}{σ:St}{H:Hp}{s:Shared}{T:String}{x:V}{v:Value}(I:Inv X pins σ H s)(r:RelV x v)(ty:tyV X.K T x H):
   s.TypeIs v T/\∀a,v= .ref a ->∃ob,s.heap.get? a=some ob/\ob.dict=none:=by
 cases x with
 | str z=>
   obtain⟨t,rfl⟩:=r
   cases(show T="str" from ty)
   exact⟨typeIs_str s z t,fun _ e=>nomatch e⟩
 | int i=>
   obtain⟨t,rfl⟩:=r
   cases(show T="int" from ty)
   exact⟨typeIs_int s i t,fun _ e=>nomatch e⟩
 | ref p =>
   cases r
   rcases ty with⟨rfl,xs,hq⟩|⟨rfl,o,hk,hc,hd⟩|⟨rfl,hk⟩|⟨rfl,S,n,hk⟩
   . obtain⟨its,_,pl,_⟩:=I.list hq
     refine⟨pl.isList.typeIs,fun a e=>?_⟩
     cases e
     obtain⟨o,n,e,c,hd,_⟩:=pl
     exact⟨o,e,hd⟩
   . refine⟨⟨o,I.kIn p o hk,hc⟩,fun a e=>?_⟩
     cases e
     exact⟨o,I.kIn _ o hk,hd⟩
   . have z:∃o,s.heap.get? p=some o/\o.ExactDict:=by
       rcases hk with⟨kvs,hk⟩|⟨kvs,hk⟩
       . obtain⟨_,_,_,_,o,_,_,e,ex,_⟩:=I.hok p _ hk
         exact⟨o,e,ex⟩
       . obtain⟨_,_,_,_,o,_,_,e,ex,_⟩:=I.hok p _ hk
         exact⟨o,e,ex⟩
     obtain⟨o,e,ex⟩:=z
     refine⟨⟨o,e,ex.1⟩,fun a e2=>?_⟩
     cases e2
     exact⟨o,e,ex.2.1⟩
   . obtain⟨o,_,_,_,e,ex,_⟩:=I.hok p _ hk
     refine⟨⟨o,e,ex.1⟩,fun a e2=>?_⟩
     cases e2
     exact⟨o,e,ex.2.1⟩
 |_=>exact False.elim ty
noncomputable def tBM0 (K:PySem.W.Frag) (T:String) (r:V ->List V ->Hp ->VK ->Prop) (to:TE):TE:=fun σ H Q=>to σ H fun x H1=>tyV K T x H1/\r x [] H1 Q
variable{o e:Expr}{es:List Expr}{to:TE}{t:TA}{name:Str}{apos cpos:Pos}{T id:String}{r:V ->List V ->Hp ->VK ->Prop}
theorem Z5g(pa:PlainAttrs T)(slot:Slot T name id)(hty:typeOf (.builtin id)=pure (.type "method_descriptor"))(hm:MtR X id r)(ho:PE X o to)
   (hbase:attributeBase o name X.env (eval o X.env)=eval o X.env:=by rfl) (hline:(apos.endLine==cpos.line)=true:=by rfl):PE X (.Call (.Attribute o name apos) [] [] cpos) (tBM0 X.K T r to):=by
 intro pins s σ H Q I h
 refine wpAny_Call_method0_late hbase hline (thn (ho pins s σ H _ I h) fun v s1 hh_=>?_)
 obtain⟨x,H1,I1,r1,ty,q1⟩:=hh_
 obtain⟨h1,h2⟩:=Z4z I1 r1 ty
 exact⟨T,id,pa,slot,hty,h1,h2,Calls.callWith_builtin rfl (PySem.evalArgs_none (hm pins s1 σ H1 x [] v [] Q I1 r1 .nil q1))⟩
end
noncomputable def MtM (X:Cx) (id:String) (r:V ->List V ->Hp ->VK ->Prop):Prop:=
 ∀ (pins:List (Addr×Obj)) (s:Shared) (σ:St) (H:Hp) (x:V) (xs:List V) (v:Value) (us:List Value) (Q:VK),Inv X pins σ H s ->RelV x v ->Vals xs us ->r x xs H Q ->
   wpAny (model X.prog X.w) X.A (call (.builtin id) (v::us)) (EP X pins σ Q) X.xe s
theorem Vals.one{x:V}{us:List Value}(h:Vals [x] us):∃u,us=[u]/\RelV x u:=by
 cases h with
 |cons r t=>cases t;exact⟨_,rfl,r⟩
theorem Vals.two{x y:V}{us:List Value}(h:Vals [x,y] us):∃u v,us=[u,v]/\RelV x u/\RelV y v:=by
 cases h with
 | cons r t=>
   cases t with
   |cons q z=>cases z;exact⟨_,_,rfl,r,q⟩
section
variable{X:Cx}{pins:List (Addr×Obj)}{σ:St}{H:Hp}{s:Shared}{l b:Addr}{xs ys zs:List V}
theorem Inv.lset{its its':List Value}{n:Nat}{f:Array Value ->Array Value}{t':Nat}(I:Inv X pins σ H s)(hH:H l=some (.lst xs))
   (e:s.heap.get? l=some {cls:= .type "list",data:= .seq its.toArray n}) (hf:f its.toArray=its'.toArray) (hv:Vals ys its') (hz:ys.length<=sizeLine):
   Inv X pins σ (upd H l (.lst ys)) {s with heap:=s.heap.update l (Obj.mapSeq f),toks:=t'}:=by
 have q:=PySem.IsL.update e f
 rw[hf] at q
 refine I.write (x:=l) (e:=l) (by rw[hH];exact trivial) (.inl rfl) (fun b' u hb hu=>(Heap.get?_update_other s.heap (Obj.mapSeq f) (Ne.symm hb)).trans hu) ⟨_,q⟩ ?_
 exact⟨hz,its',_,hv,q⟩
theorem Inv.lnew{its:List Value}{t':Nat}(I:Inv X pins σ H s)(hv:Vals ys its)(hz:ys.length<=sizeLine):
   Inv X pins σ (upd H s.heap.objs.size (.lst ys)) {s with heap:=s.heap.push {cls:= .type "list",data:= .seq its.toArray},toks:=t'}:=
 I.laid (fun _ _ q=>Heap.get?_push_of_some _ q) (Nat.le_refl _) ⟨hz,its,0,hv,Heap.get?_push_size _ rfl⟩
theorem Inv.fresh(I:Inv X pins σ H s):H s.heap.objs.size=none:=I.hok.fresh (Nat.le_refl _)
theorem Inv.lstM(I:Inv X pins σ H s)(hH:H l=some (.lst xs)):xs.length<=sizeLine/\∃(its:List Value) (n:Nat),Vals xs its/\xs.length=its.length/\s.heap.get? l=some {cls:= .type "list",data:= .seq its.toArray n}:=by
 obtain⟨z,its,n,r,e⟩:=I.hok l _ hH
 exact⟨z,its,n,r,r.length,e⟩
end
section
variable{X:Cx}
noncomputable def Y9a:V ->List V ->Hp ->VK ->Prop:=fun x vs H Q=>∃l xs y,x= .ref l/\vs=[y]/\H l=some (.lst xs)/\xs.length<sizeLine/\Q .non (upd H l (.lst (xs++ [y])))
theorem B8e:MtM X "list.append" Y9a:=by
 intro pins s σ H x vs v us Q I rx rv h
 obtain⟨l,xs,y,rfl,rfl,hH,hz,q⟩:=h
 cases rx
 obtain⟨u,rfl,ru⟩:=rv.one
 obtain⟨z,its,n,r,hl,e⟩:=I.lstM hH
 refine call_meets F.slot_list_append ⟨_,e,rfl⟩ F.entry_list_append (F.args_list_append_2 _ _) (PySem.list_append l its.toArray n u (by rw[List.size_toArray];omega)) ⟨e,?_⟩
 refine⟨.non,_,I.lset (its':=its++ [u]) hH e (by simp) (r.append (.cons ru .nil)) ?_,rfl,q⟩
 rw[List.length_append,List.length_singleton]
 omega
noncomputable def rCat:R2:=fun x y H Q=>∃l b xs zs,x= .ref l/\y= .ref b/\H l=some (.lst xs)/\H b=some (.lst zs)/\xs.length+zs.length<=sizeLine/\∀p,H p=none ->Q (.ref p) (upd H p (.lst (xs++zs)))
theorem D4r:OpR X (binaryOp .Add) rCat:=by
 intro pins s σ H x y v u Q I rx ry h
 obtain⟨l,b,xs,zs,rfl,rfl,hH,hB,hz,q⟩:=h
 cases rx
 cases ry
 obtain⟨z,its,n,r,hl,e⟩:=I.lstM hH
 obtain⟨z2,its2,n2,r2,hl2,e2⟩:=I.lstM hB
 refine PySem.P.add_list e e2 ?_ (by rw[List.size_toArray,List.size_toArray];omega)
 have ea:its.toArray++its2.toArray=(its++its2).toArray:=by simp
 rw[ea]
 exact⟨.ref _,_,I.lnew (t':=s.toks) (r.append r2) (by rw[List.length_append];omega),rfl,q _ I.fresh⟩
theorem Y6x{α:Type}(xs:List α)(k:Nat):(List.replicate k xs).flatten.length=k*xs.length:=by
 induction k with
 |zero=>simp
 |succ k ih=>rw[List.replicate_succ,List.flatten_cons,List.length_append,ih,Nat.succ_mul,Nat.add_comm]
end
section
variable{prog:Program}{w:World}{A:Around}{E:Value ->Shared ->Prop}{s:Shared}
end
section
variable{X:Cx}
end
end L2
namespace Att
open PySem PySem.W PySem.Calls PyProof.Rows
theorem C2r{P:Params}{h:Heap}:∀(ns:List Int) (vs:List Value),WellAll P h vs (ns.map WData.int) ->IntsAre vs ns:=by
 intro ns
 induction ns with
 | nil=>
   intro vs w
   rw[List.map_nil] at w
   cases w
   exact .nil
 | cons n ns ih=>
   intro vs w
   rw[List.map_cons] at w
   cases w with
   | cons a b=>
     cases a
     exact .cons _ _ (ih _ b)
theorem U4m{l:OpenLaw}{n:Nat}(hn:l.most=some n){P:Params}{h:Heap}{args:List WData}{vals:List Value}
   (hpre:l.row.toRowW.claim.pre args=true) (hwl:WellAll P h vals args):
   ∃a vs ns,vals=[Value.ref a]/\args=[WData.list (ns.map WData.int)]/\h.get? a=some {cls:= .type "list",data:= .seq vs.toArray}/\IntsAre vs ns/\ns.length<=n:=by
 have hsh:WShape.hasAll [] args [.list .int]=true:=(pre_splitW hpre).1
 have hc:l.pre.holds [] {args:=args}=true:=(pre_splitW hpre).2
 obtain⟨d,r,rfl,h1,h2⟩:=hasAllW_cons hsh
 obtain rfl:=hasAllW_nil h2
 obtain⟨xs,rfl,h3⟩:=hasW_list h1
 obtain⟨ns,rfl⟩:=items_int h3
 have hlen:ns.length<=n:=by
   unfold OpenLaw.pre at hc
   have h4:(WTm.not (.lt (.lit (.int (n:Int))) (.len (.arg 0)))).holds [] {args:=[.list (ns.map .int)]}=true:=by
     have h4:=(holds_andW hc).1
     rw[hn] at h4
     exact h4
   have h5:=condW_of h4 (w_not (w_lt w_lit (w_len_list (w_arg rfl))))
   rw[List.length_map] at h5
   refine Nat.le_of_not_lt fun q=>?_
   have q':(n:Int)<((ns.length:Nat):Int):=by omega
   first
     |(rw[decide_eq_true q'] at h5;exact absurd h5 (by decide))
     |(simp at h5;omega)
 cases hwl with
 | cons w1 w2=>
   cases w2
   cases w1 with
   |list ho hall=>exact⟨_,_,ns,rfl,rfl,ho,C2r ns _ hall,hlen⟩
theorem U4h(l:OpenLaw)(args:List WData):l.row.toRowW.claim.post args (.bool true) args=true:=
 postW_of (r:=l.row.toRowW) (X:=(true==true))
   (show WShape.has [] (.bool true) .bool=true by first|rfl|decide|simp[WShape.has,WShape.arms,WShape.armsAll])
   (show(WTm.eq .res (.lit (.bool true))).value [] {args:=args,res:=some (.bool true),after:=args}=some (.bool (true==true)) from w_eq_bool (w_res rfl) w_lit) rfl
theorem attach_call{l:OpenLaw}{n:Nat}{q:Program}{loose:List Str}{XP:(Str ->Option Value) ->Heap ->Prop}{YP:World ->Heap ->Prop}{d:DefRec}
   (hn:l.most=some n) (hdf:d.params.defaults=[])
   (call:∀(w:World) (s₀ s₁:Shared) (mg mb:Str ->Option Value) (fa:Addr) (o:Obj) (pm cd doc:Value) (a:Addr) (vs:List Value) (ns:List Int),
     Ground q loose [] XP w s₀ mg mb s₁.heap ->YP w s₁.heap ->
     s₁.heap.get? fa=some o ->o.data= .func (docDef d.name d.params d.body d.scope pm cd doc) ->s₁.heap.CodeRec cd d.name ->mg d.name=some (.ref fa) ->
     s₁.heap.get? a=some {cls:= .type "list",data:= .seq vs.toArray} ->IntsAre vs ns ->ns.length<=n ->s₁.gens= #[] ->
     codeAny (model l.prog w) callerA (.call (.ref fa) ⟨[.ref a],[]⟩) (fun r s'=>r= .ok (.ret (.bool true))/\OldK s₁.heap s'.heap/\s'.os=s₁.os/\AllBare s'.gens) s₁):
   WalkO q loose XP YP l.row.toRowW d [] (fun f vs=>PySem.call f vs):=by
 intro w s₀ s₁ mg mb G Y fa o pm cd doc dV kV ho hd hcd hD hmg hg args vals as hpre hlay hrd hwl hlo
 obtain rfl:dV= .none:=Dflts.none hD hdf
 obtain rfl:kV= .none:=Dflts.noKw hD
 obtain⟨a,vs,ns,rfl,rfl,hobj,hints,hlen⟩:=U4m hn hpre hwl
 refine enter_call (codeAny_mono (call w s₀ s₁ mg mb fa o pm cd doc a vs ns G Y ho (fd_plain hd) hcd hmg hobj hints hlen hg) fun r s' hq=>?_)
 obtain⟨rfl,h2,h3,h4⟩:=hq
 exact⟨.inl ⟨.bool true,.bool true,[],rfl,fun _=>rfl,.bool true,U4h l _,fun _=>⟨List.Pairwise.nil,fun _ hm=>(nomatch hm)⟩⟩,h2,h3,h4⟩
section
variable{prog:Program}{w:World}{A:Around}{E:Value ->Shared ->Prop}{s:Shared}{K:Frag}
end
end Att
namespace L2
open PySem PySem.Spec PyProof.Rows
theorem D1t:∀{vs:List Value} {ns:List Int},IntsAre vs ns ->Vals (ns.map V.int) vs
 |_,_,.nil=> .nil
 |_,_,.cons n t h=> .cons ⟨t,rfl⟩ (D1t h)
noncomputable def G7 (s:Stmt) (j:Nat):Stmt:=match s with
 | .ClassDef _ _ _ body _ _ _ _ _ _ _=>body.getD j (.Pass ⟨0,0,0,0⟩)
 |_=> .Pass ⟨0,0,0,0⟩
noncomputable def C0 (s:Stmt):Arguments:=match s with
 | .FunctionDef _ a _ _ _ _ _ _ _ _=>a
 |_=>{posonlyargs:=[],args:=[],vararg:=none,kwonlyargs:=[],kw_defaults:=[],kwarg:=none,defaults:=[]}
noncomputable def B9 (s:Stmt):List Stmt:=match s with
 | .FunctionDef _ _ b _ _ _ _ _ _ _=>b
 |_=>[]
noncomputable def A3 (s:Stmt):Scope:=match s with
 | .FunctionDef _ _ _ _ _ _ sc _ _ _=>sc
 |_=>{kind:= .function,names:=[],isGenerator:=false,isCoroutine:=false}
noncomputable abbrev CX0:CXT:=fun _ _ _ _ _ _=>False
noncomputable abbrev E0:XK:=fun _ _ _=>False
theorem V2d{X:Cx}:G9q CX0 X E0:=fun _ _ _ _ _ _ _ h=>h.elim
structure Fun(K:PySem.W.Frag)(x qual:Str)(st:Stmt)(f:Addr)(fd:FuncData):Prop where
 ex:∃(oc:Value) (od:Option Addr) (kV doc pm:Value) (an:Option Addr) (cdv ct:Value) (osl:Array (Option Value)),
   fd=PySem.W.fnOf x qual (C0 st) (B9 st) (A3 st) .none kV doc pm an cdv ct/\K.lookup f=some ⟨oc,od,.func fd,osl⟩/\PySem.W.codeIn K cdv qual=true
 kp:PySem.W.keepIn K (.ref f)=true
section
variable{P:Program}{w:World}{K:PySem.W.Frag}{mg:Str ->Option Value}{base:Heap}
theorem Fun.ok{x qual:Str}{st:Stmt}{f:Addr}{fd:FuncData}{N ps:List Str}{k:Nat}{sp:Sp}(F:Fun K x qual st f fd)(S:FnScope N ps (A3 st))(len:∀vs H Q E,sp vs H Q E ->vs.length=ps.length)
   (hbody:∀(cdv:Value) (A:Around) (outer:List Env) (s:Shared) (H:Hp) (vs:List V) (Q:VK) (E:XK),Room k (A.deeper (envOfC qual (A3 st) s.heap.objs.size f cdv)) ->sp vs H Q E ->
     ∃t,PSs (A0f CX0 P w K mg base N qual (A3 st) f cdv A outer s H E).nox (B9 st) t/\t {nx:=fun _ H'=>Q .non H',rt:=Q} (A4a N vs) H):FnOk P w K mg base CX0 (k+1) f fd ps sp:=by
 obtain⟨oc,od,kV,doc,pm,an,cdv,ct,osl,rfl,lk,hcd⟩:=F.ex
 refine V0c lk hcd S len fun A outer s H vs Q E hr hsp=>?_
 obtain⟨t,h,q⟩:=hbody cdv A outer s H vs Q E hr hsp
 exact⟨t,h.nox,q⟩
theorem Fun.binds{x qual:Str}{st:Stmt}{f:Addr}{fd:FuncData}{ps:List Str}(F:Fun K x qual st f fd)
   (h:∀(kV doc pm:Value) (an:Option Addr) (cdv ct:Value) (us:List Value),us.length=ps.length ->bindArgs (PySem.W.fnOf x qual (C0 st) (B9 st) (A3 st) .none kV doc pm an cdv ct) ⟨us,[]⟩=pure (ps.zip us)):Binds K fd ps []:=by
 obtain⟨oc,od,kV,doc,pm,an,cdv,ct,osl,rfl,lk,hcd⟩:=F.ex
 exact .all (h kV doc pm an cdv ct)
theorem U5{x qual:Str}{st:Stmt}{f:Addr}{oc:Value}{od an:Option Addr}{osl:Array (Option Value)}{kV doc pm cdv ct:Value}(l:K.lookup f=some ⟨oc,od,.func (PySem.W.fnOf x qual (C0 st) (B9 st) (A3 st) .none kV doc pm an cdv ct),osl⟩)
   (c:PySem.W.codeIn K cdv qual=true) (k:PySem.W.keepIn K (.ref f)=true):Fun K x qual st f (PySem.W.fnOf x qual (C0 st) (B9 st) (A3 st) .none kV doc pm an cdv ct):=⟨⟨oc,od,kV,doc,pm,an,cdv,ct,osl,rfl,l,c⟩,k⟩
end
theorem A0h{n:Nat}(h:n<=1000):n<sizeLine:=Nat.lt_of_le_of_lt h (by decide)
section
variable{X:Cx}
theorem pv(i:Nat){x:Str}{pos:Pos}(hN:X.N[i]?=some x:=by rfl)(hv:Vis X.env.scope x:=by first|exact Or.inl rfl|exact Or.inr (Or.inl rfl)|exact Or.inr (Or.inr rfl))(hd:(x==("__debug__":Str))=false:=by decide)
   (hcd:(x==("__classdict__":Str))=false:=by decide):PE X (.Name x pos) (Z8w i):=V2v hN hv hd hcd
end
theorem Y5{A B:Prop}(h:B):if false=true then A else B:=by
 rw[if_neg Bool.false_ne_true]
 exact h
theorem Z1{A B:Prop}(h:A):if true=true then A else B:=by
 rw[if_pos rfl]
 exact h
theorem U2d{c A B:Prop} [Decidable c] (hc:c) (h:B):if(!decide c)=true then A else B:=by
 rw[decide_eq_true hc]
 exact Y5 h
noncomputable def Same (H H':Hp):Prop:=∀b o,H b=some o ->H' b=some o
theorem Same.refl(H:Hp):Same H H:=fun _ _ h=>h
theorem Same.trans{H H1 H2:Hp}(a:Same H H1)(b:Same H1 H2):Same H H2:=fun c o h=>b c o (a c o h)
theorem Same.free{H H':Hp}(e:Same H H'){l:Addr}(h:H' l=Option.none):H l=Option.none:=by
 cases q:H l with
 |none=>rfl
 | some o=>
   rw[e l o q] at h
   cases h
theorem Same.seq{K:PySem.W.Frag}{H H':Hp}{a:Addr}{xs:List V}(e:Same H H')(h:SqL K H a xs):SqL K H' a xs:=by
 rcases h with(h|⟨o,h⟩)|h
 . exact .inl (.inl (e _ _ h))
 . exact .inl (.inr ⟨o,e _ _ h⟩)
 . exact .inr h
end L2
set_option maxHeartbeats 4000000
namespace L2
open PySem PySem.Spec PyProof.Rows
noncomputable abbrev A0p (C:Value) (t:Addr) (dd:Option Addr) (tb:Value):Obj:=
 {cls:=C,dict:=dd,data:= .fields #[.ref t,tb,.none,.none,.bool false,.none]}
structure Noted(fs:List Addr)(h h':Heap)(a:Addr)(C:Value)(t:Addr)(dd:Option Addr)(T:Addr)(fl:Value):Prop where
 keep:∀b o,b ∉ fs ->b≠a ->h.get? b=some o ->h'.get? b=some o
 slot:∀b o,b≠a ->h.get? b=some o ->∃sl,h'.get? b=some {o with slots:=sl}
 new:h.get? T=none
 ne:T≠a
 exc:h'.get? a=some (A0p C t dd (.ref T))
 tbk:∃oT ts,h'.get? T=some oT/\oT.data= .fields ts/\ts[3]?=some fl
section
variable{M:Model}{A:Around}{E:Value ->Shared ->Prop}{s:Shared}{base:Heap}{env:Env}{outer:List Env}{L a t:Addr}{C:Value}{dd:Option Addr}{tb:Value}{Q:Unit ->Shared ->Prop}
theorem Y7p{oa:Obj}{vs:Array Value}{l:List Env}(hl:s.heap.FunFrames base l)(ha:s.heap.get? a=some oa)(hd:oa.data= .fields vs):a ∉ l.filterMap (·.frame):=by
 intro hm
 obtain⟨_,o,ho,hn⟩:=hl.mem hm
 rw[ha] at ho
 cases ho
 exact hn vs hd
theorem U2g{head:Value}{hn:Bool}(hfr:A.frames=some (env::outer))(hl:s.heap.FunFrames base (env::outer))(hf:env.frame=some L)
   (ha:s.heap.get? a=some (A0p C t dd tb))
   (h:∀h' T,Noted ((env::outer).filterMap (·.frame)) s.heap h' a C t dd T (rawInt L) ->Q () {s with heap:=h'}):
   wpAny M A (do
     let x<-frameOf env
     let pl<-entryPlaceOf L hn
     let b<-EntryCells.newEntry head x .none (rawInt L) .none pl
     setField (.ref a) 1 b) Q E s:=by
 have na:=Y7p hl ha rfl
 refine wpAny_bind (wpAny_frameOf_fun hfr hl hf fun g hg=>?_)
 refine wpAny_bind (wpAny_entryPlaceOf fun pl hpl=>?_)
 unfold EntryCells.newEntry newFields
 refine wpAny_bind (wpAny_newObj_type ?_ (hpl.sizeOk5 _ _ _ _ _))
 have a1:g.get? a=some (A0p C t dd tb):=(hg.2.1 a na).trans ha
 have a2:=fun(z:Obj)=>Heap.get?_push_of_some (h:=g) z a1
 have nT:g.objs.size≠a:=Nat.ne_of_gt (Heap.lt_size a1)
 refine wpAny_setField (a2 _) rfl (by show 1<6;decide) (h _ g.objs.size ?_)
 have up:∀(z:Obj) (f:Obj ->Obj) b o,b≠a ->g.get? b=some o ->((g.push z).update a f).get? b=some o:=by
   intro z f b o hb e
   rw[Heap.get?_update_other _ _ (Ne.symm hb)]
   exact Heap.get?_push_of_some _ e
 refine⟨fun b o hb hba e=>up _ _ b o hba ((hg.2.1 b hb).trans e),fun b o hba e=>?_,?_,nT,?_,?_⟩
 . obtain⟨sl,e1⟩:=hg.2.2 b o e
   exact⟨sl,up _ _ b _ hba e1⟩
 . refine Heap.get?_none_of_le ?_
   rw[hg.1]
   exact Nat.le_refl _
 . exact Heap.get?_update_self _ (a2 _) rfl
 . refine⟨_,_,(Heap.get?_update_other _ _ (Ne.symm nT)).trans (Heap.get?_push_size _ rfl),rfl,?_⟩
   first
     |(simp;done)
     |(rcases hpl with rfl|⟨_,_,_,_,_,_,_,rfl⟩<;>simp)
noncomputable def Z5w (h:Heap) (a:Addr) (tb:Value):Prop:=tb= .none\/∃T oT ts,tb= .ref T/\T≠a/\h.get? T=some oT/\oT.data= .fields ts/\ts[3]?=some .none
theorem Z4y(hfr:A.frames=some (env::outer))(hl:s.heap.FunFrames base (env::outer))(hf:env.frame=some L)
   (ha:s.heap.get? a=some (A0p C t dd tb)) (ht:Z5w s.heap a tb)
   (h:∀h' T,(∀b o,b ∉ (env::outer).filterMap (·.frame) ->b≠a ->tb≠ .ref b ->s.heap.get? b=some o ->h'.get? b=some o) ->
     (∀b o,b≠a ->tb≠ .ref b ->s.heap.get? b=some o ->∃sl,h'.get? b=some {o with slots:=sl}) ->s.heap.get? T=none ->T≠a ->
     h'.get? a=some (A0p C t dd (.ref T)) ->(∃oT ts,h'.get? T=some oT/\oT.data= .fields ts/\ts[3]?=some (rawInt L)) ->Q () {s with heap:=h'}):
   wpAny M A (noteFrame (.ref a) env) Q E s:=by
 unfold noteFrame
 simp only[hf]
 refine wpAny_bind (wpAny_field ha rfl (x:=tb) rfl ?_)
 rcases ht with rfl|⟨T,oT,ts,rfl,nT,hT,dT,h3⟩
 . rw[if_neg (by decide)]
   refine U2g hfr hl hf ha fun h' T N=>?_
   exact h h' T (fun b o hb hba _ e=>N.keep b o hb hba e) (fun b o hba _ e=>N.slot b o hba e) N.new N.ne N.exc N.tbk
 . rw[if_pos (show(Value.ref T !=Value.none)=true by simp)]
   refine wpAny_bind (wpAny_field hT dT h3 ?_)
   rw[if_neg (show¬((Value.none==rawInt L)=true) by simp[rawInt])]
   refine wpAny_bind (wpAny_setField hT dT (Array.getElem?_eq_some_iff.mp h3).1 ?_)
   have oth:∀(f:Obj ->Obj) b,b≠T ->(s.heap.update T f).get? b=s.heap.get? b:=fun f b hb=>Heap.get?_update_other _ _ (Ne.symm hb)
   have nrec:∀b o,s.heap.get? b=some o ->(∀vs,o.data≠ .fields vs) ->b≠T:=by
     intro b o e hn q
     rw[q,hT] at e
     cases e
     exact hn ts dT
   refine U2g (s:={s with heap:=_}) hfr (hl.of_keeps fun b o e hn=>⟨o,(oth _ b (nrec b o e hn)).trans e,rfl⟩) hf ((oth _ a (Ne.symm nT)).trans ha) fun h' T' N=>?_
   have neb:∀b,Value.ref T≠Value.ref b ->b≠T:=fun b q z=>q (by rw[z])
   refine h h' T' (fun b o hb hba hbT e=>N.keep b o hb hba ((oth _ b (neb b hbT)).trans e)) (fun b o hba hbT e=>N.slot b o hba ((oth _ b (neb b hbT)).trans e)) ?_ N.ne N.exc N.tbk
   have nw:=N.new
   by_cases q:T'=T
   . subst q
     have:=Heap.get?_update_self (Obj.mapFields (·.setIfInBounds 3 Value.none)) hT (Obj.isFreed_of_fields (Obj.data_mapFields dT _))
     rw[nw] at this
     cases this
   . rw[oth _ T' q] at nw
     exact nw
theorem Z4j{T:Addr}{oT:Obj}{ts:Array Value}{fl:Value}(ha:s.heap.get? a=some (A0p C t dd (.ref T)))(nT:T≠a)(hT:s.heap.get? T=some oT)(dT:oT.data= .fields ts)(h3:ts[3]?=some fl)
   (h:∀h',(∀b o,b≠T ->s.heap.get? b=some o ->h'.get? b=some o) ->Z5w h' a (.ref T) ->Q () {s with heap:=h'}):wpAny M A (setFlight (.ref a) none) Q E s:=by
 have sz:3<ts.size:=(Array.getElem?_eq_some_iff.mp h3).1
 unfold setFlight
 refine wpAny_bind (wpAny_field ha rfl (x:= .ref T) rfl ?_)
 rw[if_pos (show(Value.ref T !=Value.none)=true by simp)]
 refine wpAny_setField hT dT sz (h _ (fun b o hb e=>(Heap.get?_update_other _ _ (Ne.symm hb)).trans e) ?_)
 have d2:=Obj.data_mapFields dT (·.setIfInBounds 3 ((none:Option Addr).elim Value.none fun f=>rawInt f))
 exact .inr ⟨T,_,_,rfl,nT,Heap.get?_update_self _ hT (Obj.isFreed_of_fields d2),d2,by simp[sz]⟩
end
noncomputable def Hd (A:Around) (h:Heap):Prop:=A.handled=none\/∃x ox vs,A.handled=some (.ref x)/\h.get? x=some ox/\ox.data= .fields vs/\vs[2]?=some .none
theorem C7x : entryFor table "proto.unchain" = some Builtin.«proto.unchain» := entryFor_of_tree (by kernel_rfl)
section
variable{prog:Program}{w:World}{A:Around}{E:Value ->Shared ->Prop}{s:Shared}
theorem Hd.keeps{h h':Heap}(x:Hd A h)(k:∀b o,h.get? b=some o ->h'.get? b=some o):Hd A h':=by
 rcases x with z|⟨x,ox,vs,z,e,d,n⟩
 . exact .inl z
 . exact .inr ⟨x,ox,vs,z,k x ox e,d,n⟩
theorem G5x{α:Type}{a:Addr}{oa:Obj}{ws:Array Value}{h₀:Heap}{Q:α ->Shared ->Prop}(hd:Hd A h₀)(k:∀b o,h₀.get? b=some o ->s.heap.get? b=some o)(na:h₀.get? a=none)
   (ha:s.heap.get? a=some oa) (da:oa.data= .fields ws) (h2:2<ws.size)
   (h:∀h',(∀b o,b≠a ->s.heap.get? b=some o ->h'.get? b=some o) ->(∃o',h'.get? a=some o'/\o'.cls=oa.cls) ->E (.ref a) {s with heap:=h'}):
   wpAny (model prog w) A (raiseNew (.ref a):Sem α) Q E s:=by
 unfold raiseNew
 refine wpAny_bind (wpAny_handled ?_)
 rcases hd with z|⟨x,ox,vs,z,e,d,n⟩
 . rw[z]
   exact wpAny_bind (wpAny_pure (wpAny_throw (h _ (fun b o _ e=>e) ⟨_,ha,rfl⟩)))
 . rw[z]
   have nx:x≠a:=by
     intro q
     rw[q,na] at e
     cases e
   dsimp only
   rw[if_pos (show(Value.ref x !=Value.ref a)=true by simpa using nx)]
   refine wpAny_bind (wpAny_holding (wpAny_runValue (codeAny_builtin C7x ?_)))
   unfold Builtin.«proto.unchain»
   dsimp only
   refine wpAny_bind (wpAny_field (k x ox e) d n ?_)
   rw[if_pos (by decide)]
   refine wpAny_pure ?_
   dsimp only
   unfold updateField
   refine wpAny_bind (wpAny_bind (wpAny_load ha ?_))
   rw[da]
   dsimp only
   rw[if_pos h2]
   refine wpAny_update ha (wpAny_throw (h _ (fun b o hb e=>(Heap.get?_update_other _ _ (Ne.symm hb)).trans e) ⟨_,Heap.get?_update_self _ ha (Obj.isFreed_of_fields (Obj.data_mapFields da _)),Obj.cls_mapFields _ _⟩))
theorem U0w{α:Type}{Q:α ->Shared ->Prop}(hd:Hd A s.heap)
   (h:∀h' e,(∀b o,s.heap.get? b=some o ->h'.get? b=some o) ->({s with heap:=h'}:Shared).TypeIs (.ref e) "StopIteration" ->E (.ref e) {s with heap:=h'}):
   wpAny (model prog w) A (newExc (.type "StopIteration") []>>=fun e=>(raiseNew e:Sem α)) Q E s:=by
 refine wpAny_bind ?_
 simp only[newExc,newTuple]
 refine wpAny_bind (wpAny_newObj_type ?_ (by size_fits));refine wpAny_bind (m:=firstArgMember _ _) (wpAny_of_eq (a:=Value.none) (by first|rfl|(simp only[firstArgMember];rfl)) ?_)
 refine wpAny_newObj_type ?_ (by size_fits);dsimp only
 have k1:∀(z:Obj) b o,s.heap.get? b=some o ->(s.heap.push z).get? b=some o:=fun z b o e=>Heap.get?_push_of_some _ e
 have k2:∀(z y:Obj) b o,s.heap.get? b=some o ->((s.heap.push z).push y).get? b=some o:=fun z y b o e=>Heap.get?_push_of_some _ (Heap.get?_push_of_some _ e)
 have nw:∀(z:Obj),s.heap.get? (s.heap.push z).objs.size=none:=fun z=>Heap.get?_none_of_le (by rw[Heap.size_push];exact Nat.le_succ _)
 refine G5x (s:={s with heap:=_}) (h₀:=s.heap) hd (k2 _ _) (nw _) (Heap.get?_push_size _ rfl) rfl (by show 2<6;decide) fun h' k ⟨o',e',c'⟩=>h h' _ (fun b o e=>?_) ⟨o',e',c'⟩
 refine k b o ?_ (k2 _ _ b o e)
 intro q;rw[q,nw] at e;cases e
theorem B7r{it l:Addr}{i:Nat}{items:Array Value}{Q:Option Value ->Shared ->Prop}(hd:∀h':Heap,Heap.ExtBut it s.heap h' ->Hd A h')
   (hit:s.heap.IsListIter it l i) (hl:s.heap.IsList l items) (hx:items[i]?=none)
   (hQ:∀h',Heap.ExtBut it s.heap h' ->Q none {s with heap:=h'}):wpAny (model prog w) A (pyNext (.ref it)) Q E s:=by
 obtain⟨o,ho,hc,dt⟩:=id hit
 obtain⟨ol,hol,_,nl,dl⟩:=hl
 unfold pyNext
 refine wpAny_bind (wpAny_attempt (wpAny_callSpecial?_slot (name:=Str.ofString "__next__") hit.typeIs slot_listiter_next (wpAny_call_entry slot_listiter_next hit.typeIs entry_listiter_next ?_ (args_listiter_next _))))
 show wpAny _ _ (field (.ref it) 0>>=_) _ _ _;refine wpAny_bind (wpAny_field ho dt (x:= .ref l) rfl ?_)
 show wpAny _ _ (if(Value.ref l==Value.none)=true then _ else _) _ _ _;rw[if_neg (show¬((Value.ref l==Value.none)=true) by simp)]
 show wpAny _ _ (field (.ref it) 1>>=_) _ _ _;refine wpAny_bind (wpAny_field ho dt (x:= .int i 0) rfl ?_)
 show wpAny _ _ (seqItems? (.ref l)>>=_) _ _ _;refine wpAny_bind (wpAny_seqItems hol dl ?_)
 simp only[Int.toNat_natCast,hx]
 refine wpAny_bind (wpAny_rule (wpAny_bind (wpAny_setField ho dt (by simp) ?_)))
 have up:=fun f=>(Heap.SameBut.update (a:=it) (h:=s.heap) (f:=f)).extBut
 refine U0w (s:={s with heap:=_}) (A:=A.in1) (hd _ (up _)) fun h' e k ty=>?_
 refine wpAny_bind (wpAny_isInstance (T:="StopIteration") (b:=true) ty isSubtype_stop ?_)
 exact wpAny_pure (hQ h' fun b o hb z=>k b o (up _ b o hb z))
theorem C2p{it t:Addr}{i:Nat}{items:Array Value}{Q:Option Value ->Shared ->Prop}(hd:∀h':Heap,Heap.ExtBut it s.heap h' ->Hd A h')
   (hit:IsTupIter s.heap it t i) (hl:IsTup s.heap t items) (hx:items[i]?=none)
   (hQ:∀h',Heap.ExtBut it s.heap h' ->Q none {s with heap:=h'}):wpAny (model prog w) A (pyNext (.ref it)) Q E s:=by
 obtain⟨o,ho,hc,dt⟩:=id hit
 obtain⟨ol,hol,_,nl,dl⟩:=hl
 unfold pyNext
 refine wpAny_bind (wpAny_attempt (wpAny_callSpecial?_slot (name:=Str.ofString "__next__") hit.typeIs slot_tupleiter_next (wpAny_call_entry slot_tupleiter_next hit.typeIs entry_tupleiter_next ?_ (args_tupleiter_next _))))
 show wpAny _ _ (field (.ref it) 0>>=_) _ _ _;refine wpAny_bind (wpAny_field ho dt (x:= .ref t) rfl ?_)
 show wpAny _ _ (if(Value.ref t==Value.none)=true then _ else _) _ _ _;rw[if_neg (show¬((Value.ref t==Value.none)=true) by simp)]
 show wpAny _ _ (field (.ref it) 1>>=_) _ _ _;refine wpAny_bind (wpAny_field ho dt (x:= .int i 0) rfl ?_)
 show wpAny _ _ (seqItems? (.ref t)>>=_) _ _ _;refine wpAny_bind (wpAny_seqItems hol dl ?_)
 simp only[Int.toNat_natCast,hx]
 refine wpAny_bind (wpAny_rule (wpAny_bind (wpAny_setField ho dt (by simp) ?_)))
 have up:=fun f=>(Heap.SameBut.update (a:=it) (h:=s.heap) (f:=f)).extBut
 refine U0w (s:={s with heap:=_}) (A:=A.in1) (hd _ (up _)) fun h' e k ty=>?_
 refine wpAny_bind (wpAny_isInstance (T:="StopIteration") (b:=true) ty isSubtype_stop ?_)
 exact wpAny_pure (hQ h' fun b o hb z=>k b o (up _ b o hb z))
theorem U5r{t:Addr}{items:Array Value}{targets:List (Bool×(Value ->Sem Unit))}{Q:Unit ->Shared ->Prop}(hd:Hd A s.heap)(ht:IsTup s.heap t items)
   (hn:targets.length=items.size) (hst:targets.findIdx? (·.1)=none)
   (h:∀h',Heap.ExtBut s.heap.objs.size s.heap h' ->wpAny (model prog w) A (assignInOrder (targets.map (·.2)) items.toList) Q E {s with heap:=h'}):
   wpAny (model prog w) A (unpack (.ref t) targets) Q E s:=by
 have ne:t≠s.heap.objs.size:=by obtain⟨o,ho,_⟩:=ht;exact Nat.ne_of_lt (Heap.lt_size ho)
 unfold unpack
 rw[hn,hst]
 refine wpAny_bind (wpAny_holding ?_)
 unfold unpackItems
 refine wpAny_bind ?_
 unfold notIterableAtAll
 refine wpAny_bind (wpAny_specialOf ht.typeIs slot_tuple_iter.lookup (wpAny_pure ?_))
 simp only[Bool.false_eq_true,if_false]
 refine wpAny_bind (wpAny_holding (iter_tuple ht (wpAny_bind (wpAny_holding (draw_tuple ne items.size 0 _ _ ⟨_,Heap.get?_push_size _ rfl,rfl,rfl⟩ (ht.push _) (by omega) fun g hit sb=>?_)))))
 have all:List.take items.size (List.drop 0 items.toList)=items.toList:=List.take_of_length_le (by simp)
 rw[all,if_neg (by simp)]
 have old:∀b o,b≠s.heap.objs.size ->s.heap.get? b=some o ->g.get? b=some o:=fun b o hb e=>sb.extBut b o hb (Heap.get?_push_of_some _ e)
 refine wpAny_bind (wpAny_holding (C2p (fun h' k=>hd.keeps fun b o e=>?_) hit ((ht.push _).extBut sb.extBut ne) (by simp) fun h₂ he₂=>?_))
 . have nb:b≠s.heap.objs.size:=Nat.ne_of_lt (Heap.lt_size e)
   exact k b o nb (old b o nb e)
 . simp only[Option.isSome_none,Bool.false_eq_true,if_false]
   exact wpAny_pure (h h₂ fun b o hb e=>he₂ b o hb (old b o hb e))
end
theorem ObjOk.there{P:Program}{w:World}{H:Hp}{h:Heap}{a:Addr}{o:HO}(x:ObjOk P w H h a o):∃u,h.get? a=some u:=by
 cases o with
 |lst xs=>obtain⟨_,_,_,_,e⟩:=x;exact⟨_,e⟩
 |tup xs=>obtain⟨_,_,_,_,e,_⟩:=x;exact⟨_,e⟩
 |dK kvs=>obtain⟨_,_,_,_,o,_,_,e,_⟩:=x;exact⟨_,e⟩
 |dT kvs=>obtain⟨_,_,_,_,o,_,_,e,_⟩:=x;exact⟨_,e⟩
 |set S n=>obtain⟨o,_,_,_,e,_⟩:=x;exact⟨_,e⟩
 |ins C dx fs=>obtain⟨_,_,_,e,_⟩:=x;exact⟨_,e⟩
 |own y=>obtain⟨_,e⟩:=x;exact⟨_,e⟩
 |xd fs=>obtain⟨_,⟨_,_,_,e,_⟩,_⟩:=x;exact⟨_,e⟩
 |rng lo hi=>obtain⟨_,_,_,e⟩:=x;exact⟨_,e⟩
 |frz ob u=>obtain⟨e,_⟩:=x;exact⟨_,e⟩
 |tbl ps=>exact⟨_,show h.get? a=some _ from x⟩
 |met f y=>exact⟨_,show h.get? a=some _ from x⟩
 |ext φ=>obtain⟨_,e,_⟩:=x;exact e
theorem HOk.new{P:Program}{w:World}{H:Hp}{h:Heap}{a:Addr}(x:HOk P w H h)(e:h.get? a=none):H a=none:=by
 cases q:H a with
 |none=>rfl
 | some u=>
   obtain⟨o,z⟩:=(x a u q).there
   rw[e] at z
   cases z
structure Nw(X:Cx)(pins:List (Addr×Obj))(H:Hp)(b:Addr):Prop where
 un:H b=none
 loc:b≠X.env.locals
 fs:b ∉ X.fs
 old:X.s₀.heap.get? b=none
 cell:∀x c,X.env.cells.lookup x=some c ->c≠b
 pin:∀p∈X.pn++pins,p.1≠b
section
variable{X:Cx}{pins:List (Addr×Obj)}{σ:St}{H H':Hp}{s s':Shared}{a b t:Addr}{C:Value}{dd:Option Addr}
theorem Inv.fsFree(I:Inv X pins σ H s):∀b∈X.fs,H b=none:=fun b hb=>I.stkFree b (by
 rcases I.ok.stk with z|⟨z,zf⟩
 . rw[z];exact hb
 . rw[z]
   unfold frs
   rw[List.filterMap_cons,zf]
   exact List.mem_cons_of_mem _ hb)
theorem Inv.nw(I:Inv X pins σ H s)(hex:X.ex=[])(e:s.heap.get? b=none)(hu:H' b=none):Nw X pins H' b:=by
 refine⟨hu,?_,?_,?_,?_,?_⟩
 . rintro rfl
   obtain⟨m,⟨o,_,_,ho,_⟩,_⟩:=I.loc
   rw[e] at ho
   cases ho
 . intro hb
   obtain⟨_,o,ho,_⟩:=I.funs.mem hb
   rw[e] at ho
   cases ho
 . cases q:X.s₀.heap.get? b with
   |none=>rfl
   | some o=>
     obtain⟨o',z⟩:=I.base.there b o q (by rw[hex];simp)
     rw[e] at z
     cases z
 . rintro x c h rfl
   obtain⟨v,o,ho,_⟩:=I.cell x c h
   rw[e] at ho
   cases ho
 . rintro p hp rfl
   obtain⟨z,_⟩:=I.pin p hp
   rw[e] at z
   cases z
theorem Inv.stepN{h':Heap}{ch:List Addr}(I:Inv X pins σ H s)(hch:∀b∈ch,Nw X pins H b)
   (keep:∀b o,b≠X.env.locals ->b ∉ X.fs ->b ∉ ch ->s.heap.get? b=some o ->h'.get? b=some o)
   (slot:∀b o,b ∉ ch ->s.heap.get? b=some o ->∃sl,h'.get? b=some {o with slots:=sl}):Inv X pins σ H {s with heap:=h'}:=by
 have neL:∀b o,X.s₀.heap.get? b=some o ->b≠X.env.locals:=fun b o e=>Nat.ne_of_lt (Nat.lt_of_lt_of_le (Heap.lt_size e) I.ok.above)
 have neC:∀b o,X.s₀.heap.get? b=some o ->b ∉ ch:=fun b o e hb=>by
   have z:=(hch b hb).old
   rw[e] at z
   cases z
 have cellK:∀x c,X.env.cells.lookup x=some c ->∀v,s.heap.IsCell c v ->h'.IsCell c v:=fun x c e v ⟨o,ho,hd⟩=>by
   have nch:c ∉ ch:=fun z=>(hch c z).cell x c e rfl
   obtain⟨sl,q⟩:=slot c o nch ho
   exact⟨_,q,hd⟩
 refine⟨I.ok,I.os,I.bare,⟨fun b o e n hb hx=>?_,fun b o e n hb hx=>?_,I.base.free,fun b o e hx=>?_,I.base.tups,I.base.frzs,I.base.tbls⟩,?_,fun x c e=>?_,I.free,I.freeC,fun p hp=>?_,?_,I.len⟩
 . exact keep b o (neL b o e) hb (neC b o e) (I.base.keep b o e n hb hx)
 . obtain⟨sl,e1⟩:=I.base.slot b o e n hb hx
   obtain⟨sl',e2⟩:=slot b _ (neC b o e) e1
   exact⟨sl',e2⟩
 . obtain⟨o',e1⟩:=I.base.there b o e hx
   obtain⟨sl',e2⟩:=slot b _ (neC b o e) e1
   exact⟨_,e2⟩
 . obtain⟨m,hn,hl⟩:=I.loc
   refine⟨m,?_,fun i x v e1 e2 e3=>?_⟩
   . obtain⟨o,es,ep,ho,r⟩:=hn
     obtain⟨sl,q⟩:=slot _ o (fun z=>(hch _ z).loc rfl) ho
     exact⟨_,es,ep,q,r⟩
   . obtain⟨u,r,l⟩:=hl i x v e1 e2 e3
     refine⟨u,r,?_⟩
     rcases l with l|⟨k,c,e,z⟩
     . exact .inl l
     . exact .inr ⟨k,c,e,cellK x c e _ z⟩
 . obtain⟨v,z⟩:=I.cell x c e
   exact⟨v,cellK x c e v z⟩
 . obtain⟨e,n,ne,nf,d⟩:=I.pin p hp
   exact⟨keep p.1 p.2 ne nf (fun z=>(hch p.1 z).pin p hp rfl) e,n,ne,nf,d⟩
 . intro c o e
   have tr:∀b,H b≠none ->∀u,s.heap.get? b=some u ->h'.get? b=some u:=fun b hb u q=>
     keep b u (fun z=>hb (by rw[z];exact I.free)) (fun z=>hb (I.fsFree b z)) (fun z=>hb (hch b z).un) q
   refine(I.hok c o e).stay (fun b u hb q=>tr b ?_ u q) (fun _ q=>q) fun _ _ q=>q
   rcases hb with rfl|hb
   . rw[e];simp
   . rw[hb];simp
noncomputable def Flt (X:Cx) (pins:List (Addr×Obj)) (H:Hp) (s:Shared) (a:Addr) (C:Value) (t:Addr) (dd:Option Addr):Prop:=
 Nw X pins H a/\∃tb,s.heap.get? a=some (A0p C t dd tb)/\Z5w s.heap a tb/\∀T,tb= .ref T ->Nw X pins H T
noncomputable def FltAt (X:Cx) (pins:List (Addr×Obj)) (H:Hp) (s:Shared) (a:Addr) (C:Value) (t:Addr) (dd:Option Addr) (fl:Value):Prop:=
 Nw X pins H a/\∃T oT ts,s.heap.get? a=some (A0p C t dd (.ref T))/\T≠a/\Nw X pins H T/\s.heap.get? T=some oT/\oT.data= .fields ts/\ts[3]?=some fl
structure Body(X:Cx):Prop where
 ex:X.ex=[]
 st:X.stack=X.env::X.outer
 fr:X.env.frame=some X.env.locals
theorem FltAt.flt(F:FltAt X pins H s a C t dd .none):Flt X pins H s a C t dd:=by
 obtain⟨n,T,oT,ts,e,ne,nT,eT,dT,h3⟩:=F
 exact⟨n,_,e,.inr ⟨T,oT,ts,rfl,ne,eT,dT,h3⟩,fun T' z=>by cases z;exact nT⟩
noncomputable def G9k:Value ->List Addr
 | .ref z=>[z]
 |_=>[]
theorem G6g{M:Model}{E:Value ->Shared ->Prop}{Q:Unit ->Shared ->Prop}(B:Body X)(I:Inv X pins σ H s)(F:Flt X pins H s a C t dd)
   (k:∀s',Inv X pins σ H s' ->FltAt X pins H s' a C t dd (rawInt X.env.locals) ->Q () s'):wpAny M X.A (noteFrame (.ref a) X.env) Q E s:=by
 obtain⟨na,tb,e,ht,nT⟩:=F
 have hfr:=I.ok.frames
 rw[B.st] at hfr
 have hl:=I.stack
 rw[B.st] at hl
 refine Z4y hfr hl B.fr e ht fun h' T k1 k2 k3 k4 k5 k6=>?_
 have ch:∀b,b ∉ a::G9k tb ->b≠a/\tb≠ .ref b:=by
   intro b hb
   refine⟨fun z=>hb (by rw[z];exact List.mem_cons_self),fun z=>hb ?_⟩
   rw[z]
   exact List.mem_cons_of_mem _ (List.mem_singleton.mpr rfl)
 have I':Inv X pins σ H {s with heap:=h'}:=by
   refine I.stepN (ch:=a::G9k tb) (fun b hb=>?_) (fun b o h1 h2 h3 q=>k1 b o ?_ (ch b h3).1 (ch b h3).2 q) (fun b o h3 q=>k2 b o (ch b h3).1 (ch b h3).2 q)
   . rcases List.mem_cons.mp hb with rfl|hb
     . exact na
     . cases tb<;>simp[G9k] at hb
       subst hb
       exact nT _ rfl
   . intro z
     rw[List.filterMap_cons,B.fr] at z
     rcases List.mem_cons.mp z with z|z
     . exact h1 z
     . exact h2 z
 obtain⟨oT,ts,q1,q2,q3⟩:=k6
 exact k _ I' ⟨na,T,oT,ts,k5,k4,I.nw B.ex k3 (I.hok.new k3),q1,q2,q3⟩
theorem C4q{M:Model}{A:Around}{E:Value ->Shared ->Prop}{Q:Unit ->Shared ->Prop}{fl:Value}(I:Inv X pins σ H s)(F:FltAt X pins H s a C t dd fl)
   (k:∀s',Inv X pins σ H s' ->FltAt X pins H s' a C t dd .none ->Q () s'):wpAny M A (setFlight (.ref a) none) Q E s:=by
 obtain⟨na,T,oT,ts,e,ne,nT,eT,dT,h3⟩:=F
 refine Z4j e ne eT dT h3 fun h' k1 k2=>?_
 have I':Inv X pins σ H {s with heap:=h'}:=I.stepN (ch:=[T]) (fun b hb=>by
   have:b=T:=by simpa using hb
   subst this
   exact nT) (fun b o _ _ hb q=>k1 b o (fun z=>hb (by simp[z])) q) (fun b o hb q=>⟨_,k1 b o (fun z=>hb (by simp[z])) q⟩)
 rcases k2 with z|⟨T',oT',ts',z,_,q1,q2,q3⟩
 . cases z
 . cases z
   exact k _ I' ⟨na,T,oT',ts',k1 a _ (Ne.symm ne) e,ne,nT,q1,q2,q3⟩
theorem D2h{M:Model}{E:Value ->Shared ->Prop}{Q:Unit ->Shared ->Prop}(B:Body X)(I:Inv X pins σ H s)(F:Flt X pins H s a C t dd)
   (k:∀s',Inv X pins σ H s' ->FltAt X pins H s' a C t dd .none ->Q () s'):wpAny M X.A (leaving X.env (.ref a)) Q E s:=by
 unfold leaving
 exact wpAny_bind (G6g B I F fun s1 I1 F1=>C4q I1 F1 k)
end
noncomputable abbrev EK:=Value ->Option Addr ->St ->Hp ->Prop
noncomputable def G5 (X:Cx) (EH:EK):Prop:=∀(pins:List (Addr×Obj)) (σ:St) (H:Hp) (s:Shared) (a t:Addr) (C:Value) (dd:Option Addr),Inv X pins σ H s ->Flt X pins H s a C t dd ->EH C dd σ H ->X.xe (.ref a) s
noncomputable def CX1 (P:Program) (w:World):CXT:=fun outer H s E e s'=>∃(a t:Addr) (C:Value) (dd:Option Addr) (H':Hp),e= .ref a/\s'.os=s.os/\AllBare s'.gens/\Un (frs outer) [] H H' s.heap s'.heap/\HOk P w H' s'.heap/\E C dd H'/\
 (s.heap.get? a=none/\H' a=none)/\∃T oT ts,s'.heap.get? a=some (A0p C t dd (.ref T))/\T≠a/\(s.heap.get? T=none/\H' T=none)/\s'.heap.get? T=some oT/\oT.data= .fields ts/\ts[3]?=some .none
theorem A6z{P:Program}{w:World}{K:PySem.W.Frag}{mg:Str ->Option Value}{base:Heap}{N:List Str}{qual:Str}{scope:Scope}{f:Addr}{cd:Value}{A:Around}{outer:List Env}{s:Shared}{H:Hp}{E:XK}:
   G5 (A0f (CX1 P w) P w K mg base N qual scope f cd A outer s H E) (fun C dd _ H'=>E C dd H'):=by
 intro pins σ H' s' a t C dd I F h
 refine D2h (X:=A0f (CX1 P w) P w K mg base N qual scope f cd A outer s H E) ⟨rfl,rfl,rfl⟩ I F fun s2 I2 F2=>?_
 obtain⟨na,T,oT,ts,e,ne,nT,eT,dT,h3⟩:=F2
 exact⟨a,t,C,dd,H',rfl,I2.os,I2.bare,I2.base,I2.hok,h,⟨na.old,na.un⟩,T,oT,ts,e,ne,⟨nT.old,nT.un⟩,eT,dT,h3⟩
section
variable{X:Cx}{k:Nat}{f C:Addr}{fd:FuncData}{ps:List Str}{sp:Sp}{dvs:List V}{ds:List Value}{EH:EK}{x m:Str}{p pos apos:Pos}{e o:Expr}{es:List Expr}{ta:TE}{t:TA}
theorem Y8u{pins:List (Addr×Obj)}{σ:St}{H:Hp}{s:Shared}{e:Value}{s':Shared}(hx:G5 X EH)(hex:X.ex=[])(I:Inv X pins σ H s)
   (h:CX1 X.prog X.w X.stack H s (fun C d H'=>EH C d σ H') e s'):X.xe e s':=by
 obtain⟨a,t,C,dd,H',rfl,os,bare,un,hok,hE,⟨a1,a2⟩,T,oT,ts,z,ne,⟨t1,t2⟩,eT,dT,h3⟩:=h
 have I':Inv X pins σ H' s':=I.call' (ch:=[]) os un hok bare (fun b q=>absurd q (by simp))
 exact hx pins σ H' s' a t C dd I' (FltAt.flt ⟨I.nw hex a1 a2,T,oT,ts,z,ne,I.nw hex t1 t2,eT,dT,h3⟩) hE
theorem C2y{pins:List (Addr×Obj)}{σ:St}{H:Hp}{s:Shared}{Q:VK}{us:List Value}{vs:List V}(F:FnOk X.prog X.w X.K X.mg X.base (CX1 X.prog X.w) k f fd ps sp)(hr:Room k X.A)(hb:Binds X.K fd ps ds)(hd:Vals dvs ds)
   (hx:G5 X EH) (hex:X.ex=[]) (I:Inv X pins σ H s) (r:Vals vs us) (h:sp (vs++dvs) H Q (fun C d H'=>EH C d σ H')):wpAny (model X.prog X.w) X.A (call (.ref f) us) (EP X pins σ Q) X.xe s:=by
 have r2:Vals (vs++dvs) (us++ds):=r.append hd
 have hl:(us++ds).length=ps.length:=by rw[<-r2.length];exact F.len _ _ _ _ h
 refine wpAny_call (codeAny_mono (F.run X.A X.stack s H ⟨us,[]⟩ (us++ds) (vs++dvs) Q _ hr I.env0 (hb s us I.kIn hl) r2 h) fun r s' hq=>?_)
 cases r with
 |error e=>exact Y8u hx hex I hq
 | ok fl=>
   cases fl with
   |ret u=>exact I.after hq
   |next=>exact False.elim hq
   |brk=>exact False.elim hq
   |cont=>exact False.elim hq
noncomputable def D4y (sp:Sp) (dvs:List V) (EH:EK) (t:TA):TE:=fun σ H Q=>t σ H fun vs H1=>sp (vs++dvs) H1 Q (fun C d H'=>EH C d σ H')
theorem U9r(F:FnOk X.prog X.w X.K X.mg X.base (CX1 X.prog X.w) k f fd ps sp)(hr:Room k X.A)(hg:Gl X x)(hm:X.mg x=some (.ref f))(hk:PySem.W.keepIn X.K (.ref f)=true)(hb:Binds X.K fd ps ds)(hd:Vals dvs ds)
   (hx:G5 X EH) (ha:PA X (e::es) t) (hex:X.ex=[]:=by rfl) (hdb:(x==("__debug__":Str))=false:=by decide) (he:starEach (e::es) X.env=(false,eval e X.env)::starEach es X.env:=by rfl)
   (hpl:(backTo pos (starEach es X.env)).any (·.1)=false:=by rfl):PE X (.Call (.Name x p) (e::es) [] pos) (D4y sp dvs EH t):=by
 intro pins s σ H Q I h
 refine wpAny_Call_Name_kw (A1t I hg hm ?_ hdb)
 refine PySem.W.callWith_K (h₀:=X.base) I.ok.mod.kin hk (thn (ha pos pins s σ H _ I h) fun us s1 ⟨vs,H1,I1,r,q⟩=>⟨I1.kIn,?_⟩) he hpl
 exact C2y F hr hb hd hx hex I1 r q
theorem U4r(F:FnOk X.prog X.w X.K X.mg X.base (CX1 X.prog X.w) k f fd ps sp)(hr:Room k X.A)(hg:Gl X x)(hm:X.mg x=some (.ref f))(hk:PySem.W.keepIn X.K (.ref f)=true)(hb:Binds X.K fd ps ds)(hd:Vals dvs ds)
   (hx:G5 X EH) (hex:X.ex=[]:=by rfl) (hdb:(x==("__debug__":Str))=false:=by decide):PE X (.Call (.Name x p) [] [] pos) (D4y sp dvs EH U4d):=by
 intro pins s σ H Q I h
 refine wpAny_Call_Name_kw (A1t I hg hm ?_ hdb)
 exact PySem.W.callWith_K0 I.kIn hk (C2y (us:=[]) F hr hb hd hx hex I .nil h)
end
section
variable{P:Program}{w:World}{K:PySem.W.Frag}{mg:Str ->Option Value}{base:Heap}
theorem Fun.okE{x qual:Str}{st:Stmt}{f:Addr}{fd:FuncData}{N ps:List Str}{k:Nat}{sp:Sp}(F:Fun K x qual st f fd)(S:FnScope N ps (A3 st))(len:∀vs H Q E,sp vs H Q E ->vs.length=ps.length)
   (hbody:∀(X:Cx) (cdv:Value) (A:Around) (outer:List Env) (s:Shared) (H:Hp) (vs:List V) (Q:VK) (E:XK),X=A0f (CX1 P w) P w K mg base N qual (A3 st) f cdv A outer s H E ->Room k X.A ->G5 X (fun C dd _ H'=>E C dd H') ->sp vs H Q E ->
     ∃t,PSs (A0f (CX1 P w) P w K mg base N qual (A3 st) f cdv A outer s H E) (B9 st) t/\t {nx:=fun _ H'=>Q .non H',rt:=Q} (A4a N vs) H):FnOk P w K mg base (CX1 P w) (k+1) f fd ps sp:=by
 obtain⟨oc,od,kV,doc,pm,an,cdv,ct,osl,rfl,lk,hc⟩:=F.ex
 exact V0c lk hc S len fun A outer s H vs Q E hr h=>hbody _ cdv A outer s H vs Q E rfl hr A6z h
theorem FnOk.up{k:Nat}{f:Addr}{fd:FuncData}{ps:List Str}{sp:Sp}(F:FnOk P w K mg base CX0 k f fd ps sp):FnOk P w K mg base (CX1 P w) k f fd ps sp:=by
 refine⟨F.len,fun A outer s H args us vs Q E hr e0 hb r h=>codeAny_mono (F.run A outer s H args us vs Q E hr e0 hb r h) fun r s' q=>?_⟩
 cases r with
 |error e=>exact False.elim q
 |ok fl=>cases fl<;>exact q
end
end L2
namespace L2
open PySem PySem.Spec PyProof.Rows PySem.W
theorem Y9b{K:Frag}{h:Heap}{C:Addr}{bmB:List Value}{newId:String}(X:K.In h)(q:excIn K C bmB newId=true):
   ∃ (bm:List Value) (N:Addr) (nm qn:Str) (bs:List Value) (hd:Bool) (sn:List Str) (sub:List Value) (ab:Bool) (col:Option Bool) (dd:Option Addr) (k0 k1 k2 k3 k5:Option Value) (mN:Str ->Option Value),
     h.get? C=some (excClassObj nm qn C N bs bm hd sn sub ab col dd k0 k1 k2 k3 k5 newId)/\h.Ns N mN/\mN "__init__"=none/\OwnTail h bmB bm:=by
 unfold excIn at q
 split at q
 . rename_i dd cd sl ho
   split at q
   . rename_i C' bm k0 k1 k2 k3 n k5 hm hs
     simp only[Bool.and_eq_true,beq_iff_eq,Bool.not_eq_true'] at q
     obtain⟨⟨⟨⟨⟨r1,r2⟩,r3⟩,r4⟩,r5⟩,r6⟩:=q
     subst r1 r2
     obtain⟨a1,a2,a3,a4,a5,a6,a7,a8,a9,a10,a11⟩:=cd
     dsimp only at hm r3 r5 r6
     subst hm r3
     have hsl:sl= #[k0,k1,k2,k3,some (.builtin n),k5]:=by
       obtain⟨l⟩:=sl
       simp only at hs
       rw[hs]
     subst hsl
     exact⟨bm,a4,a1,a5,a2,a6,a7,a8,a9,a10,dd,k0,k1,k2,k3,k5,_,X _ _ ho,.of_isNs (isNs_of_in X r5),nsMap_none_of_in X r5 r6,tail_of_in X r4⟩
   . cases q
 . cases q
section
variable{X:Cx}{x:Str}{p cpos pos:Pos}{e:Expr}{es:List Expr}{t:TA}{C:Addr}{bmB:List Value}{B newId initId:String}{EH:EK}
noncomputable def Z5n (C:Addr) (EH:EK) (t:TA):TS:=fun _ σ H=>t σ H fun vs H1=>vs.length<=sizeLine/\EH (.ref C) none σ H1
theorem A4h(hg:Gl X x)(hm:X.mg x=some (.ref C))(q:excIn X.K C bmB newId=true)(FB:ExcBaseFacts B newId initId bmB)(hh:X.A.handled=none)(hx:G5 X EH)(ha:PA X (e::es) t)(hex:X.ex=[]:=by rfl)
   (hdb:(x==("__debug__":Str))=false:=by decide) (he:starEach (e::es) X.env=(false,eval e X.env)::starEach es X.env:=by rfl) (hpl:(backTo cpos (starEach es X.env)).any (·.1)=false:=by rfl):
   PS X (.Raise (some (.Call (.Name x p) (e::es) [] cpos)) none pos) (Z5n C EH t):=by
 intro pins s σ H D I h
 obtain⟨bm,N,nm,qn,bs,hd,sn,sub,ab,col,dd,k0,k1,k2,k3,k5,mN,hC,hN,hni,T⟩:=Y9b I.ok.mod.kin q
 refine wpAny_Raise_call_subT (C:=C) (nm:=nm) (q:=qn) (N:=N) (bs:=bs) (bm:=bm) (hdct:=hd) (sn:=sn) (sub:=sub) (ab:=ab) (col:=col) (dd:=dd) (k0:=k0) (k1:=k1) (k2:=k2) (k3:=k3) (k5:=k5) FB (mN:=mN) (T.hasType FB.hasBase) hh
   (by rw[he];show(false||(backTo cpos (starEach es X.env)).any (·.1))=false;rw[hpl];rfl) hni (A1t I hg hm ⟨rfl,?_⟩ hdb)
 have ha':=ha cpos pins s σ H _ I h
 rw[he] at ha' ⊢
 refine Calls.evalArgs_plain (wpAny_mono ha' (fun us s2 ⟨vs,H1,I1,r,z,q⟩=>⟨rfl,by rw[<-r.length];exact z,I1.bk _ _ hC,hN.keeps I1.bk,T.keeps I1.bk,fun h' a m=>?_⟩) fun _ _ y=>y)
 have I2:Inv X pins σ H1 {s2 with heap:=h'}:=I1.kept (t':=s2.toks) m.keeps
 obtain⟨t',e1,tn,e2⟩:=m.there
 exact hx pins σ H1 _ a t' (.ref C) none I2 ⟨I1.nw hex m.new (I1.hok.new m.new),.none,e1,.inl rfl,fun T z=>nomatch z⟩ q
end
section
variable{X:Cx}{pins:List (Addr×Obj)}{σ:St}{H:Hp}{s:Shared}
theorem Inv.track{a:Addr}{o:Obj}(I:Inv X pins σ H s)(n:Nw X pins H a)(e:s.heap.get? a=some o):Inv X pins σ (upd H a (.frz o (.own a))) s:=by
 have ne:∀b u,H b=some u ->b≠a:=fun b u z q=>by rw[q,n.un] at z;cases z
 have up:∀b,b≠a ->upd H a (.frz o (.own a)) b=H b:=fun b hb=>D4 hb
 refine⟨I.ok,I.os,I.bare,⟨I.base.keep,I.base.slot,fun b u z m hx=>?_,I.base.there,fun b xs z=>?_,fun b u v z=>?_,fun b ps z=>?_⟩,I.loc,I.cell,?_,fun x c z=>?_,fun p hp=>?_,fun b u z=>?_,I.len⟩
 . rw[up b fun q=>by rw[q,n.old] at z;cases z]
   exact I.base.free b u z m hx
 . have:=I.base.tups b xs z
   rw[up b (ne b _ this)];exact this
 . have:=I.base.frzs b u v z
   rw[up b (ne b _ this)];exact this
 . obtain⟨more,this⟩:=I.base.tbls b ps z
   exact⟨more,by rw[up b (ne b _ this)];exact this⟩
 . rw[up _ (Ne.symm n.loc)];exact I.free
 . rw[up _ (n.cell x c z)];exact I.freeC x c z
 . obtain⟨q1,q2,q3⟩:=I.pin p hp
   exact⟨q1,by rw[up _ (n.pin p hp)];exact q2,q3⟩
 . by_cases hb:b=a
   . subst hb
     rw[B5] at z
     cases z
     exact⟨e,_,e⟩
   . rw[up b hb] at z
     exact(I.hok b u z).stay (fun _ _ _ q=>q) (fun c q=>by rw[up c (ne c _ q)];exact q) (fun c xs q=>by rw[up c (ne c _ q)];exact q)
theorem U4g{M:Model}{A:Around}{E:Value ->Shared ->Prop}{i:Nat}{x:Str}{v:V}{Q:Unit ->Shared ->Prop}(I:Inv X pins σ H s)(hN:X.N.Nodup)(hi:X.N[i]?=some x)(hk:X.env.scope.names.lookup x=some .local)(hv:σ[i]?=some (some v))
   (k:∀s',Inv X pins (σ.set i none) H s' ->Q () s'):wpAny M A (unbindName X.env x) Q E s:=by
 obtain⟨m,hn,hl⟩:=id I.loc
 have hcls:(X.env.scope.kind== .class||(X.env.scope.kind== .module&&X.env.locals !=X.env.globals))=false:=by rw[I.ok.kind];rfl
 obtain⟨u,_,lk⟩:=hl i x v hi hv (.inl hk)
 have hm:m x=some u:=by
   rcases lk with⟨_,z⟩|⟨z,_⟩
   . exact z
   . have z:X.env.scope.names.lookup x=some .cell\/X.env.scope.names.lookup x=some .free:=z
     rw[hk] at z
     rcases z with z|z<;>cases z
 refine wpAny_unbindName_local hk hn hm hcls fun h' w' hn' hs=>k _ ?_
 obtain⟨oL,_,_,hoL,_⟩:=id hn
 have nl:∀b o,X.s₀.heap.get? b=some o ->b≠X.env.locals:=fun b o e=>Nat.ne_of_lt (Nat.lt_of_lt_of_le (Heap.lt_size e) I.ok.above)
 refine⟨I.ok,I.os,I.bare,⟨fun b o e n hb hx=>?_,fun b o e n hb hx=>?_,I.base.free,fun b o e hx=>?_,I.base.tups,I.base.frzs,I.base.tbls⟩,⟨_,hn',fun j y v' e1 e2 e3=>?_⟩,fun y c e=>?_,I.free,I.freeC,fun p hp=>?_,fun b u z=>?_,by simpa using I.len⟩
 . exact(hs.2 b (nl b o e)).trans (I.base.keep b o e n hb hx)
 . obtain⟨sl,e1⟩:=I.base.slot b o e n hb hx
   exact⟨sl,(hs.2 b (nl b o e)).trans e1⟩
 . obtain⟨o',e1⟩:=I.base.there b o e hx
   exact⟨o',(hs.2 b (nl b o e)).trans e1⟩
 . by_cases hj:j=i
   . subst hj
     have hlen:j<σ.length:=(List.getElem?_eq_some_iff.mp hv).1
     rw[List.getElem?_set_self hlen] at e2
     cases e2
   . rw[List.getElem?_set_ne (Ne.symm hj)] at e2
     obtain⟨u',r',q⟩:=hl j y v' e1 e2 e3
     refine⟨u',r',?_⟩
     rcases q with⟨k1,e⟩|⟨k1,c,e,z⟩
     . have:y≠x:=fun e=>hj (C4g hN e1 (e▸hi))
       exact .inl ⟨k1,by simp[this,e]⟩
     . exact .inr ⟨k1,c,e,z.sameBut hs (I.cne y c e)⟩
 . obtain⟨w2,z⟩:=I.cell y c e
   exact⟨w2,z.sameBut hs (I.cne y c e)⟩
 . obtain⟨e,n,ne,nf,d⟩:=I.pin p hp
   exact⟨(hs.2 p.1 ne).trans e,n,ne,nf,d⟩
 . refine(I.hok b u z).stay (fun c w2 hc q=>(hs.2 c ?_).trans q) (fun _ q=>q) fun _ _ q=>q
   rintro rfl
   rcases hc with rfl|hc
   . rw[I.free] at z;cases z
   . rw[I.free] at hc;cases hc
end
noncomputable abbrev Cx.hold (X:Cx) (pins:List (Addr×Obj)) (E:Value ->Shared ->Prop):Cx:={X with pn:=X.pn++pins,xe:=E}
noncomputable abbrev Cx.hnd (X:Cx) (pins:List (Addr×Obj)) (a:Addr):Cx:={X with A:=X.A.mark (some (.ref a)),calm:=false,pn:=X.pn++pins,xe:=fun _ _=>False}
section
variable{X:Cx}{pins pins':List (Addr×Obj)}{σ:St}{H:Hp}{s:Shared}{a:Addr}{E:Value ->Shared ->Prop}
theorem Inv.hold(I:Inv X pins σ H s):Inv (X.hold pins E) [] σ H s:=
 ⟨⟨I.ok.mod,I.ok.kind,I.ok.glob,I.ok.blt,I.ok.above,I.ok.inj,I.ok.has,I.ok.cab,I.ok.hd,I.ok.frames,I.ok.stk,I.ok.exf,I.ok.bs,I.ok.bsz,I.ok.noex,I.ok.exfs,I.ok.funs,I.ok.frf⟩,
   I.os,I.bare,I.base,I.loc,I.cell,I.free,I.freeC,fun p hp=>I.pin p (by simpa using hp),I.hok,I.len⟩
theorem Inv.unhold(I:Inv (X.hold pins E) pins' σ H s):Inv X pins σ H s:=
 ⟨⟨I.ok.mod,I.ok.kind,I.ok.glob,I.ok.blt,I.ok.above,I.ok.inj,I.ok.has,I.ok.cab,I.ok.hd,I.ok.frames,I.ok.stk,I.ok.exf,I.ok.bs,I.ok.bsz,I.ok.noex,I.ok.exfs,I.ok.funs,I.ok.frf⟩,
   I.os,I.bare,I.base,I.loc,I.cell,I.free,I.freeC,fun p hp=>I.pin p (List.mem_append_left _ hp),I.hok,I.len⟩
theorem Inv.hnd(I:Inv X pins σ H s):Inv (X.hnd pins a) [] σ H s:=
 ⟨⟨I.ok.mod,I.ok.kind,I.ok.glob,I.ok.blt,I.ok.above,I.ok.inj,I.ok.has,I.ok.cab,(fun z=>nomatch z),I.ok.frames,I.ok.stk,I.ok.exf,I.ok.bs,I.ok.bsz,I.ok.noex,I.ok.exfs,I.ok.funs,I.ok.frf⟩,
   I.os,I.bare,I.base,I.loc,I.cell,I.free,I.freeC,fun p hp=>I.pin p (by simpa using hp),I.hok,I.len⟩
theorem Inv.unhnd(ok:X.Ok)(I:Inv (X.hnd pins a) pins' σ H s):Inv X pins σ H s:=
 ⟨ok,I.os,I.bare,I.base,I.loc,I.cell,I.free,I.freeC,fun p hp=>I.pin p (List.mem_append_left _ hp),I.hok,I.len⟩
theorem Nw.unhold{b:Addr}(n:Nw (X.hold pins E) pins' H b):Nw X pins H b:=⟨n.un,n.loc,n.fs,n.old,n.cell,fun p hp=>n.pin p (List.mem_append_left _ hp)⟩
theorem Flt.unhold{t:Addr}{C:Value}{dd:Option Addr}(F:Flt (X.hold pins E) pins' H s a C t dd):Flt X pins H s a C t dd:=by
 obtain⟨n,tb,e,ok,m⟩:=F
 exact⟨n.unhold,tb,e,ok,fun T z=>(m T z).unhold⟩
theorem SP.unhold{D:Ends}{f:Flow}{s':Shared}(h:SP (X.hold pins E) pins' D f s'):SP X pins D f s':=by
 cases f with
 |next=>obtain⟨σ',H',I,q⟩:=h;exact⟨σ',H',I.unhold,q⟩
 |brk=>obtain⟨σ',H',I,q⟩:=h;exact⟨σ',H',I.unhold,q⟩
 |cont=>obtain⟨σ',H',I,q⟩:=h;exact⟨σ',H',I.unhold,q⟩
 |ret u=>obtain⟨v,σ',H',I,r,q⟩:=h;exact⟨v,σ',H',I.unhold,r,q⟩
end
structure Clause(K:Frag)(R:Addr):Prop where
 ty:typeIn K (.ref R)=some (.type "type")
 cl:(clsIn K R).isSome=true
 ex:subIn K (.ref R) (.type "BaseException")=some true
theorem A7a{K:Frag}{M:Model}{h:Heap}{R:Addr}(X:K.In h)(c:(clsIn K R).isSome=true):Looks M h (isType (.ref R)) true:=by
 unfold clsIn at c
 split at c
 . rename_i ho
   intro A' Q' E' s' k q
   unfold isType loadHead
   exact wpAny_bind (wpAny_loadPart (k _ _ (X _ _ ho)) (wpAny_pure q))
 . cases c
theorem U5p{K:Frag}{M:Model}{A:Around}{E:Value ->Shared ->Prop}{s:Shared}{a R:Addr}{C:Value}{oa:Obj}{b:Bool}{Q:Bool ->Shared ->Prop}(X:K.In s.heap)(ha:s.heap.get? a=some oa)(hc:oa.cls=C)(c:Clause K R)
   (m:subIn K C (.ref R)=some b) (h:Q b s):wpAny M A (excMatches (.ref a) (.ref R)) Q E s:=by
 obtain⟨hp,g,d,tk,os⟩:=s
 have L1:Looks M hp (typeOf (.ref R)) (.type "type"):=looks_typeIn X c.ty
 have L2:Looks M hp (isSubtype (.ref R) (.type "BaseException")) true:=looks_subIn X c.ex
 have L3:Looks M hp (isSubtype C (.ref R)) b:=looks_subIn X m
 have L4:Looks M hp (typeOf (.ref a)) C:=hc▸(Looks.ld ha).andThen .now
 have L5:Looks M hp (isType (.ref R)) true:=A7a X c.cl
 unfold excMatches
 unfold isInstance
 refine wpAny_bind (wpAny_bind (L1.at ?_))
 rw[tc_notTuple]
 refine wpAny_pure ?_
 simp only[Bool.false_eq_true,if_false]
 refine wpAny_bind (wpAny_pure ?_)
 simp only[List.forIn_cons,List.forIn_nil]
 unfold isExcClass
 refine wpAny_bind (wpAny_bind (wpAny_bind (wpAny_bind (L5.at ?_))))
 simp only[if_true]
 refine L2.at ?_
 simp only[Bool.not_true,Bool.false_eq_true,if_false]
 refine wpAny_pure (wpAny_pure ?_)
 refine wpAny_bind (L4.at ?_)
 refine wpAny_bind (wpAny_bind (wpAny_bind (L3.at ?_)))
 cases b with
 |true=>simp only[if_true];exact wpAny_pure (wpAny_pure (wpAny_pure h))
 |false=>simp only[Bool.false_eq_true,if_false];exact wpAny_pure (wpAny_pure (wpAny_pure h))
noncomputable def tTry (K:Frag) (R:Addr) (i:Nat) (tb:EK ->TS) (ts:Addr ->TS):TS:=fun D σ H=>
 tb (fun C dd σ' H'=>subIn K C (.ref R)=some true/\∀(a t T:Addr),H' a=none ->
   ts a {nx:=fun σ2 H2=>D.nx (σ2.set i none) H2,rt:=D.rt,bk:=fun σ2 H2=>D.bk (σ2.set i none) H2,ct:=fun σ2 H2=>D.ct (σ2.set i none) H2}
     (σ'.set i (some (.ref a))) (upd H' a (.frz (A0p C t dd (.ref T)) (.own a)))) D σ H
section
variable{X:Cx}{x n:Str}{np hpos pos:Pos}{R:Addr}{i:Nat}{body suite:List Stmt}{b₀:Stmt}{tb:EK ->TS}{ts:Addr ->TS}
theorem Z5d(B:Body X)(hg:Gl X x)(hm:X.mg x=some (.ref R))(c:Clause X.K R)(hN:X.N.Nodup)(hi:X.N[i]?=some n)(hk:X.env.scope.names.lookup n=some .local)
   (hb:∀pins Ew EHb,G5 (X.hold pins Ew) EHb ->PSs (X.hold pins Ew) body (tb EHb)) (hs:∀pins a,PSs (X.hnd pins a) (b₀::suite) (ts a))
   (hdb:(x==("__debug__":Str))=false:=by decide) (hf:X.fn n=true\/X.env.scope.names.lookup n=some .local:=by first|exact .inl rfl|exact .inr rfl|assumption):
   PS X (.Try body [.ExceptHandler (some (.Name x np)) (some n) (b₀::suite) hpos] [] [] pos) (tTry X.K R i tb ts):=by
 intro pins s σ H D I h
 refine wpAny_Try_except ?_
 refine wpAny_mono (hb pins _ _ ?cat [] s σ H D I.hold h) (fun f s1 hf1=>?_) (fun e s1 he=>he)
 case cat=>
   intro pins' σ' H' s' a t C dd I' F' hE
   obtain⟨hsub,hE⟩:=hE
   show wpAny (model X.prog X.w) X.A (noteFrame (.ref a) X.env) _ X.xe s'
   have J:=I'.unhold
   have F:=F'.unhold
   refine G6g B J F fun s2 J2 F2=>C4q J2 F2 fun s3 J3 F3=>?_
   obtain⟨na,T,oT,ts',e3,ne3,nT3,eT3,dT3,h33⟩:=id F3
   refine wpAny_handleBy_cons (codeAny_handlers_test ?_) (by intro z;cases z)
   have K3:Inv (X.hnd pins a) [] σ' H' s3:=J3.hnd
   refine A1t K3 hg hm ?_ hdb
   refine U5p J3.kIn e3 rfl c hsub ?_
   show codeAny _ _ _ _ _
   refine codeAny_handlers_suite_as ?_
   refine C4q J3 F3 fun s4 J4 F4=>?_
   obtain⟨na4,T4,oT4,ts4,e4,_⟩:=id F4
   have J5:=J4.track na4 e4
   refine A9u (v:= .ref a) J5 hN hi (.inl hk) rfl (fun s5 J6=>?_) hf
   refine wpAny_mono (hs pins a [] s5 _ _ _ J6.hnd (hE a t T4 na4.un)) (fun f s6 hf6=>?_) (fun _ _ z=>z.elim)
   have fin:∀{σ6:St} {H6:Hp} {Q6:Unit ->Shared ->Prop},Inv (X.hnd pins a) [] σ6 H6 s6 ->(∀s7,Inv X pins (σ6.set i none) H6 s7 ->Q6 () s7) ->
       wpAny (model X.prog X.w) X.A (do bindName X.env n .none;unbindBehindTheSuite X.env n hpos) Q6 X.xe s6:=by
     intro σ6 H6 Q6 K6 k6
     have L6:=K6.unhnd J6.ok
     refine wpAny_bind (wpAny_bindName (A9u (v:= .non) L6 hN hi (.inl hk) rfl (fun s7 J7=>?_) hf))
     unfold unbindBehindTheSuite
     have hlen:i<σ6.length:=by rw[L6.len];exact(List.getElem?_eq_some_iff.mp hi).1
     refine wpAny_onRaise (U4g J7 hN hi hk (List.getElem?_set_self hlen) fun s8 J8=>k6 s8 ?_)
     rw[List.set_set] at J8
     exact J8
   cases f with
   |next=>obtain⟨σ6,H6,K6,q⟩:=hf6;exact fin K6 fun s7 J7=>⟨_,_,J7,q⟩
   |brk=>obtain⟨σ6,H6,K6,q⟩:=hf6;exact fin K6 fun s7 J7=>⟨_,_,J7,q⟩
   |cont=>obtain⟨σ6,H6,K6,q⟩:=hf6;exact fin K6 fun s7 J7=>⟨_,_,J7,q⟩
   |ret u=>obtain⟨v,σ6,H6,K6,r,q⟩:=hf6;exact fin K6 fun s7 J7=>⟨v,_,_,J7,r,q⟩
 . cases f with
   |next=>exact wpAny_execs_nil (SP.unhold hf1)
   |brk=>exact SP.unhold hf1
   |cont=>exact SP.unhold hf1
   |ret u=>exact SP.unhold hf1
end
structure ExcK(K:Frag)(C:Addr):Prop where
 ga:findIn K (.ref C) "__getattribute__"=some (some (.builtin "BaseException.__getattribute__"))
 gh:findIn K (.ref C) "__getattr__"=some none
 ca:findIn K (.ref C) "__class__"=some (some (.builtin "object.__class__"))
 sn:specialIn K (.builtin "object.__class__") "__get__"=some (some (.builtin "getset_descriptor.__get__"))
 tk:takesIn K (.builtin "object.__class__")=some true
 ob:mroIn K C (.type "object")=some true
 be:subIn K (.ref C) (.type "BaseException")=some true
 cl:(clsIn K C).isSome=true
theorem A9z{prog:Program}{w:World}{A:Around}{E:Value ->Shared ->Prop}{s:Shared}{K:Frag}{a C:Addr}{oa:Obj}{od:Option Obj}{Q:Option Value ->Shared ->Prop}(F:ExcK K C)(X:K.In s.heap)(I:PySem.W.InstAt s.heap a oa C od)
   (h:Q (some (.ref C)) {s with toks:=s.toks+1}):wpAny (model prog w) A (getAttr? (.ref a) "__class__") Q E s:=by
 obtain⟨hp,g,d,t,os⟩:=s
 have L0:=I.type (M:=model prog w)
 have L1:=looks_findIn (M:=model prog w) X F.ga
 have L2:=looks_findIn (M:=model prog w) X F.gh
 have L3:Looks (model prog w) hp (isInstance (.ref a) (.type "BaseException")) true:=L0.andThen (looks_subIn X F.be)
 have hf:findObj K C od "__class__"=some (.bind (.builtin "getset_descriptor.__get__") (.builtin "object.__class__")):=by
   obtain⟨cd,hc⟩:=Option.isSome_iff_exists.mp F.cl
   unfold findObj
   rw[hc,Option.bind_some,F.ca,Option.bind_some]
   simp[F.sn,F.tk]
 have L4:=looks_find (M:=model prog w) X I hf
 have hk:builtinKind "BaseException.__getattribute__"=some .slot:=by decide+kernel
 have hsplit:splitId "BaseException.__getattribute__"=some ("BaseException","__getattribute__"):=by decide+kernel
 have hargs:=PySem.F.args_bexc_ga (.ref a) (.str "__class__" t)
 have hb:=PySem.F.attr_ValueError.ga.bind (.ref a)
 unfold getAttr? getAttrBy? getAttrBy
 refine wpAny_bind (wpAny_mkText (wpAny_bind (wpAny_attempt (wpAny_holding (wpAny_bind (L0.at (wpAny_bind (L1.at ?_))))))))
 dsimp only
 rw[if_neg (show¬((onTheHeap (Value.ref C)&&Value.builtin "BaseException.__getattribute__"==Value.builtin "object.__getattribute__")=true) by
   rw[show(Value.builtin "BaseException.__getattribute__"==Value.builtin "object.__getattribute__")=false by decide+kernel,Bool.and_false];exact Bool.false_ne_true)]
 unfold getAttrByItsOwn
 refine wpAny_bind (m:=hookBefore (.ref C)) (L2.at ?_)
 refine wpAny_bind (wpAny_attempt (wpAny_holding ?_))
 unfold callGetattribute
 rw[if_neg (by decide)]
 unfold boundAndCalled
 rw[hb]
 refine wpAny_bind (wpAny_pure ?_)
 refine wpAny_call (codeAny_call_builtin PySem.F.attr_ValueError.ga.plain PySem.F.entry_bexc_ga ?_)
 have chk:∀{A':Around} {Q':Unit ->Shared ->Prop} {E':Value ->Shared ->Prop},Q' () ⟨hp,g,d,t+1,os⟩ ->wpAny (model prog w) A' (checkBuiltinCall "BaseException.__getattribute__" ⟨[.ref a,.str "__class__" t],[]⟩) Q' E' ⟨hp,g,d,t+1,os⟩:=by
   intro A' Q' E' hq
   simp only[checkBuiltinCall,hk,hsplit]
   refine wpAny_bind ?_
   refine L3.at ?_
   repeat (first|assumption|wp_step)
 refine chk ?_
 show wpAny _ _ (Builtin.«object.__getattribute__» ⟨[.ref a, .str "__class__" t], []⟩) _ _ _
 unfold Builtin.«object.__getattribute__»
 refine wpAny_bind (wpAny_pure ?_)
 refine wpAny_bind (wpAny_pure ?_)
 refine wpAny_bind (L0.at (wpAny_bind (L4.at ?_)))
 dsimp only
 show wpAny _ _ (holding [Value.builtin "object.__class__"] (call (.builtin "getset_descriptor.__get__") [.builtin "object.__class__",.ref a,.ref C])>>=ret) _ _ _
 refine wpAny_bind (wpAny_holding (wpAny_call (class_get (s:=⟨hp,g,d,t+1,os⟩) X I F.ob (wpAny_pure ?_))))
 exact handed_on rfl (wpAny_pure h)
noncomputable def A0q (X:Cx):Prop:=X.A.handled=none\/∃x o u vs,X.A.handled=some (.ref x)/\X.H₀ x=some (.frz o u)/\o.data= .fields vs/\vs[2]?=some .none
section
variable{X:Cx}{pins:List (Addr×Obj)}{σ:St}{H:Hp}{s:Shared}
theorem Inv.hdA(I:Inv X pins σ H s)(h:A0q X):Hd X.A s.heap:=by
 rcases h with z|⟨x,o,u,vs,z,e,d,n⟩
 . exact .inl z
 . exact .inr ⟨x,o,vs,z,(I.hok x _ (I.base.frzs x o u e)).1,d,n⟩
theorem Inv.hdB{it:Addr}(I:Inv X pins σ H s)(h:A0q X)(hn:H it=none):∀h':Heap,Heap.ExtBut it s.heap h' ->Hd X.A h':=by
 intro h' k
 rcases h with z|⟨x,o,u,vs,z,e,d,n⟩
 . exact .inl z
 . have q:=I.base.frzs x o u e
   exact .inr ⟨x,o,vs,z,k x o (fun w=>by rw[w,hn] at q;cases q) (I.hok x _ q).1,d,n⟩
end
structure TurnH(P:Program)(w:World)(K:Frag)(tg:Expr)(J:It)(it:Addr)(tn:Nat ->Heap ->Prop):Prop where
 obj:∀i h,tn i h ->∃o,h.get? it=some o/\∀v,o.data≠ .cell v
 keep:∀i h h',tn i h ->(∀o,h.get? it=some o ->h'.get? it=some o) ->tn i h'
 item:∀(X:Cx),X.prog=P ->X.w=w ->X.K=K ->A0q X ->∀(i:Nat) (pins:List (Addr×Obj)) (s:Shared) (σ:St) (H:Hp) (E:Value ->Shared ->Prop),Inv X pins σ H s ->A4g X pins H it ->tn i s.heap ->J.go i H ->
   wpAny (model P w) X.A (pyNext (.ref it)) (fun r s1=>∃u,r=some u/\
     wpAny (model P w) X.A (letOwnedTupleGo tg (.ref it) u) (fun _ s2=>∃x,Inv X pins σ H s2/\RelV x u/\J.yld i H x H/\tn (i+1) s2.heap) E s1) E s
 done:∀(X:Cx),X.prog=P ->X.w=w ->X.K=K ->A0q X ->∀(i:Nat) (pins:List (Addr×Obj)) (s:Shared) (σ:St) (H:Hp) (E:Value ->Shared ->Prop),Inv X pins σ H s ->A4g X pins H it ->tn i s.heap ->J.stop i H ->
   wpAny (model P w) X.A (pyNext (.ref it)) (fun r s1=>r=none/\Inv X pins σ H s1) E s
 self:∀(A:Around) (i:Nat) (s:Shared) (Q:Value ->Shared ->Prop) (E:Value ->Shared ->Prop),tn i s.heap ->Q (.ref it) s ->wpAny (model P w) A (pyIter (.ref it)) Q E s
theorem G9w{P:Program}{w:World}{K:Frag}{tg:Expr}(a it:Addr):TurnH P w K tg (Itl K a) it (fun i h=>h.IsListIter it a i) where
 obj:=fun i h ⟨o,e,c,d⟩=>⟨o,e,fun v z=>by rw[d] at z;cases z⟩
 keep:=fun i h h' st k=>st.at fun o e=>k o e
 item:=by
   intro X hP hw hK hc i pins s σ H E I hf st hg
   subst hP hw hK
   obtain⟨xs,x,hq,hx⟩:=hg
   obtain⟨its,rv,p,hz⟩:=I.list hq
   obtain⟨u,hu,ru⟩:=rv.get hx
   obtain⟨f0,f1,f2,f3,f4,f5⟩:=hf
   refine wpAny_pyNext_list_item st p.isList (x:=u) (by simpa using hu) fun h' st' sb=>?_
   have I1:Inv X pins σ H {s with heap:=h'}:=I.turned (t':=s.toks) (fun b o hb e=>(sb.2 b hb).trans e) f0 f1 f3 f4 f5
   obtain⟨o,e,c,d⟩:=id st'
   exact⟨u,rfl,U2c (s:={s with heap:=h'}) e c d (by decide) ⟨x,I1,ru,⟨rfl,fun ys hy=>by rw[I.list_inj hy hq];exact hx⟩,st'⟩⟩
 done:=by
   intro X hP hw hK hc i pins s σ H E I hf st hg
   subst hP hw hK
   obtain⟨xs,hq,hx⟩:=hg
   obtain⟨its,rv,p,hz⟩:=I.list hq
   obtain⟨f0,f1,f2,f3,f4,f5⟩:=hf
   have hl:=rv.length
   exact B7r (I.hdB hc f0) st p.isList (by simp;omega) fun h' eb=>⟨rfl,I.turned (t':=s.toks) (fun b o hb e=>eb b o hb e) f0 f1 f3 f4 f5⟩
 self:=fun _ _ _ _ _ st h=>wpAny_pyIter_listiter st h
noncomputable def PIH (X:Cx) (tg iter:Expr) (wi:TI):Prop:=
 ∀ (pins:List (Addr×Obj)) (s:Shared) (σ:St) (H:Hp) (R:It ->Hp ->Prop),Inv X pins σ H s ->wi σ H R ->
   wpAny (model X.prog X.w) X.A (eval iter X.env) (fun v s1=>wpAny (model X.prog X.w) X.A (pyIter v) (fun itv s2=>∃(it:Addr) (tn:Nat ->Heap ->Prop) (J:It) (H':Hp),itv= .ref it/\Inv X pins σ H' s2/\TurnH X.prog X.w X.K tg J it tn/\tn 0 s2.heap/\
     A4g X pins H' it/\R J H') X.xe s1) X.xe s
section
variable{X:Cx}{tg:Expr}
theorem V2p{l:Expr}{tl:TE}(hl:PE X l tl):PIH X tg l (V1s X.K tl):=by
 intro pins s σ H R I h
 refine thn (hl pins s σ H _ I h) fun v s1 hh_=>?_
 obtain⟨x,H1,I1,r1,q1⟩:=hh_
 obtain⟨a,e,⟨xs,hq⟩,q⟩:=q1
 subst e
 cases r1
 obtain⟨its,rv,p,hz⟩:=I1.list hq
 exact wpAny_pyIter_list p.isList ⟨s1.heap.objs.size,_,_,H1,rfl,I1.kept (t':=s1.toks) fun b o e=>Heap.get?_push_of_some _ e,G9w a _,⟨_,Heap.get?_push_size _ rfl,rfl,rfl⟩,I1.fpOk (Nat.le_refl _) (I1.hok.fresh (Nat.le_refl _)),q⟩
theorem Y9e{es:List Expr}{k:Nat}{t:TGs}{n:Nat}{pos:Pos}(hc:A0q X)(h:PGs X es t)(hn:(assignEach es X.env).length=n:=by rfl)(hst:(assignEach es X.env).findIdx? (·.1)=none:=by rfl):PG X (.Tuple es k pos) (Z5c X.K n t):=by
 intro pins s σ H v u Q I r q
 obtain⟨a,xs,ev,hq,hl,q⟩:=q
 subst ev
 cases r
 obtain⟨its,rv,p,hz⟩:=I.tuple hq
 rw[assign_Tuple]
 refine wpAny_bind (wpAny_standAt (U5r (I.hdA hc) p (by rw[hn, <-hl,rv.length];simp) hst fun h' hx=>?_))
 have I1:Inv X pins σ H {s with heap:=h'}:=I.kept (t':=s.toks) fun b o e=>hx b o (Nat.ne_of_lt (Heap.lt_size e)) e
 exact thn (h pins _ σ H xs its Q I1 rv q) fun _ s' z=>z
theorem Y8n{K:Frag}{es:List Expr}{k:Nat}{t:TGs}{n:Nat}{pos:Pos}(hK:X.K=K)(hc:A0q X)(h:PGs X es t)(hn:(assignEach es X.env).length=n:=by rfl)(hst:(assignEach es X.env).findIdx? (·.1)=none:=by rfl):PG X (.Tuple es k pos) (Z5c K n t):=by
 subst hK
 exact Y9e hc h hn hst
end
theorem V0d{prog:Program}{w:World}{A:Around}{s:Shared}{elt target iter:Expr}{scope:Scope}{pos:Pos}{it acc:Value}{env:Env}{R:Result ->Shared ->Prop}(I:Nat ->Shared ->Prop)
   (turn :∀n s,I n s ->wpAny (model prog w) A (pyNext it) (fun r s₁=>match r with
     |none=>R (.ok .next) s₁
     |some v=>wpAny (model prog w) A (letOwnedTupleGo target it v) (fun _ s₀=>wpAny (model prog w) A (assign target env v) (fun _ s₂=>wpAny (model prog w) A (eval elt env) (fun x s₄=>
         wpAny (model prog w) A (call (.builtin "list.append") [acc,x]) (fun _ s₅=>∃m,m<n/\I m s₅) (notedBy (model prog w) A env fun e s'=>R (.error e) s') s₄) (notedBy (model prog w) A env fun e s'=>R (.error e) s') s₂)
         (notedBy (model prog w) A env fun e s'=>R (.error e) s') s₀) (notedBy (model prog w) A env fun e s'=>R (.error e) s') s₁) (notedBy (model prog w) A env fun e s'=>R (.error e) s') s)
   (n:Nat) (h:I n s):codeAny (model prog w) A (.compLoop (.ListComp elt [⟨target,iter,[],0⟩] scope pos) 0 it acc env) R s:=by
 refine codeAny_loop rfl I (fun n s hI=>?_) n h
 show wpAny _ A ((compTurn (.ListComp elt [⟨target,iter,[],0⟩] scope pos) 0 it acc env).onRaise (fun x=>do noteFrame x env;theTreesLotGoes x)) _ _ s
 refine wpAny_noted ?_;rw[compTurn_list1]
 refine wpAny_bind (wpAny_standAt (wpAny_bind (wpAny_mono (turn n s hI) (fun r s₁ h₁=>?_) fun _ _ z=>z)))
 cases r with
 |none=>exact wpAny_pure h₁
 | some v=>
   refine wpAny_bind (wpAny_mono h₁ (fun _ s₀ q₀=>?_) fun _ _ z=>z)
   refine wpAny_bind (wpAny_mono q₀ (fun _ s₂ q₂=>?_) fun _ _ z=>z)
   exact wpAny_bind (wpAny_bind (wpAny_mono q₂ (fun x s₄ q₄=>wpAny_bind (wpAny_mono q₄ (fun _ s₅ q₅=>wpAny_pure (wpAny_pure ⟨rfl,q₅⟩)) fun _ _ z=>z)) fun _ _ z=>z))
section
variable{X:Cx}
theorem V3e{pins:List (Addr×Obj)}{σ:St}{H:Hp}{s:Shared}{C:Addr}{h':Heap}(I:Inv X pins σ H s)(f:A4g X pins H C)(sb:Heap.SameBut C s.heap h'):Inv X pins σ H {s with heap:=h'}:=
 I.turned (t':=s.toks) (fun b o hb e=>(sb.2 b hb).trans e) f.1 f.2.1 f.2.2.2.1 f.2.2.2.2.1 f.2.2.2.2.2
end
section
variable{X:Cx}{a b c:Expr}{ta tb tc:TE}{pos:Pos}
theorem V0:OpR X (binaryOp .Mult) (rI IntMulOk fun i j=> .int (i*j)):=opI fun _ _ _ _ _ _ _ hc q=>mul_int q hc
theorem U6:OpR X (binaryOp .FloorDiv) (rI (fun _ j=>0<j/\j.natAbs.log2<9000) fun i j=> .int (i/j)):=opI fun i j _ _ _ _ _ hc q=>by
 have h1:(0:Int)<j:=hc.1
 exact floordiv_int (by omega) (by rw[Int.fdiv_eq_ediv_of_nonneg i (by omega)];exact q) (.inl (PyProof.noPylong_of_log2 hc.2))
theorem B5e{i:Int}{k:Nat}(h:i.natAbs<2^k)(hk:0<k):i.natAbs.log2<k:=by
 by_cases z:i.natAbs=0
 . rw[z];simpa using hk
 . exact(Nat.log2_lt z).mpr h
inductive TyE(K:Frag)(H:Hp):V ->Value ->Prop where
 |of {x:V} {t:Value} (h:TyOf K H x t):TyE K H x t
 |exc {a C t:Addr} {T:Value} {u:HO} (e:H a=some (.frz (A0p (.ref C) t none T) u)) (k:ExcK K C):TyE K H (.ref a) (.ref C)
 |excD {a C t:Addr} {T:Value} {d:Addr} {u:HO} {fs:List (Str×V)} (e:H a=some (.frz (A0p (.ref C) t (some d) T) u)) (hd:H d=some (.xd fs)) (k:ExcK K C):TyE K H (.ref a) (.ref C)
 |tupK {a:Addr} {o:Obj} (l:K.lookup a=some o) (c:o.cls= .type "tuple"):TyE K H (.ref a) (.type "tuple")
theorem J0b{pins:List (Addr×Obj)}{σ:St}{H:Hp}{s:Shared}{A:Around}{E:Value ->Shared ->Prop}{Q:Value ->Shared ->Prop}{c:Value}{b:Bool}{x:V}{u t:Value}(I:Inv X pins σ H s)(rx:RelV x u)(ty:TyE X.K H x t)
   (e:kitOne X.K t c=some b) (h:∀tk,Q (.bool b) {s with toks:=tk}):wpAny (model X.prog X.w) A (call (.builtin "isinstance") [u,c]) Q E s:=by
 cases ty with
 |of h'=>exact U4n I rx h' e h
 | exc ea k=>
   cases rx
   rename_i a C t0 T u0
   have o1:s.heap.get? a=some (A0p (.ref C) t0 none T):=(I.hok a _ ea).1
   refine kia_one (H:=fun h=>PySem.W.InstAt h a (A0p (.ref C) t0 none T) C none) ?_ I.kIn ⟨o1,rfl,rfl,trivial⟩ e (fun z=>nomatch z) h
   refine⟨fun M h _ J=>J.type,fun M h K _=>A7a K k.cl,fun h tp dd its n sl K htp=>?_,fun K J q=>A9z k K J q⟩
   refine Bool.eq_false_iff.mpr fun q=>?_
   have e:C=tp:=Value.ref.inj (beq_iff_eq.mp q)
   subst e
   have z:=k.cl
   unfold clsIn at z
   split at z
   . rename_i ho
     have y:=(K _ _ ho).symm.trans htp
     cases y
   . cases z
 | tupK l c=>
   cases rx
   exact PySem.W.kia_one PySem.W.kitx_tuple I.kIn ⟨_,I.kIn _ _ l,c⟩ e (fun z=>nomatch z) h
 | excD ea hd k=>
   cases rx
   rename_i a C t0 T d u0 fs
   have o1:s.heap.get? a=some (A0p (.ref C) t0 (some d) T):=(I.hok a _ ea).1
   obtain⟨mA,nA,_⟩:=(show∃mA,s.heap.Ns1 d mA/\∀f,RelO (fs.lookup f) (mA f) from I.hok d _ hd)
   obtain⟨od,o2,_⟩:=D2f nA
   refine kia_one (H:=fun h=>PySem.W.InstAt h a (A0p (.ref C) t0 (some d) T) C (some od)) ?_ I.kIn ⟨o1,rfl,rfl,o2⟩ e (fun z=>nomatch z) h
   refine⟨fun M h _ J=>J.type,fun M h K _=>A7a K k.cl,fun h tp dd its n sl K htp=>?_,fun K J q=>A9z k K J q⟩
   refine Bool.eq_false_iff.mpr fun q=>?_
   have e:C=tp:=Value.ref.inj (beq_iff_eq.mp q)
   subst e
   have z:=k.cl
   unfold clsIn at z
   split at z
   . rename_i ho
     have y:=(K _ _ ho).symm.trans htp
     cases y
   . cases z
noncomputable def Y8h:V ->Option Value
 | .ty n=>some (.type n)
 | .ref a=>some (.ref a)
 |_=>none
theorem G6a:A2x X (.builtin "isinstance") (fun xs H Q=>∃x c cv t b,xs=[x,c]/\Y8h c=some cv/\TyE X.K H x t/\kitOne X.K t cv=some b/\Q (.bl b) H):=by
 intro pins s σ H xs us Q I r h
 obtain⟨x,c,cv,t,b,rfl,hc,ty,e,q⟩:=h
 obtain⟨u,v,rfl,ru,rv⟩:=Vals.two r
 have:v=cv:=by
   cases c<;>simp only[Y8h] at hc<;>first|(cases hc;exact rv)|cases hc
 subst this
 exact J0b I ru ty e fun tk=>⟨.bl b,H,I.tok tk,rfl,q⟩
mutual
inductive RdD(K:Frag)(H:Hp):V ->PyData ->Prop where
 |non:RdD K H .non .none
 |bl (b:Bool):RdD K H (.bl b) (.bool b)
 |int (i:Int):RdD K H (.int i) (.int i)
 |str (x:Str):RdD K H (.str x) (.str x)
 |tup {a:Addr} {xs:List V} {ds:List PyData} (h:SqT K H a xs) (r:RdDs K H xs ds):RdD K H (.ref a) (.tuple ds)
 |lst {a:Addr} {xs:List V} {ds:List PyData} (h:SqL K H a xs) (r:RdDs K H xs ds):RdD K H (.ref a) (.list ds)
inductive RdDs(K:Frag)(H:Hp):List V ->List PyData ->Prop where
 |nil:RdDs K H [] []
 |cons {x:V} {xs:List V} {d:PyData} {ds:List PyData} (h:RdD K H x d) (r:RdDs K H xs ds):RdDs K H (x::xs) (d::ds)
end
mutual
theorem RdD.reads{pins:List (Addr×Obj)}{σ:St}{H:Hp}{s:Shared}(I:Inv X pins σ H s):∀{x:V} {d:PyData} {u:Value},RdD X.K H x d ->RelV x u ->∃as,Reads s.heap u d as
 |_,_,_,.non,r=>by cases r;exact⟨_,.none⟩
 |_,_,_,.bl b,r=>by cases r;exact⟨_,.bool b⟩
 |_,_,_,.int i,r=>by obtain⟨t,rfl⟩:=r;exact⟨_,.int i t⟩
 |_,_,_,.str x,r=>by obtain⟨t,rfl⟩:=r;exact⟨_,.str x t⟩
 | _,_,_,.tup h q,r=>by
   cases r
   obtain⟨its,rv,⟨o,e,c,n,d⟩,_⟩:=I.tuple h
   obtain⟨as,z⟩:=RdDs.reads I q rv
   exact⟨_,reads_tuple_at e c d (by simpa using z)⟩
 | _,_,_,.lst h q,r=>by
   cases r
   obtain⟨its,rv,p,_⟩:=I.list h
   obtain⟨o,e,c,n,d⟩:=p.isList
   obtain⟨as,z⟩:=RdDs.reads I q rv
   exact⟨_,reads_list_at e c d (by simpa using z)⟩
theorem RdDs.reads{pins:List (Addr×Obj)}{σ:St}{H:Hp}{s:Shared}(I:Inv X pins σ H s):∀{xs:List V} {ds:List PyData} {us:List Value},RdDs X.K H xs ds ->Vals xs us ->∃as,ReadsAll s.heap us ds as
 |_,_,_,.nil,r=>by cases r;exact⟨_,.nil⟩
 | _,_,_,.cons h q,r=>by
   cases r with
   | cons r1 r2=>
     obtain⟨as,z⟩:=RdD.reads I h r1
     obtain⟨bs,y⟩:=RdDs.reads I q r2
     exact⟨_,.cons z y⟩
end
noncomputable def rEqD (K:Frag) (n:Bool):R2:=fun x y H Q=>∃d e,RdD K H x d/\RdD K H y e/\SeqAt.shaped d=true/\SeqAt.shaped e=true/\Q (.bl (if n then !PyData.eqv d e else PyData.eqv d e)) H
theorem B7q(hu:X.A.units+64<cLine):OpR X (compareOp .Eq) (rEqD X.K false):=by
 intro pins s σ H x y v u Q I rx ry q
 obtain⟨d,e,hx,hy,sd,se,q⟩:=q
 obtain⟨as,z⟩:=hx.reads I rx
 obtain⟨bs,z'⟩:=hy.reads I ry
 exact eq_dataH z z' sd se hu ⟨.bl (PyData.eqv d e),H,I,rfl,q⟩
theorem V0z(hu:X.A.units+64<cLine):OpR X (compareOp .NotEq) (rEqD X.K true):=by
 intro pins s σ H x y v u Q I rx ry q
 obtain⟨d,e,hx,hy,sd,se,q⟩:=q
 obtain⟨as,z⟩:=hx.reads I rx
 obtain⟨bs,z'⟩:=hy.reads I ry
 exact ne_dataH z z' sd se hu ⟨.bl (!PyData.eqv d e),H,I,rfl,q⟩
theorem V2h(hc:X.A.handled=none):A2x X (.builtin "any") (fun xs H Q=>∃(l:Addr) (bs:List Bool),xs=[.ref l]/\SqL X.K H l (bs.map V.bl)/\Q (.bl (bs.any id)) H):=by
 intro pins s σ H xs us Q I r h
 obtain⟨l,bs,rfl,hl,q⟩:=h
 obtain⟨u,rfl,ru⟩:=Vals.one r
 cases ru
 obtain⟨its,rv,p,hz⟩:=I.list hl
 obtain⟨o,e,_⟩:=id p.isList
 have hlt:l<s.heap.objs.size:=Heap.lt_size e
 have hlen:its.length=bs.length:=by rw[<-rv.length,List.length_map]
 refine call_any_walk (wpAny_pyIter_list p.isList ?_)
 refine⟨s.heap.objs.size,[s.heap.objs.size,l],[s.heap.objs.size],its.toArray.size,_,_,fun i=>(bs[i]?).getD false,rfl,Walks.list (A:=X.A.in1) hc _ l (Nat.ne_of_lt hlt) its.toArray,⟨⟨_,Heap.get?_push_size _ rfl,rfl,rfl⟩,p.isList.push _⟩,fun i v s' Q' E' hP hQ=>?_,fun h' tk hk=>?_⟩
 . have hP:its[i]?=some v:=by simpa using hP
   have hi:i<bs.length:=by rw[<-hlen];exact(List.getElem?_eq_some_iff.mp hP).1
   obtain⟨u',hu',ru'⟩:=rv.get (i:=i) (x:=V.bl bs[i]) (by simp[hi])
   rw[hP] at hu'
   cases hu'
   cases ru'
   have z:(bs[i]?).getD false=bs[i]:=by simp[hi]
   dsimp only at hQ
   rw[z] at hQ
   exact wpAny_truthy_bool hQ
 . have z:((List.range its.toArray.size).any fun i=>(bs[i]?).getD false)=bs.any id:=by
     rw[List.size_toArray,hlen]
     exact LSm.range_any bs
   rw[z]
   exact⟨.bl (bs.any id),H,I.kept fun b x e=>hk b x (fun hm=>by rw[List.mem_singleton.mp hm] at e;exact Nat.lt_irrefl _ (Heap.lt_size e)) (Heap.get?_push_of_some _ e),rfl,q⟩
inductive FPart(X:Cx):Expr ->TE ->Prop where
 |lit {x:Str} {j:Nat} {pos:Pos}:FPart X (.Constant (.str x) j pos) (tC (.str x))
 |int {v:Expr} {tv:TE} {pos:Pos} (h:PE X v tv):FPart X (.FormattedValue v (-1) none pos) (fun σ H Q=>tv σ H fun y H1=>∃i,y= .int i/\i.natAbs.log2<1920/\Q (.str (toString i)) H1)
theorem FPart.pe{e:Expr}{t:TE}(h:FPart X e t):PE X e t:=by
 cases h with
 |lit=>exact C9
 | int h=>
   intro pins s σ H Q I q
   refine FormattedValue_plain (thn (h pins s σ H _ I q) fun u s1 hh_=>?_)
   obtain⟨y,H1,I1,r,i,e,l,q⟩:=hh_
   subst e
   obtain⟨t,rfl⟩:=r
   exact formatField_int_small l ⟨.str (toString i),H1,I1.tok _,⟨_,rfl⟩,q⟩
inductive FParts(X:Cx):List Expr ->(Str ->TE) ->Prop where
 |nil:FParts X [] (fun out _ H Q=>out.length<=sizeLine/\Q (.str out) H)
 |cons {e:Expr} {es:List Expr} {t:TE} {r:Str ->TE} (h:FPart X e t) (hr:FParts X es r):FParts X (e::es) (fun out σ H Q=>t σ H fun x H1=>∃y,x= .str y/\(out++y).length<=sizeLine/\r (out++y) σ H1 Q)
theorem FParts.run{es:List Expr}{t:Str ->TE}(h:FParts X es t):∀(out:Str) (pins:List (Addr×Obj)) (s:Shared) (σ:St) (H:Hp) (Q:VK),Inv X pins σ H s ->t out σ H Q ->
   wpAny (model X.prog X.w) X.A (joinParts out (evalEach es X.env)) (EP X pins σ Q) X.xe s:=by
 induction h with
 | nil=>
   intro out pins s σ H Q I q
   exact joinParts_nil ⟨.str out,H,I.tok _,⟨_,rfl⟩,q.2⟩ q.1
 | @cons e es t r h hr ih=>
   intro out pins s σ H Q I q
   show wpAny _ _ (joinParts out (eval e X.env::evalEach es X.env)) _ _ _
   refine joinParts_cons (thn (h.pe pins s σ H _ I q) fun u s1 hh_=>?_)
   obtain⟨x,H1,I1,rx,y,ey,z,q⟩:=hh_
   subst ey
   obtain⟨t',rfl⟩:=rx
   exact⟨z,ih _ pins s1 σ H1 Q I1 q⟩
theorem U1c{e1 e2:Expr}{es:List Expr}{t:Str ->TE}{pos:Pos}(h:FParts X (e1::e2::es) t):PE X (.JoinedStr (e1::e2::es) pos) (t Str.empty):=by
 intro pins s σ H Q I q
 exact JoinedStr_many (h.run _ pins s σ H Q I q)
end
section
variable{P:Program}{w:World}{K:Frag}{mg:Str ->Option Value}{base:Heap}
end
section
variable{X:Cx}{k:Nat}{f:Addr}{fd:FuncData}{ps:List Str}{sp:Sp}{x:Str}{p pos:Pos}{e:Expr}{es:List Expr}{t:TA}
end
theorem Inv.big{X:Cx}{pins:List (Addr×Obj)}{σ:St}{H:Hp}{s:Shared}(I:Inv X pins σ H s):sysModules<s.heap.objs.size:=by
 have h:mainGlobals<s.heap.objs.size:=(I.mod.glob.keeps I.bk).lt
 exact Nat.lt_trans (by decide) h
theorem V2x{P:Program}{w:World}{H:Hp}(h:Heap)(hb:sysModules<h.objs.size):ObjOk P w H (h.push {cls:= .type "dict",data:= .dict #[]}) h.objs.size (.dK []):=
 ⟨Nat.zero_le _,beq_eq_false_iff_ne.mpr (Ne.symm (Nat.ne_of_lt hb)),[],.nil,Heap.DictOf.new h⟩
noncomputable def Z4p:TE:=fun _ H Q=>∀p,H p=none ->Q (.ref p) (upd H p (.dK []))
theorem V1c{X:Cx}{pos:Pos}:PE X (.Dict [] [] pos) Z4p:=fun pins s σ H Q I h=>
 wpAny_Dict_empty ⟨.ref s.heap.objs.size,_,I.laid (a:=s.heap.objs.size) (o:= .dK []) (t':=s.toks) (fun _ _ q=>Heap.get?_push_of_some _ q) (Nat.le_refl _) (V2x s.heap I.big),rfl,h _ (I.hok.fresh (Nat.le_refl _))⟩
noncomputable abbrev EKF:EK:=fun _ _ _ _=>False
theorem Y9{X:Cx}:G5 X EKF:=fun _ _ _ _ _ _ _ _ _ _ h=>h.elim
structure Def(K:Frag)(mg:Str ->Option Value)(x:Str)(ps:List Str)(st:Stmt)(f:Addr)(fd:FuncData):Prop where
 F:Fun K x x st f fd
 g:mg x=some (.ref f)
 b:Binds K fd ps []
theorem D9{K:Frag}{h:Heap}{mg:Str ->Option Value}{x:Str}{ps:List Str}{st:Stmt}{f:Addr}{oc:Value}{od an:Option Addr}{osl:Array (Option Value)}{kV doc pm cdv ct:Value}(X:K.In h)(G:h.Ns mainGlobals mg)
   (a:nsIn K mainGlobals x=some (some (.ref f))) (l:K.lookup f=some ⟨oc,od,.func (fnOf x x (C0 st) (B9 st) (A3 st) .none kV doc pm an cdv ct),osl⟩) (c:codeIn K cdv x=true) (k:keepIn K (.ref f)=true)
   (hb:∀(kV doc pm:Value) (an:Option Addr) (cdv ct:Value) (us:List Value),us.length=ps.length ->bindArgs (fnOf x x (C0 st) (B9 st) (A3 st) .none kV doc pm an cdv ct) ⟨us,[]⟩=pure (ps.zip us)):
   Def K mg x ps st f (fnOf x x (C0 st) (B9 st) (A3 st) .none kV doc pm an cdv ct):=
 ⟨U5 (st:=st) l c k,mg_of X G a,(U5 (st:=st) l c k).binds hb⟩
theorem C3x{c A B:Prop} [Decidable c] (h:¬c) (b:B):if decide c=true then A else B:=by rw[decide_eq_false h];exact Y5 b
theorem C4e{c A B:Prop} [Decidable c] (h:c) (a:A):if decide c=true then A else B:=by rw[decide_eq_true h];exact Z1 a
theorem U9{c A B:Prop} [Decidable c] (a:c ->A) (b:¬c ->B):if decide c=true then A else B:=by
 by_cases h:c
 . exact C4e h (a h)
 . exact C3x h (b h)
noncomputable def A0af (t:TS):TS:=fun D σ H=>∃J:St ->Hp ->Prop,t {D with nx:=J} σ H/\∀σ' H',J σ' H' ->D.nx σ' H'
theorem D6{X:Cx}{st:Stmt}{t:TS}(h:PS X st t):PS X st (A0af t):=by
 intro pins s σ H D I q
 obtain⟨J,q,k⟩:=q
 refine thn (h pins s σ H _ I q) fun f s' z=>?_
 cases f with
 |next=>obtain⟨σ',H',I',y⟩:=z;exact⟨σ',H',I',k _ _ y⟩
 |brk=>exact z
 |cont=>exact z
 |ret u=>exact z
theorem ixs{xs:List Int}{i:Int}(h0:0<=i)(h1:i<xs.length):∃v,v∈xs/\atI (xs.map V.int) i=some (.int v):=by
 obtain⟨j,rfl⟩:=Int.eq_ofNat_of_zero_le h0
 have hj:j<xs.length:=by omega
 exact⟨xs[j],List.getElem_mem hj,G2 (by simp[hj])⟩
theorem ixv{xs:List V}{i:Int}(h0:0<=i)(h1:i<xs.length):∃v,v∈xs/\atI xs i=some v:=by
 obtain⟨j,rfl⟩:=Int.eq_ofNat_of_zero_le h0
 have hj:j<xs.length:=by omega
 exact⟨xs[j],List.getElem_mem hj,G2 (by simp[hj])⟩
theorem Same.upd{H:Hp}{p:Addr}{o:HO}(h:H p=none):Same H (L2.upd H p o):=fun b u e=>by rw[D4 (G6 e h)];exact e
theorem D8{n:Nat}(h:n<=1000):n<=sizeLine:=Nat.le_of_lt (A0h h)
section
variable{X:Cx}{k j:Nat}{f:Addr}{fd:FuncData}{ps:List Str}{sp:Sp}{EH:EK}{x:Str}{st:Stmt}{p pos:Pos}{e:Expr}{es:List Expr}{t:TA}
theorem C6(D:Def X.K X.mg x ps st f fd)(F:FnOk X.prog X.w X.K X.mg X.base (CX1 X.prog X.w) j f fd ps sp)(hr:Room k X.A)(hx:G5 X EH)(ha:PA X (e::es) t)(hj:j<=k:=by decide)(hg:Gl X x:=by rfl)(hex:X.ex=[]:=by rfl)(hdb:(x==("__debug__":Str))=false:=by decide)
   (he:starEach (e::es) X.env=(false,eval e X.env)::starEach es X.env:=by rfl) (hpl:(backTo pos (starEach es X.env)).any (·.1)=false:=by rfl):PE X (.Call (.Name x p) (e::es) [] pos) (D4y sp [] EH t):=
 U9r (F.mono hj) hr hg D.g D.F.kp D.b .nil hx ha hex hdb he hpl
theorem A5m(D:Def X.K X.mg x ps st f fd)(F:FnOk X.prog X.w X.K X.mg X.base (CX1 X.prog X.w) j f fd ps sp)(hr:Room k X.A)(hx:G5 X EH)(hj:j<=k:=by decide)(hg:Gl X x:=by rfl)(hex:X.ex=[]:=by rfl)(hdb:(x==("__debug__":Str))=false:=by decide):
   PE X (.Call (.Name x p) [] [] pos) (D4y sp [] EH U4d):=
 U4r (F.mono hj) hr hg D.g D.F.kp D.b .nil hx hex hdb
theorem pty{n:Str}{T:String}(hm:X.mg n=none)(hv:bootBuiltins n=some (.type T))(hg:Gl X n:=by rfl)(hn:n≠"__name__":=by decide)(hdb:(n==("__debug__":Str))=false:=by decide):PE X (.Name n pos) (tC (.ty T)):=Y8f hg hm hv rfl hn hdb
theorem G5t{n:Str}{C:Addr}(hm:X.mg n=some (.ref C))(hg:Gl X n:=by rfl)(hdb:(n==("__debug__":Str))=false:=by decide):PE X (.Name n pos) (tC (.ref C)):=Y7n hg hm rfl hdb
theorem J0m{a b:Expr}{ta tb:TE}(hm:X.mg "isinstance"=none)(ha:PE X a ta)(hb:PE X b tb)(hg:Gl X "isinstance":=by rfl)
   (h1:starEach [a,b] X.env=(false,eval a X.env)::starEach [b] X.env:=by rfl) (h2:starEach [b] X.env=(false,eval b X.env)::starEach [] X.env:=by rfl) (h3:(backTo pos (starEach [b] X.env)).any (·.1)=false:=by rfl):
   PE X (.Call (.Name "isinstance" p) [a,b] [] pos) (tCB (fun xs H Q=>∃x c cv t b,xs=[x,c]/\Y8h c=some cv/\TyE X.K H x t/\kitOne X.K t cv=some b/\Q (.bl b) H) (G6j ta (G6j tb U4d))):=
 J1 G6a hg hm boot_isinstance (A1 ha (A1 hb A5 h2) h1) (he:=h1) (hpl:=h3)
theorem D1u{K:Frag}{a b:Expr}{ta tb:TE}(hK:X.K=K)(hm:X.mg "isinstance"=none)(ha:PE X a ta)(hb:PE X b tb)(hg:Gl X "isinstance":=by rfl)
   (h1:starEach [a,b] X.env=(false,eval a X.env)::starEach [b] X.env:=by rfl) (h2:starEach [b] X.env=(false,eval b X.env)::starEach [] X.env:=by rfl) (h3:(backTo pos (starEach [b] X.env)).any (·.1)=false:=by rfl):
   PE X (.Call (.Name "isinstance" p) [a,b] [] pos) (tCB (fun xs H Q=>∃x c cv t b,xs=[x,c]/\Y8h c=some cv/\TyE K H x t/\kitOne K t cv=some b/\Q (.bl b) H) (G6j ta (G6j tb U4d))):=by
 subst hK
 exact J0m hm ha hb hg h1 h2 h3
end
section
variable{X:Cx}{k j:Nat}{f:Addr}{fd:FuncData}{ps:List Str}{sp:Sp}{x:Str}{st:Stmt}{p pos:Pos}{e:Expr}{es:List Expr}{t:TA}
end
structure Mk0(K:Frag)(C:Addr):Prop where
 makes:makesIn K C=true
 init:findIn K (.ref C) "__init__"=some (some (.builtin "object.__init__"))
 kp:keepIn K (.ref C)=true
section
variable{X:Cx}{k j:Nat}{f C:Addr}{fd:FuncData}{ps:List Str}{sp:Sp}{dvs:List V}{ds:List Value}{EH:EK}{x m:Str}{p pos apos:Pos}{e o:Expr}{es:List Expr}{ta:TE}{t:TA}
noncomputable def Z5s (C:Addr):TE:=fun _ H Q=>∀x dx,H x=none ->H dx=none ->dx≠x ->Q (.ref x) (upd (upd H dx (.own x)) x (.ins C dx []))
theorem Y9k{pins:List (Addr×Obj)}{σ:St}{H:Hp}{s:Shared}{Q:VK}(M:Mk0 X.K C)(I:Inv X pins σ H s)(h:Z5s C σ H Q):wpAny (model X.prog X.w) X.A (call (.ref C) []) (EP X pins σ Q) X.xe s:=by
 have hq:=h (s.heap.objs.size+1) s.heap.objs.size (I.hok.fresh (Nat.le_succ _)) (I.hok.fresh (Nat.le_refl _)) (Nat.ne_of_lt (Nat.lt_succ_self _))
 have I2:=Inv.made (C:=C) I
 have Y:=makes_of (M:=model X.prog X.w) I.kIn M.makes
 refine wpAny_call (U4t I.kIn M.makes M.init (fun self=>Looks.of_pure (oi_bind self)) ?_)
 have e2:((s.heap.push emptyDict).push (instObj C s.heap.objs.size)).get? (s.heap.objs.size+1)=some (instObj C s.heap.objs.size):=by
   have:=Heap.get?_push_size (s.heap.push emptyDict) (o:=instObj C s.heap.objs.size) rfl
   rwa[Heap.size_push] at this
 have t1:Looks (model X.prog X.w) ((s.heap.push emptyDict).push (instObj C s.heap.objs.size)) (typeOf (.ref (s.heap.objs.size+1))) (.ref C):=(Looks.ld e2).andThen .now
 have t2:Looks (model X.prog X.w) ((s.heap.push emptyDict).push (instObj C s.heap.objs.size)) (isInstance (.ref (s.heap.objs.size+1)) (.type "object")) true:=t1.andThen (Y.top.keeps fun b o e=>Heap.get?_push_of_some _ (Heap.get?_push_of_some _ e))
 refine codeAny_call_builtin oi_plain entry_oi (@check_slot (model X.prog X.w) _ _ _ "object.__init__" "object" "__init__" (.ref (s.heap.objs.size+1)) [] [] _ oi_kind oi_split t2 (oi_args (.ref (s.heap.objs.size+1))) ?_)
 rw[oi_run]
 exact wpAny_pure (And.intro rfl ⟨V.ref (s.heap.objs.size+1),_,I2,rfl,hq⟩)
theorem A9y(M:Mk0 X.K C)(hg:Gl X x)(hm:X.mg x=some (.ref C))(hdb:(x==("__debug__":Str))=false:=by decide):PE X (.Call (.Name x p) [] [] pos) (Z5s C):=by
 intro pins s σ H Q I h
 refine wpAny_Call_Name_kw (A1t I hg hm ?_ hdb)
 exact callWith_K0 I.kIn M.kp (Y9k M I h)
noncomputable def V2j (C:Addr) (m:Str) (sp:Sp) (dvs:List V) (EH:EK) (ta:TE) (t:TA):TE:=fun σ H Q=>ta σ H fun x H1=>∃a dx fs,x= .ref a/\H1 a=some (.ins C dx fs)/\fs.lookup m=none/\
 t σ H1 fun vs H2=>sp (x::(vs++dvs)) H2 Q (fun C d H'=>EH C d σ H')
theorem C2f{pl:Sem Bool}(he:PE X o ta)(c:Cls X.K C)(hm:Meth X.K C m f)(F:FnOk X.prog X.w X.K X.mg X.base (CX1 X.prog X.w) j f fd ps sp)(hr:Room k X.A)(hb:Binds X.K fd ps ds)(hd:Vals dvs ds)(hx:G5 X EH)(ha:PA X (e::es) t)
   (hj:j<=k:=by decide) (hex:X.ex=[]:=by rfl)
   (hst:starEach (e::es) X.env=(false,eval e X.env)::starEach es X.env:=by rfl) (hpl:(backTo pos (starEach es X.env)).any (·.1)=false:=by rfl)
   (ht:eval (.Call (.Attribute o m apos) (e::es) [] pos) X.env=(do
     let ov<-eval o X.env
     standAt apos.atName
     let(f,first)<-holding [ov] (getMethod ov m pl)
     callWith pos f first (backTo pos (starEach (e::es) X.env)) (backToKw pos (keywordEach [] X.env))):=by rfl):
   PE X (.Call (.Attribute o m apos) (e::es) [] pos) (V2j C m sp dvs EH ta t):=by
 intro pins s σ H Q I h
 refine methodCall_KW (pl:=pl) (thn (he pins s σ H _ I h) fun u s1 hh_=>?_) ht
 obtain⟨x,H1,I1,rx,a,dx,fs,ex,ea,l,q⟩:=hh_
 subst ex
 obtain rfl:u=Value.ref a:=rx
 refine C3p I1 ea c hm l ?_
 refine callWith_K (first:=[.ref a]) (h₀:=X.base) I.ok.mod.kin hm.kp (thn (ha pos pins s1 σ H1 _ I1 q) fun us s2 ⟨vs,H2,I2,r,q2⟩=>⟨I2.kIn,?_⟩) hst hpl
 exact C2y (us:= .ref a::us) (vs:= .ref a::vs) (F.mono hj) hr hb hd hx hex I2 (.cons rfl r) q2
theorem A1j{pl:Sem Bool}(he:PE X o ta)(c:Cls X.K C)(hm:Meth X.K C m f)(F:FnOk X.prog X.w X.K X.mg X.base (CX1 X.prog X.w) j f fd ps sp)(hr:Room k X.A)(hb:Binds X.K fd ps ds)(hd:Vals dvs ds)(hx:G5 X EH)
   (hj:j<=k:=by decide) (hex:X.ex=[]:=by rfl)
   (ht:eval (.Call (.Attribute o m apos) [] [] pos) X.env=(do
     let ov<-eval o X.env
     standAt apos.atName
     let(f,first)<-holding [ov] (getMethod ov m pl)
     callWith pos f first (backTo pos (starEach [] X.env)) (backToKw pos (keywordEach [] X.env))):=by rfl):
   PE X (.Call (.Attribute o m apos) [] [] pos) (V2j C m sp dvs EH ta U4d):=by
 intro pins s σ H Q I h
 refine methodCall_KW (pl:=pl) (thn (he pins s σ H _ I h) fun u s1 hh_=>?_) ht
 obtain⟨x,H1,I1,rx,a,dx,fs,ex,ea,l,q⟩:=hh_
 subst ex
 obtain rfl:u=Value.ref a:=rx
 refine C3p I1 ea c hm l ?_
 exact callWith_K0 (first:=[.ref a]) I1.kIn hm.kp (C2y (us:=[.ref a]) (vs:=[.ref a]) (F.mono hj) hr hb hd hx hex I1 (.cons rfl .nil) q)
noncomputable def Z5t (C:Addr) (sp:Sp) (dvs:List V) (EH:EK) (t:TA):TE:=fun σ H Q=>t σ H fun vs H1=>∀x dx,H1 x=none ->H1 dx=none ->dx≠x ->
 sp (.ref x::(vs++dvs)) (upd (upd H1 dx (.own x)) x (.ins C dx [])) (fun v H2=>v= .non/\Q (.ref x) H2) (fun C d H'=>EH C d σ H')
theorem U3s{pins:List (Addr×Obj)}{σ:St}{H:Hp}{s:Shared}{Q:VK}{us:List Value}{vs:List V}(M:Mk X.K C f)(F:FnOk X.prog X.w X.K X.mg X.base (CX1 X.prog X.w) k f fd ps sp)(hr:Room (k+1) X.A)(hb:Binds X.K fd ps ds)(hd:Vals dvs ds)
   (hx:G5 X EH) (hex:X.ex=[]) (I:Inv X pins σ H s) (r:Vals vs us)
   (h:∀x dx,H x=none ->H dx=none ->dx≠x ->sp (.ref x::(vs++dvs)) (upd (upd H dx (.own x)) x (.ins C dx [])) (fun v H2=>v= .non/\Q (.ref x) H2) (fun C d H'=>EH C d σ H')):
   wpAny (model X.prog X.w) X.A (call (.ref C) us) (EP X pins σ Q) X.xe s:=by
 have hq:=h (s.heap.objs.size+1) s.heap.objs.size (I.hok.fresh (Nat.le_succ _)) (I.hok.fresh (Nat.le_refl _)) (Nat.ne_of_lt (Nat.lt_succ_self _))
 have I2:=Inv.made (C:=C) I
 have r2:Vals (V.ref (s.heap.objs.size+1)::(vs++dvs)) (Value.ref (s.heap.objs.size+1)::(us++ds)):= .cons rfl (r.append hd)
 have hl:(Value.ref (s.heap.objs.size+1)::us++ds).length=ps.length:=by
   have e:=r2.length
   rw[F.len _ _ _ _ hq] at e
   exact e.symm
 refine wpAny_call (G5u (f:=f) I.kIn M.makes M.init (beq_iff_eq.mp M.fn) (codeAny_mono (F.run _ X.stack _ _ ⟨Value.ref (s.heap.objs.size+1)::us,[]⟩ (Value.ref (s.heap.objs.size+1)::(us++ds)) _ _ _ (hr.make C us [])
   (I2.env0.make C us []) (hb _ (Value.ref (s.heap.objs.size+1)::us) I2.kIn hl) r2 hq) fun r s' hq'=>?_))
 cases r with
 |error e=>exact Y8u hx hex I2 hq'
 | ok fl=>
   cases fl with
   | ret u=>
     obtain⟨v,H',I3,rv,ev,q3⟩:=I2.after hq'
     subst ev
     exact⟨rv,⟨V.ref (s.heap.objs.size+1),H',I3,rfl,q3⟩⟩
   |next=>exact False.elim hq'
   |brk=>exact False.elim hq'
   |cont=>exact False.elim hq'
theorem A5v(M:Mk X.K C f)(F:FnOk X.prog X.w X.K X.mg X.base (CX1 X.prog X.w) j f fd ps sp)(hr:Room k X.A)(hm:X.mg x=some (.ref C))(hb:Binds X.K fd ps ds)(hd:Vals dvs ds)(hx:G5 X EH)
   (ha:PA X (e::es) t) (hj:j+1<=k:=by decide) (hg:Gl X x:=by rfl) (hex:X.ex=[]:=by rfl) (hdb:(x==("__debug__":Str))=false:=by decide) (he:starEach (e::es) X.env=(false,eval e X.env)::starEach es X.env:=by rfl) (hpl:(backTo pos (starEach es X.env)).any (·.1)=false:=by rfl):
   PE X (.Call (.Name x p) (e::es) [] pos) (Z5t C sp dvs EH t):=by
 intro pins s σ H Q I h
 refine wpAny_Call_Name_kw (A1t I hg hm ?_ hdb)
 refine callWith_K (h₀:=X.base) I.ok.mod.kin M.kp (thn (ha pos pins s σ H _ I h) fun us s1 ⟨vs,H1,I1,r,q⟩=>⟨I1.kIn,?_⟩) he hpl
 exact U3s M F (hr.mono hj) hb hd hx hex I1 r q
end
theorem Y7c{n:Nat}(h:n<=sizeLine):Builtin.Str.tooLong n=false:=by
 unfold Builtin.Str.tooLong
 exact decide_eq_false (by omega)
section
variable{X:Cx}
end
structure FunD(K:Frag)(x qual:Str)(st:Stmt)(dV:Value)(f:Addr)(fd:FuncData):Prop where
 ex:∃(oc:Value) (od:Option Addr) (kV doc pm:Value) (an:Option Addr) (cdv ct:Value) (osl:Array (Option Value)),
   fd=fnOf x qual (C0 st) (B9 st) (A3 st) dV kV doc pm an cdv ct/\K.lookup f=some ⟨oc,od,.func fd,osl⟩/\codeIn K cdv qual=true
 kp:keepIn K (.ref f)=true
section
variable{P:Program}{w:World}{K:Frag}{mg:Str ->Option Value}{base:Heap}
theorem FunD.okE{x qual:Str}{st:Stmt}{dV:Value}{f:Addr}{fd:FuncData}{N ps:List Str}{k:Nat}{sp:Sp}(F:FunD K x qual st dV f fd)(S:FnScope N ps (A3 st))(len:∀vs H Q E,sp vs H Q E ->vs.length=ps.length)
   (hbody:∀(X:Cx) (cdv:Value) (A:Around) (outer:List Env) (s:Shared) (H:Hp) (vs:List V) (Q:VK) (E:XK),X=A0f (CX1 P w) P w K mg base N qual (A3 st) f cdv A outer s H E ->Room k X.A ->G5 X (fun C dd _ H'=>E C dd H') ->sp vs H Q E ->
     ∃t,PSs (A0f (CX1 P w) P w K mg base N qual (A3 st) f cdv A outer s H E) (B9 st) t/\t {nx:=fun _ H'=>Q .non H',rt:=Q} (A4a N vs) H):FnOk P w K mg base (CX1 P w) (k+1) f fd ps sp:=by
 obtain⟨oc,od,kV,doc,pm,an,cdv,ct,osl,rfl,lk,hc⟩:=F.ex
 exact V0c lk hc S len fun A outer s H vs Q E hr h=>hbody _ cdv A outer s H vs Q E rfl hr A6z h
theorem U1z{x qual:Str}{st:Stmt}{dV:Value}{f:Addr}{oc:Value}{od an:Option Addr}{osl:Array (Option Value)}{kV doc pm cdv ct:Value}(l:K.lookup f=some ⟨oc,od,.func (fnOf x qual (C0 st) (B9 st) (A3 st) dV kV doc pm an cdv ct),osl⟩)
   (c:codeIn K cdv qual=true) (k:keepIn K (.ref f)=true):FunD K x qual st dV f (fnOf x qual (C0 st) (B9 st) (A3 st) dV kV doc pm an cdv ct):=⟨⟨oc,od,kV,doc,pm,an,cdv,ct,osl,rfl,l,c⟩,k⟩
theorem D3x{fd:FuncData}{ps:List Str}{ds:List Value}{T:Addr}{o:Obj}{items:Array Value}{n:Nat}(hd:fd.defaults= .ref T)(ho:K.lookup T=some o)(hs:o.data= .seq items n)
   (h:∀us:List Value,(us++ds).length=ps.length ->∃k,bindArgs fd ⟨us,[]⟩=seqItems? fd.defaults>>=k/\k (some items)=pure (ps.zip (us++ds))):Binds K fd ps ds:=fun s us X hl=>by
 obtain⟨k,h1,h2⟩:=h us hl
 exact binds_K X hd ho hs h1 h2
end
section
variable{X:Cx}{k j:Nat}{f C:Addr}{fd:FuncData}{ps ks:List Str}{sp:Sp}{EH:EK}{x m:Str}{p pos apos:Pos}{e o:Expr}{es:List Expr}{kws:List Keyword}{ta:TE}{t tk:TA}{g:List Value ->List Value ->List Value}{gV:List V ->List V ->List V}
end
section
variable{X:Cx}{K:Frag}{e:Expr}{f:Str}{pos:Pos}{ta:TE}
theorem Y7v(h:X.K=K)(he:PE X e ta)(hb:attributeBase e f X.env (eval e X.env)=eval e X.env):PE X (.Attribute e f pos) (tFld K ta f):=by subst h;exact D5 he hb
theorem G9z(h:X.K=K):OpR X (compareOp .In) (rIn K false):=by subst h;exact A5x
end
end L2
namespace TR
open PySem L2 PySem.W PyProof.Rows
structure Own(mg:Str ->Option Value):Prop where
 isi:mg "isinstance"=none
 int_:mg "int"=none
 bool_:mg "bool"=none
 str_:mg "str"=none
 list_:mg "list"=none
 tuple_:mg "tuple"=none
 dict_:mg "dict"=none
 len_:mg "len"=none
 range_:mg "range"=none
 min_:mg "min"=none
 max_:mg "max"=none
 abs_:mg "abs"=none
 any_:mg "any"=none
 all_:mg "all"=none
 sum_:mg "sum"=none
 repr_:mg "repr"=none
 enumerate_:mg "enumerate"=none
 reversed_:mg "reversed"=none
 zip_:mg "zip"=none
 sorted_:mg "sorted"=none
 divmod_:mg "divmod"=none
 set_:mg "set"=none
 ValueError_:mg "ValueError"=none
structure Kit(K:Frag):Prop where
 int_int:kitOne K (.type "int") (.type "int")=some true
 int_bool:kitOne K (.type "int") (.type "bool")=some false
 int_str:kitOne K (.type "int") (.type "str")=some false
 int_list:kitOne K (.type "int") (.type "list")=some false
 int_tuple:kitOne K (.type "int") (.type "tuple")=some false
 int_dict:kitOne K (.type "int") (.type "dict")=some false
 bool_int:kitOne K (.type "bool") (.type "int")=some true
 bool_bool:kitOne K (.type "bool") (.type "bool")=some true
 bool_str:kitOne K (.type "bool") (.type "str")=some false
 bool_list:kitOne K (.type "bool") (.type "list")=some false
 bool_tuple:kitOne K (.type "bool") (.type "tuple")=some false
 bool_dict:kitOne K (.type "bool") (.type "dict")=some false
 str_int:kitOne K (.type "str") (.type "int")=some false
 str_bool:kitOne K (.type "str") (.type "bool")=some false
 str_str:kitOne K (.type "str") (.type "str")=some true
 str_list:kitOne K (.type "str") (.type "list")=some false
 str_tuple:kitOne K (.type "str") (.type "tuple")=some false
 str_dict:kitOne K (.type "str") (.type "dict")=some false
 list_int:kitOne K (.type "list") (.type "int")=some false
 list_bool:kitOne K (.type "list") (.type "bool")=some false
 list_str:kitOne K (.type "list") (.type "str")=some false
 list_list:kitOne K (.type "list") (.type "list")=some true
 list_tuple:kitOne K (.type "list") (.type "tuple")=some false
 list_dict:kitOne K (.type "list") (.type "dict")=some false
 tuple_int:kitOne K (.type "tuple") (.type "int")=some false
 tuple_bool:kitOne K (.type "tuple") (.type "bool")=some false
 tuple_str:kitOne K (.type "tuple") (.type "str")=some false
 tuple_list:kitOne K (.type "tuple") (.type "list")=some false
 tuple_tuple:kitOne K (.type "tuple") (.type "tuple")=some true
 tuple_dict:kitOne K (.type "tuple") (.type "dict")=some false
 dict_int:kitOne K (.type "dict") (.type "int")=some false
 dict_bool:kitOne K (.type "dict") (.type "bool")=some false
 dict_str:kitOne K (.type "dict") (.type "str")=some false
 dict_list:kitOne K (.type "dict") (.type "list")=some false
 dict_tuple:kitOne K (.type "dict") (.type "tuple")=some false
 dict_dict:kitOne K (.type "dict") (.type "dict")=some true
 NoneType_int:kitOne K (.type "NoneType") (.type "int")=some false
 NoneType_bool:kitOne K (.type "NoneType") (.type "bool")=some false
 NoneType_str:kitOne K (.type "NoneType") (.type "str")=some false
 NoneType_list:kitOne K (.type "NoneType") (.type "list")=some false
 NoneType_tuple:kitOne K (.type "NoneType") (.type "tuple")=some false
 NoneType_dict:kitOne K (.type "NoneType") (.type "dict")=some false
theorem scK{N P:List Str}{sc:Scope}(a:sc.kind= .function:=by rfl)(b:sc.isCoroutine=false:=by rfl)(c:sc.isGenerator=false:=by rfl)(d:N.Nodup:=by decide+kernel)(e:N.take P.length=P:=by rfl)(f:∀x∈P,sc.names.lookup x=some .local\/sc.names.lookup x=some .cell:=by decide+kernel)(g:∀y∈sc.names,y.2≠ .free:=by decide+kernel):FnScope N P sc:=⟨a,b,c,d,e,f,g⟩
theorem V2k{K:Frag}{H:Hp}(i:Int):TyE K H (.int i) (.type "int"):= .of (.int i)
theorem tyBl{K:Frag}{H:Hp}(b:Bool):TyE K H (.bl b) (.type "bool"):= .of (.bl b)
theorem U2e{K:Frag}{H:Hp}(z:Str):TyE K H (.str z) (.type "str"):= .of (.str z)
theorem A0bk{K:Frag}{H:Hp}:TyE K H .non (.type "NoneType"):= .of .non
theorem V0j{K:Frag}{H:Hp}{a:Addr}{xs:List V}(h:H a=some (.lst xs)):TyE K H (.ref a) (.type "list"):= .of (.lst h)
theorem A0bn{K:Frag}{H:Hp}{a:Addr}{xs:List V}(h:H a=some (.tup xs)):TyE K H (.ref a) (.type "tuple"):= .of (.tup h)
theorem A0au{K:Frag}{H:Hp}{a:Addr}{xs:List (Key×V)}(h:H a=some (.dK xs)):TyE K H (.ref a) (.type "dict"):= .of (.dK h)
theorem TyOf.same{K:Frag}{H H':Hp}{x:V}{t:Value}(h:TyOf K H x t)(e:Same H H'):TyOf K H' x t:=by
 cases h with
 |non=>exact .non
 |bl x=>exact .bl x
 |int i=>exact .int i
 |str x=>exact .str x
 |flt x=>exact .flt x
 |lst z=>exact .lst (e _ _ z)
 |frz z=>exact .frz (e _ _ z)
 |tup z=>exact .tup (e _ _ z)
 |dK z=>exact .dK (e _ _ z)
 |dT z=>exact .dT (e _ _ z)
 |ins z a b c d f=>exact .ins (e _ _ z) a b c d f
theorem TyE.same{K:Frag}{H H':Hp}{x:V}{t:Value}(h:TyE K H x t)(e:Same H H'):TyE K H' x t:=by
 cases h with
 |of h=>exact .of (TyOf.same h e)
 |exc z k=>exact .exc (e _ _ z) k
 |excD z d k=>exact .excD (e _ _ z) (e _ _ d) k
 |tupK l c=>exact .tupK l c
noncomputable def A5z (lo hi:Int) (v:V):Prop:=∃i,v= .int i/\lo<=i/\i<=hi
noncomputable def C8e (K:Frag) (H:Hp) (lo hi:Int) (v:V):Prop:=∃t b1 b2,TyE K H v t/\kitOne K t (.type "int")=some b1/\kitOne K t (.type "bool")=some b2/\((b1&& !b2)=false\/∃i,v= .int i/\(i<lo\/hi<i))
section
variable{K:Frag}{H:Hp}{lo hi:Int}
end
noncomputable def Exc (p:Addr) (H H':Hp):Prop:=∀b o,H b=some o ->b≠p ->H' b=some o
theorem Exc.refl(p:Addr)(H:Hp):Exc p H H:=fun _ _ h _=>h
theorem Exc.trans{p:Addr}{H H1 H2:Hp}(a:Exc p H H1)(b:Exc p H1 H2):Exc p H H2:=fun c o h n=>b c o (a c o h n) n
theorem Exc.upd{p:Addr}{H:Hp}{o:HO}:Exc p H (L2.upd H p o):=fun b u e n=>by rw[D4 n];exact e
theorem Exc.of{p:Addr}{H H':Hp}(s:Same H H'):Exc p H H':=fun b o h _=>s b o h
noncomputable def Has (P:Program) (w:World) (K:Frag) (mg:Str ->Option Value) (base:Heap) (C:Addr) (m:Str) (k:Nat) (ps:List Str) (sp:Sp):Prop:=∃f fd,Meth K C m f/\FnOk P w K mg base (CX1 P w) k f fd ps sp/\Binds K fd ps []
structure Fits(K:Frag)(C C1 C2 C3 C4 C5:Addr)(b1 b2 b3 b4 b5:Bool):Prop where
 k:ExcK K C
 h1:kitOne K (.ref C) (.ref C1)=some b1
 h2:kitOne K (.ref C) (.ref C2)=some b2
 h3:kitOne K (.ref C) (.ref C3)=some b3
 h4:kitOne K (.ref C) (.ref C4)=some b4
 h5:kitOne K (.ref C) (.ref C5)=some b5
 hv:kitOne K (.ref C) (.type "ValueError")=some true
theorem len2{us:List Value}(h:us.length=2):∃a b,us=[a,b]:=by
 obtain⟨a,t,rfl⟩:=List.exists_cons_of_length_eq_add_one h
 obtain⟨b,t,rfl⟩:=List.exists_cons_of_length_eq_add_one (Nat.succ.inj h)
 exact⟨a,b,by rw[List.eq_nil_of_length_eq_zero (Nat.succ.inj (Nat.succ.inj h))]⟩
theorem Y7a{us:List Value}(h:us.length=3):∃a b c,us=[a,b,c]:=by
 obtain⟨a,t,rfl⟩:=List.exists_cons_of_length_eq_add_one h
 obtain⟨b,c,e⟩:=len2 (Nat.succ.inj h)
 exact⟨a,b,c,by rw[e]⟩
theorem len4{us:List Value}(h:us.length=4):∃a b c d,us=[a,b,c,d]:=by
 obtain⟨a,t,rfl⟩:=List.exists_cons_of_length_eq_add_one h
 obtain⟨b,c,d,e⟩:=Y7a (Nat.succ.inj h)
 exact⟨a,b,c,d,by rw[e]⟩
theorem len5{us:List Value}(h:us.length=5):∃a b c d e,us=[a,b,c,d,e]:=by
 obtain⟨a,t,rfl⟩:=List.exists_cons_of_length_eq_add_one h
 obtain⟨b,c,d,e,z⟩:=len4 (Nat.succ.inj h)
 exact⟨a,b,c,d,e,by rw[z]⟩
theorem V2m{us ds:List Value}{n:Nat}(h:(us++ds).length=n):us.length=n-ds.length:=by rw[List.length_append] at h;omega
end TR
namespace L2
open PySem PySem.Spec PyProof.Rows
section
variable{κ:Type} [DecidableEq κ]
end
section
variable{P:Program}{w:World}{H:Hp}{h:Heap}{a:Addr}
end
section
variable{X:Cx}{pins:List (Addr×Obj)}{σ:St}{H:Hp}{s:Shared}{a:Addr}{y v:V}{u r:Value}{o:Option V}{A:Around}{E:Value ->Shared ->Prop}
end
section
variable{X:Cx}{pins:List (Addr×Obj)}{σ:St}{H:Hp}{s:Shared}{a:Addr}{kvs:List (Key×V)}{k:Key}{u:Value}{A:Around}{E:Value ->Shared ->Prop}
end
section
variable{X:Cx}{o i e value:Expr}{pos pos' tpos:Pos}{td ty tv:TE}
end
section
variable{X:Cx}{pos:Pos}
end
end L2
namespace L2
open PySem PySem.Spec PyProof.Rows PySem.W
noncomputable def A2e (F:List Str) (env:Env):List (Str×Addr):=F.map fun x=>(x,(env.cells.lookup x).getD 0)
noncomputable def A5g (js:List Nat) (σ:St):St:=js.map fun j=>(σ[j]?).getD none
noncomputable abbrev Cx.compF (X:Cx) (scope:Scope) (N F:List Str) (C:Addr) (s₀:Shared) (H₀:Hp) (ex:List Addr) (pins:List (Addr×Obj)):Cx:=
 {X with N:=N++F,s₀:=s₀,H₀:=H₀,env:=compEnvC scope (A2e F X.env) C X.env,outer:=X.stack,ex:=ex,fn:=fun _=>false,pn:=pins,xe:=fun _ _=>False}
structure CompScopeF(N F:List Str)(js:List Nat)(sc:Scope)(XN:List Str)(env:Env):Prop where
 kind:sc.kind= .function
 cell:∀y∈sc.names,y.2≠ .cell
 loc:∀y∈sc.names,y.2= .local ->sc.names.lookup y.1=some .local
 nd:(N++F).Nodup
 clos:closureFor sc env=pure (A2e F env)
 fr:∀y∈(relabel sc env).names,y.2= .cell\/y.2= .free ->y.1∈F
 at_:∀(k:Nat) (x:Str),F[k]?=some x ->(∃j:Nat,js[k]?=some j/\XN[j]?=some x)/\(∃c,env.cells.lookup x=some c)/\env.kindOf x=some .cell/\(relabel sc env).names.lookup x=some .cell
 jl:js.length=F.length
noncomputable def J0h (n:Nat) (js:List Nat) (wi:TI) (g:TG) (tc:TT) (te:TE):TE:=fun σ H Q=>wi σ H fun J H1=>∀D,H1 D=none ->
 ∃ (m:Nat) (W:Nat ->List V ->Hp ->Prop),W 0 [] (upd H1 D (.lst []))/\∀i ys H2,W i ys H2 ->i<=m/\H2 D=some (.lst ys)/\((J.stop i H2/\Q (.ref D) H2)\/(i<m/\J.go i H2/\∀x H3,J.yld i H2 x H3 ->
   g x (List.replicate n none++A5g js σ) H3 fun σ4 H4=>tc σ4 H4 fun b H5=>if b=true then te σ4 H5 fun y H6=>H6 D=some (.lst ys)/\ys.length<sizeLine/\W (i+1) (ys++ [y]) (upd H6 D (.lst (ys++ [y]))) else W (i+1) ys H5))
noncomputable def U0v (n:Nat) (js:List Nat) (wi:TI) (g:TG) (te:TE):TE:=fun σ H Q=>wi σ H fun J H1=>∀D,H1 D=none ->
 ∃ (m:Nat) (W:Nat ->List V ->Hp ->Prop),W 0 [] (upd H1 D (.lst []))/\∀i ys H2,W i ys H2 ->i<=m/\H2 D=some (.lst ys)/\((J.stop i H2/\Q (.ref D) H2)\/(i<m/\J.go i H2/\∀x H3,J.yld i H2 x H3 ->
   g x (List.replicate n none++A5g js σ) H3 fun σ4 H4=>te σ4 H4 fun y H6=>H6 D=some (.lst ys)/\ys.length<sizeLine/\W (i+1) (ys++ [y]) (upd H6 D (.lst (ys++ [y])))))
theorem Z6c{F:List Str}{env:Env}{x:Str}{c:Addr}(h:(A2e F env).lookup x=some c):x∈F/\c=(env.cells.lookup x).getD 0:=by
 have:=PySem.mem_of_lookup h
 obtain⟨y,hy,e⟩:=List.mem_map.mp this
 cases e
 exact⟨hy,rfl⟩
theorem U9x{env:Env}{x:Str}:∀{F:List Str},x∈F ->(A2e F env).lookup x=some ((env.cells.lookup x).getD 0)
 | y ::F,h=>by
   show List.lookup x ((y,(env.cells.lookup y).getD 0)::A2e F env)=_
   by_cases e:x=y
   . subst e;simp[List.lookup]
   . have hb:(x==y)=false:=beq_eq_false_iff_ne.mpr e
     rw[List.lookup_cons,hb]
     exact U9x (by rcases List.mem_cons.mp h with z|z;exact absurd z e;exact z)
section
variable{X:Cx}{N F:List Str}{js:List Nat}{scope:Scope}
theorem CompScopeF.sub(S:CompScopeF N F js scope X.N X.env):∀x c,(A2e F X.env).lookup x=some c ->X.env.cells.lookup x=some c:=fun x c z=>by
 obtain⟨hx,rfl⟩:=Z6c z
 obtain⟨k,hk⟩:=List.mem_iff_getElem?.mp hx
 obtain⟨_,⟨c,hc⟩,_⟩:=S.at_ k x hk
 rw[hc];rfl
theorem CompScopeF.has(S:CompScopeF N F js scope X.N X.env){x:Str}(hx:x∈F):∃c,(A2e F X.env).lookup x=some c/\X.env.cells.lookup x=some c:=
 ⟨_,U9x hx,S.sub _ _ (U9x hx)⟩
theorem B3w{pins:List (Addr×Obj)}{σ:St}{H:Hp}{s:Shared}(S:CompScopeF N F js scope X.N X.env)(I:Inv X pins σ H s){h':Heap}{m:Str ->Option Value}{C:Addr}(hc:∀x c v,X.env.cells.lookup x=some c ->s.heap.IsCell c v ->h'.IsCell c v):
   ∀(i:Nat) (x:Str) (v:V),(N++F)[i]?=some x ->(List.replicate N.length none++A5g js σ)[i]?=some (some v) ->∃u,RelV v u/\Look (compEnvC scope (A2e F X.env) C X.env) h' m x u:=by
 intro i x v e1 e2
 by_cases hi:i<N.length
 . rw[List.getElem?_append_left (by simpa using hi),List.getElem?_replicate] at e2
   split at e2<;>cases e2
 . rw[List.getElem?_append_right (by omega)] at e1
   rw[List.getElem?_append_right (by simp;omega)] at e2
   rw[List.length_replicate] at e2
   obtain⟨⟨j,hj,hx⟩,⟨c,hcc⟩,kx,kr⟩:=S.at_ _ x e1
   unfold A5g at e2
   rw[List.getElem?_map,hj] at e2
   have e2:(σ[j]?).getD none=some v:=Option.some.inj e2
   have e3:σ[j]?=some (some v):=by
     cases q:σ[j]? with
     |none=>rw[q] at e2;cases e2
     |some o=>rw[q] at e2;exact congrArg some e2
   obtain⟨m0,_,hl⟩:=I.loc
   obtain⟨u,r,l⟩:=hl j x v hx e3 (.inr (.inl kx))
   refine⟨u,r,.inr ⟨.inl kr,c,?_,?_⟩⟩
   . obtain⟨c',h1,h2⟩:=S.has (List.mem_of_getElem? e1)
     rw[hcc] at h2
     cases h2
     exact h1
   . rcases l with⟨k,_⟩|⟨_,c',h1,h2⟩
     . rw[kx] at k;cases k
     . rw[hcc] at h1
       cases h1
       exact hc x c _ hcc h2
theorem D3s(S:CompScopeF N F js scope X.N X.env)(σ:St):(List.replicate N.length none++A5g js σ:St).length=(N++F).length:=by
 unfold A5g
 rw[List.length_append,List.length_replicate,List.length_map,S.jl,List.length_append]
theorem U3x{pins:List (Addr×Obj)}{σ:St}{H:Hp}{s:Shared}{it:Addr}{h':Heap}(S:CompScopeF N F js scope X.N X.env)(I:Inv X pins σ H s)(hf:A4g X pins H it)(hit:∃o,s.heap.get? it=some o)(hnb:X.base.get? it=none)
   (hns:h'.Ns s.heap.objs.size (fun _=>none)) (hsb:∀b o,s.heap.get? b=some o ->h'.get? b=some o) {tk:Nat}:
   Inv (X.compF scope N F s.heap.objs.size s H [it] (X.pn++pins)) [] (List.replicate N.length none++A5g js σ) H {s with heap:=h',toks:=tk}:=by
 obtain⟨f0,f1,f2,f3,f4,f5⟩:=hf
 obtain⟨oi,ei⟩:=hit
 have lt:it<s.heap.objs.size:=Heap.lt_size ei
 have ck:∀c v,s.heap.IsCell c v ->h'.IsCell c v:=fun c v ⟨o,e,d⟩=>⟨o,hsb _ _ e,d⟩
 have inF:∀x,((compEnvC scope (A2e F X.env) s.heap.objs.size X.env).kindOf x=some .cell\/(compEnvC scope (A2e F X.env) s.heap.objs.size X.env).kindOf x=some .free) ->x∈F:=by
   intro x z
   have z:(relabel scope X.env).names.lookup x=some .cell\/(relabel scope X.env).names.lookup x=some .free:=z
   rcases z with z|z
   . exact S.fr _ (PySem.mem_of_lookup z) (.inl rfl)
   . exact S.fr _ (PySem.mem_of_lookup z) (.inr rfl)
 refine⟨⟨I.ok.mod,S.kind,I.ok.glob,I.ok.blt,Nat.le_refl _,fun x y c z z'=>I.ok.inj x y c (S.sub x c z) (S.sub y c z'),fun x z=>?_,fun x c z _=>(nomatch z),I.ok.hd,I.ok.frames,.inl rfl,fun b hb=>?_,I.bs,Nat.le_trans I.ok.bsz I.sz,fun b o e hb=>?_,fun b hb hfs=>?_,I.stack,I.stkFree⟩,
   rfl,I.bare,Un.kept hsb,⟨_,hns,fun i x v e1 e2 e3=>B3w S I (fun x c v _ z=>ck c v z) i x v e1 e2⟩,fun x c z=>?_,I.hok.fresh (Nat.le_refl _),fun x c z=>I.freeC x c (S.sub x c z),fun p hp=>?_,I.hok.kept hsb,D3s S σ⟩
 . obtain⟨c,h1,_⟩:=S.has (inF x z)
   exact⟨c,h1⟩
 . have e:b=it:=by simpa using hb
   subst e
   exact⟨Nat.ne_of_lt lt,fun x c z=>f4 x c (S.sub x c z)⟩
 . have e':b=it:=by simpa using hb
   subst e'
   rw[hnb] at e
   cases e
 . have e':b=it:=by simpa using hb
   subst e'
   rcases List.mem_cons.mp (I.stkSub b hfs) with z|z
   . exact f1 z
   . exact f2 z
 . obtain⟨v,z'⟩:=I.cell x c (S.sub x c z)
   exact⟨v,ck c v z'⟩
 . have hp':p∈X.pn++pins:=by simpa using hp
   obtain⟨q1,q2,q3,q4,q5⟩:=I.pin p hp'
   refine⟨hsb _ _ q1,q2,Nat.ne_of_lt (Heap.lt_size q1),fun z=>?_,q5⟩
   rcases List.mem_cons.mp (I.stkSub p.1 z) with z|z
   . exact q3 z
   . exact q4 z
theorem U4a{pins pl:List (Addr×Obj)}{σ σ':St}{H H':Hp}{s s':Shared}{it:Addr}(S:CompScopeF N F js scope X.N X.env)(I:Inv X pins σ H s)(hf:A4g X pins H it)(J:Inv (X.compF scope N F s.heap.objs.size s H [it] (X.pn++pins)) pl σ' H' s'):
   Inv (X.compF scope N F s.heap.objs.size s H [it] (X.pn++pins)) [] (List.replicate N.length none++A5g js σ) H' s':=by
 obtain⟨m,hn,_⟩:=J.loc
 refine⟨J.ok,J.os,J.bare,J.base,⟨m,hn,fun i x v e1 e2 e3=>B3w S I (fun x c v z q=>?_) i x v e1 e2⟩,J.cell,J.free,J.freeC,fun p hp=>J.pin p (by
   have hp:p∈(X.pn++pins)++ []:=hp
   rw[List.append_nil] at hp
   exact List.mem_append_left _ hp),J.hok,D3s S σ⟩
 obtain⟨o,e,d⟩:=q
 have ne:c ∉ [it]:=fun w=>hf.2.2.2.2.1 x c z (by simpa using w)
 obtain⟨sl,q⟩:=J.base.any e (I.freeC x c z) ne
 exact⟨_,q,d⟩
end
structure CompS(N F:List Str)(sc:Scope):Prop where
 kind:sc.kind= .function
 cell:∀y∈sc.names,y.2≠ .cell
 loc:∀y∈sc.names,y.2= .local ->sc.names.lookup y.1=some .local
 fr:∀y∈sc.names,y.2= .free ->y.1∈F
 nd:(N++F).Nodup
theorem C4m{sc:Scope}{env:Env}{F:List Str}(cell:∀y∈sc.names,y.2≠ .cell)(fr:∀y∈sc.names,y.2= .free ->y.1∈F):∀y∈(relabel sc env).names,y.2= .cell\/y.2= .free ->y.1∈F:=by
 intro y hy h
 obtain⟨⟨n,k⟩,hm,e⟩:=List.mem_map.mp hy
 dsimp only at e
 split at e
 . rename_i hc
   subst e
   simp only[Bool.and_eq_true] at hc
   exact fr (n,k) hm (by simpa using hc.1.1)
 . subst e
   rcases h with h|h
   . exact absurd h (cell (n,k) hm)
   . exact fr (n,k) hm h
theorem CompScopeF.of1{N:List Str}{x:Str}{j:Nat}{sc:Scope}{XN:List Str}{env:Env}(S:CompS N [x] sc)(clos:closureFor sc env=pure (A2e [x] env))(hj:XN[j]?=some x)(hc:∃c,env.cells.lookup x=some c)(hk:env.kindOf x=some .cell)
   (hr:(relabel sc env).names.lookup x=some .cell):CompScopeF N [x] [j] sc XN env:=
 ⟨S.kind,S.cell,S.loc,S.nd,clos,C4m S.cell S.fr,fun k y h=>match k,h with
   |0,h=>by cases h;exact⟨⟨j,rfl,hj⟩,hc,hk,hr⟩
   |k+1,h=>by simp at h,rfl⟩
theorem A3c(z:Str):∀zs:List Str,inV (.str z) (zs.map V.str)=zs.contains z
 | []=>rfl
 | y::zs=>by
   show(eqV (.str y) (.str z)||inV (.str z) (zs.map V.str))=_
   rw[A3c z zs,List.contains_cons]
   show((y==z)||_)=_
   rw[BEq.comm]
theorem A0m:∀zs:List Str,(zs.map V.str).all B6t=true
 | []=>rfl
 |_::zs=>A0m zs
theorem V2r{K:Frag}{H:Hp}{σ σf:L2.St}{a:Addr}{zs:List Str}{f:Str ->Bool}{tc:TT}{te:TE}{Q:VK}(hl:∀H,SqT K H a (zs.map V.str))(hz:zs.length<=100)
   (ht:∀(z:Str) (H':Hp) (Qb:Bool ->Hp ->Prop),Same H H' ->Qb (f z) H' ->tc (some (.str z)::σf) H' Qb) (he:∀(z:Str) (H':Hp) (Qv:VK),Qv (.str z) H' ->te (some (.str z)::σf) H' Qv)
   (k:∀D H',Same H H' ->H D=none ->H' D=some (.lst ((zs.filter f).map V.str)) ->Q (.ref D) H') {js:List Nat} (hj:A5g js σ=σf):J0h 1 js (iTup K (tC (.ref a))) (V2g 0) tc te σ H Q:=by
 refine⟨a,rfl,⟨_,hl H⟩,fun D hD=>⟨zs.length,fun i ys H2=>i<=zs.length/\ys=((zs.take i).filter f).map V.str/\H2=upd H D (.lst ys),⟨Nat.zero_le _,rfl,rfl⟩,?_⟩⟩
 rintro i ys H2 ⟨hi,rfl,rfl⟩
 refine⟨hi,B5,?_⟩
 have sm:Same H (upd H D (.lst (((zs.take i).filter f).map V.str))):=Same.upd hD
 have lz:(((zs.take i).filter f).map V.str).length<=100:=by
   rw[List.length_map]
   exact Nat.le_trans (List.length_filter_le _ _) (by rw[List.length_take];omega)
 by_cases hlt:i<zs.length
 . refine .inr ⟨hlt,⟨_,V.str zs[i],hl _,by simp[hlt]⟩,fun x H3 y=>?_⟩
   obtain⟨rfl,y⟩:=y
   have ex:x=V.str zs[i]:=by
     have:=y _ (hl _)
     simp[hlt] at this
     exact this.symm
   subst ex
   rw[hj]
   show tc (some (.str zs[i])::σf) _ _
   refine ht _ _ _ sm ?_
   have et:(zs.take (i+1)).filter f=(zs.take i).filter f++(if f zs[i] then [zs[i]] else []):=by
     rw[List.take_succ_eq_append_getElem hlt,List.filter_append]
     congr 1
     cases hb:f zs[i]<;>simp[hb]
   cases hb:f zs[i] with
   | false=>
     refine Y5 ⟨hlt,?_,rfl⟩
     rw[et,hb];simp
   | true=>
     refine Z1 (he _ _ _ ⟨B5,Nat.lt_of_le_of_lt lz (A0h (by decide)),hlt,?_,?_⟩)
     . rw[et,hb];simp
     . rw[Y8m]
 . have e:i=zs.length:=by omega
   subst e
   refine .inl ⟨⟨_,hl _,by simp⟩,k D _ sm hD ?_⟩
   rw[List.take_length]
   exact B5
end L2
namespace L2
open PySem
section
variable{prog:Program}{w:World}{A:Around}{E:Value ->Shared ->Prop}{h:Heap}{g:Array GenState}{d:Drawn}{t:Nat}{os:OsState}
variable{nm q:Str}{C N:Addr}{bs bm bmB:List Value}{hdct:Bool}{sn:List Str}{sub:List Value}{ab:Bool}{col:Option Bool}{dd:Option Addr}{k0 k1 k2 k3 k5:Option Value}{B newId initId:String}
theorem B4j(F:ExcBaseFacts B newId initId bmB)(T:OwnTail h bmB bm){mN:Str ->Option Value}{rest:List Value}{fI:Addr}{oI:Obj}{Q:Fin ->Shared ->Prop}
   (hC:h.get? C=some (excClassObj nm q C N bs bm hdct sn sub ab col dd k0 k1 k2 k3 k5 newId)) (hn:h.Ns N mN) (hi:mN "__init__"=some (.ref fI))
   (hfI:h.get? fI=some oI) (hfc:oI.cls= .type "function")
   (hq:∀h' e,Heap.MadeExcOf h h' e (.ref C) rest ->
     wpAny (model prog w) A (call (.ref fI) (.ref e::rest)) (fun r s'=>r= .none/\Q (.done (.ret (.ref e))) s') E ⟨h',g,d,t,os⟩) (hrest:rest.length<=sizeLine):
   wpAny (model prog w) A (Builtin.«type.__call__» ⟨.ref C :: rest, []⟩) Q E ⟨h, g, d, t, os⟩ := by
 repeat (first|with_reducible refine wpAny_loadPart_at hC ?_|with_reducible refine wpAny_madeBy_exc hC ?_|wp_step)
 refine codeAny_call_builtin_code (Code.quiet_builtin _ F.quiet) (wpAny_check_new_subT F T hC ?_)
 refine codeAny_exc_new_subT F T hC ?_ hrest
 show wpAny _ _ _ _ _ _
 have hC₁:=Heap.get?_push_of_some {cls:= .ref C,data:= .fields #[.ref h.objs.size,.none,.none,.none,.bool false,.none]}
   (Heap.get?_push_of_some {cls:= .type "tuple",data:= .seq rest.toArray} hC)
 have hfI₁:=Heap.get?_push_of_some {cls:= .ref C,data:= .fields #[.ref h.objs.size,.none,.none,.none,.bool false,.none]}
   (Heap.get?_push_of_some {cls:= .type "tuple",data:= .seq rest.toArray} hfI)
 have hn₁:((h.push {cls:= .type "tuple",data:= .seq rest.toArray}).push {cls:= .ref C,data:= .fields #[.ref h.objs.size,.none,.none,.none,.bool false,.none]}).Ns N mN:=
   let⟨o,es,ep,e,r⟩:=hn;⟨o,es,ep,Heap.get?_push_of_some _ (Heap.get?_push_of_some _ e),r⟩
 have hget:((h.push {cls:= .type "tuple",data:= .seq rest.toArray}).push
     {cls:= .ref C,data:= .fields #[.ref h.objs.size,.none,.none,.none,.bool false,.none]}).get? (h.objs.size+1)=some
     {cls:= .ref C,data:= .fields #[.ref h.objs.size,.none,.none,.none,.bool false,.none]}:=by heap_get
 have hcC:(Value.ref C::bm).contains (.ref C)=true:=by simp
 have T₁:=T.keeps (h':=(h.push {cls:= .type "tuple",data:= .seq rest.toArray}).push {cls:= .ref C,data:= .fields #[.ref h.objs.size,.none,.none,.none,.bool false,.none]})
   fun b o e=>Heap.get?_push_of_some _ (Heap.get?_push_of_some _ e)
 unfold isInstance
 repeat (first|with_reducible refine wpAny_loadPart_at hget ?_|(with_reducible refine wpAny_isSubtype_exc hC₁ ?_;rw[hcC])|wp_step)
 show wpAny _ _ (typeLookup (.ref C) _) _ _ _
 refine wpAny_typeLookup_tail hC₁ hn₁ T₁ F.mroIs F.init.lookup ?_
 rw[hi]
 refine wpAny_holding (wpAny_bind ?_)
 unfold bindSpecial
 refine wpAny_bind (wpAny_typeOf (T:="function") ⟨_,hfI₁,hfc⟩ ?_)
 rw[if_pos (by decide)]
 refine wpAny_pure (wpAny_bind (wpAny_mono (hq _ (h.objs.size+1) ⟨fun b o hb=>Heap.get?_push_of_some _ (Heap.get?_push_of_some _ hb),Heap.get?_none_of_le (Nat.le_succ _),h.objs.size,hget,Heap.get?_none_of_le (Nat.le_refl _),?_⟩) (fun r s' hr=>?_) fun _ _ x=>x))
 . exact Heap.get?_push_of_some _ (Heap.get?_push_at rfl rfl)
 . obtain⟨rfl,hQ⟩:=hr
   wp_walk
   exact hQ
theorem C4r(F:ExcBaseFacts B newId initId bmB)(T:OwnTail h bmB bm){mN:Str ->Option Value}{rest:List Value}{fI:Addr}{oI:Obj}{Q:Value ->Shared ->Prop}
   (hC:h.get? C=some (excClassObj nm q C N bs bm hdct sn sub ab col dd k0 k1 k2 k3 k5 newId)) (hn:h.Ns N mN) (hi:mN "__init__"=some (.ref fI))
   (hfI:h.get? fI=some oI) (hfc:oI.cls= .type "function")
   (hq:∀h' e,Heap.MadeExcOf h h' e (.ref C) rest ->
     wpAny (model prog w) (A.under (.builtin "type.__call__" ⟨.ref C::rest,[]⟩)) (call (.ref fI) (.ref e::rest)) (fun r s'=>r= .none/\Q (.ref e) s') E ⟨h',g,d,t,os⟩) (hrest:rest.length<=sizeLine):
   wpAny (model prog w) A (call (.ref C) rest) Q E ⟨h,g,d,t,os⟩:=by
 have f1:=tc_lookup
 have f2:=tc_bind (.ref C)
 have hT:(⟨h,g,d,t,os⟩:Shared).TypeIs (.ref C) "type":=⟨_,hC,rfl⟩
 refine wpAny_call (codeAny_of_tree ?_)
 show wpAny _ _ (callAny (.ref C) _) _ _ _
 repeat (any_goals (first|assumption|with_reducible refine wpAny_loadPart_at hC ?_|wp_step))
 refine⟨rfl,?_⟩
 refine codeAny_call_builtin_at (Code.quiet_builtin _ (by decide+kernel)) entry_typeCall (wpAny_check_type_call_sub hC (B4j (hrest:=hrest) F T hC hn hi hfI hfc fun h' e hm=>?_))
 exact hq h' e hm
end
section
variable{M:Model}{prog:Program}{w:World}{A:Around}{E:Value ->Shared ->Prop}{s:Shared}{env:Env}
variable{nm q:Str}{C N:Addr}{bs bm bmB:List Value}{hdct:Bool}{sn:List Str}{sub:List Value}{ab:Bool}{col:Option Bool}{dd:Option Addr}{k0 k1 k2 k3 k5:Option Value}{B newId initId:String}
theorem B0d{x:Sem Value}{Q:Flow ->Shared ->Prop}(hbase:bm.contains (.type "BaseException")=true)(hh:A.handled=none)
   (h:wpAny M A x (fun v s₁=>∃e t de,v= .ref e/\s₁.heap.get? C=some (excClassObj nm q C N bs bm hdct sn sub ab col dd k0 k1 k2 k3 k5 newId)/\
     s₁.heap.get? e=some {cls:= .ref C,dict:=de,data:= .fields #[.ref t,.none,.none,.none,.bool false,.none]}/\E (.ref e) s₁) E s):
   wpAny M A (raiseStmt env (some x) none) Q E s:=by
 have hcB:(Value.ref C::bm).contains (.type "BaseException")=true:=by rw[List.contains_cons,hbase,Bool.or_true]
 unfold raiseStmt
 refine wpAny_bind (wpAny_mono h (fun v s₁ h₁=>?_) fun _ _ x=>x)
 obtain⟨e,t,de,rfl,hC,he,hE⟩:=h₁
 obtain⟨hp,g,d,tk,os⟩:=s₁
 repeat (first|with_reducible refine wpAny_loadPart_at he ?_|with_reducible refine wpAny_loadPart_at hC ?_|(with_reducible refine wpAny_isSubtype_exc hC ?_;rw[hcB])|wp_step)
 exact wpAny_raiseNew_none hh hE
theorem B7w(F:ExcBaseFacts B newId initId bmB){mN:Str ->Option Value}{x:Str}{np cpos pos:Pos}{args:List Expr}{Q:Flow ->Shared ->Prop}{fI:Addr}{oI:Obj}
   (hbase:bm.contains (.type "BaseException")=true) (hh:A.handled=none) (hplain:(backTo cpos (starEach args env)).any (·.1)=false) (hi:mN "__init__"=some (.ref fI)) (hfc:oI.cls= .type "function")
   (h:wpAny (model prog w) A (eval (.Name x np) env) (fun f s₁=>f= .ref C/\wpAny (model prog w) A (evalArgs (.ref C) true (backTo cpos (starEach args env)) [])
     (fun a s₂=>a.kw=[]/\a.pos.length<=sizeLine/\s₂.heap.get? C=some (excClassObj nm q C N bs bm hdct sn sub ab col dd k0 k1 k2 k3 k5 newId)/\s₂.heap.Ns N mN/\OwnTail s₂.heap bmB bm/\s₂.heap.get? fI=some oI/\
       ∀ h' e,Heap.MadeExcOf s₂.heap h' e (.ref C) a.pos ->wpAny (model prog w) (A.under (.builtin "type.__call__" ⟨.ref C::a.pos,[]⟩)) (call (.ref fI) (.ref e::a.pos))
         (fun r s₃=>r= .none/\s₃.heap.get? C=some (excClassObj nm q C N bs bm hdct sn sub ab col dd k0 k1 k2 k3 k5 newId)/\(∃t de,s₃.heap.get? e=some {cls:= .ref C,dict:=de,data:= .fields #[.ref t,.none,.none,.none,.bool false,.none]})/\E (.ref e) s₃) E {s₂ with heap:=h'}) E s₁) E s):
   wpAny (model prog w) A (exec (.Raise (some (.Call (.Name x np) args [] cpos)) none pos) env) Q E s:=by
 rw[arm_exec_Raise]
 first
   |refine wpAny_bind (wpAny_standAt (B0d (C:=C) (nm:=nm) (q:=q) (N:=N) (bs:=bs) (bm:=bm) (hdct:=hdct) (sn:=sn) (sub:=sub) (ab:=ab) (col:=col) (dd:=dd) (k0:=k0) (k1:=k1) (k2:=k2) (k3:=k3) (k5:=k5) (newId:=newId) hbase hh (wpAny_bind (wpAny_mono (wpAny_Call_ofName (wpAny_mono h (fun f s₁ h₁=>?_) fun _ _ x=>x)) (fun v s₃ h₃=>wpAny_bind (wpAny_standAt (wpAny_pure h₃))) fun _ _ x=>x))))
   |(simp only[evalOpt,Option.map];refine wpAny_bind (wpAny_standAt (B0d (C:=C) (nm:=nm) (q:=q) (N:=N) (bs:=bs) (bm:=bm) (hdct:=hdct) (sn:=sn) (sub:=sub) (ab:=ab) (col:=col) (dd:=dd) (k0:=k0) (k1:=k1) (k2:=k2) (k3:=k3) (k5:=k5) (newId:=newId) hbase hh (wpAny_bind (wpAny_mono (wpAny_Call_ofName (wpAny_mono h (fun f s₁ h₁=>?_) fun _ _ x=>x)) (fun v s₃ h₃=>wpAny_bind (wpAny_standAt (wpAny_pure h₃))) fun _ _ x=>x)))))
 obtain⟨rfl,h₁⟩:=h₁
 unfold callWith
 refine wpAny_bind (wpAny_holding (wpAny_mono h₁ (fun a s₂ h₂=>wpAny_bind (wpAny_standAt ?_)) fun _ _ x=>x))
 obtain⟨apos,akw⟩:=a
 obtain⟨hkw,hlen,hC,hn,T,hf,h₂⟩:=h₂
 obtain rfl:akw=[]:=hkw
 obtain⟨hp,g,d,tk,os⟩:=s₂
 simp only[hplain]
 refine wpAny_bind (wpAny_keeperOf_exc hC ?_)
 refine wpAny_bind (C4r F T hC hn hi hf hfc (fun h' e hm=>wpAny_mono (h₂ h' e hm) (fun r s₃ z=>⟨z.1,wpAny_bind (wpAny_holding (wpAny_point (wpAny_pure ?_)))⟩) fun _ _ x=>x) hlen)
 obtain⟨_,hC3,⟨t,de,he⟩,hE⟩:=z
 exact⟨e,t,de,rfl,hC3,he,hE⟩
end
end L2
namespace L2
open PySem PySem.Spec PyProof.Rows PySem.W
noncomputable abbrev U1x:List Value:=[.type "ValueError",.type "Exception",.type "BaseException",.type "object"]
structure ExcI(K:Frag)(C fI:Addr):Prop where
 cls:∃nm q N bs bm sn sub ab col dd k0 k1 k2 k3 k5,K.lookup C=some (excClassObj nm q C N bs bm true sn sub ab col dd k0 k1 k2 k3 k5 "ValueError.__new__")/\nsOkIn K N=true/\nsIn K N "__init__"=some (some (.ref fI))/\tailIn K U1x bm=true
 fn:∃o,K.lookup fI=some o/\o.cls= .type "function"
 sa:findIn K (.ref C) "__setattr__"=some (some (.builtin "object.__setattr__"))
 ob:mroIn K C (.type "object")=some true
theorem G9y{K:Frag}{h:Heap}{N:Addr}{mg:Str ->Option Value}{n:Str}{v:Value}(X:K.In h)(G:h.Ns N mg)(e:nsIn K N n=some (some v)):mg n=some v:=by
 obtain⟨o,es,ep,ho,hd,_,hf⟩:=G
 unfold nsIn at e
 split at e
 . rename_i c d es' n' sl q
   have:=X _ _ q
   rw[ho] at this
   cases this
   cases hd
   split at e
   . rename_i en he
     cases e
     rw[<-hf]
     unfold nsFind findBy
     rw[<-Array.find?_toList,he]
     rfl
   . split at e<;>cases e
 . cases e
theorem C2e{h:Heap}(self:Value):∀{l:List Value},OwnTail h U1x l ->refuseLoop self "__setattr__" l=pure ()
 |_,.base=>PySem.F.store_ValueError.passes self
 |_,.own _ _ _ t=>by rw[refuseLoop_ref];exact C2e self t
section
variable{prog:Program}{w:World}{A:Around}{s:Shared}{K:Frag}{C e fI:Addr}{t:Addr}{R:Result ->Shared ->Prop}{name:Str}{tk:Tok}{v:Value}
theorem Y7e(X:K.In s.heap)(F:ExcI K C fI)(he:s.heap.get? e=some (A0p (.ref C) t none .none))(ht:findIn K (.ref C) name=some none)
   (h:∀h' tk' d,(∀b ob,b≠e ->s.heap.get? b=some ob ->h'.get? b=some ob) ->h'.get? e=some (A0p (.ref C) t (some d) .none) ->h'.Ns1 d (fun y=>if y=name then some v else none) ->s.heap.get? d=none ->d≠e ->
     R (.ok (.ret .none)) {s with heap:=h',toks:=tk'}):
   codeAny (model prog w) A (.call (.builtin "object.__setattr__") ⟨[.ref e,.str name tk,v],[]⟩) R s:=by
 have SF:=PySem.F.store_object
 obtain⟨nm,q,N,bs,bm,sn,sub,ab,col,dd,k0,k1,k2,k3,k5,lC,nO,nI,tl⟩:=F.cls
 have hC:=X _ _ lC
 have I:PySem.W.InstAt s.heap e (A0p (.ref C) t none .none) C none:=⟨he,rfl,rfl,trivial⟩
 have hc:clsIn K C=some {name:=nm,bases:=bs,mro:= .ref C::bm,ns:=N,qualname:=q,hasDict:=true,slotNames:=sn,subclasses:=sub,abstract:=ab,collection:=col,hasDel:=false}:=by
   unfold clsIn
   rw[lC]
 have sub':Looks (model prog w) s.heap (isInstance (.ref e) (.type "object")) true:=I.type.andThen (looks_mroIn X F.ob)
 refine codeAny_call_builtin SF.slot.plain SF.entry (@check_slot (model prog w) _ _ s "object.__setattr__" "object" "__setattr__" (.ref e) [.str name tk,v] [] _ SF.kind SF.split sub' (SF.args (.ref e) (.str name tk) v) ?_)
 have hm:Looks (model prog w) s.heap (mroOf (.ref C)) (.ref C::bm):=(looks_clsIn X hc).andThen .now
 have L3:Looks (model prog w) s.heap (Builtin.ObjectAttr.storeTaker? none) none:= .now
 rw[osa_eq,refuse_eq]
 refine wpAny_bind (wpAny_bind (I.type.here (wpAny_bind (hm.here ?_))))
 rw[refuseLoop_ref,C2e _ (tail_of_in X tl)]
 refine wpAny_pure (wpAny_bind (I.type.here (wpAny_bind ((looks_findIn X ht).here (wpAny_bind (L3.here ?_))))))
 dsimp only
 refine wpAny_bind (wpAny_pure (wpAny_bind (wpAny_bind (wpAny_loadPart he (wpAny_bind (PySem.W.Looks.here (PySem.W.looks_clsIn X hc) ?_))))))
 have hx₁:(s.heap.push {cls:= .type "dict",data:= .dict #[]}).get? e=some (A0p (.ref C) t none .none):=Heap.get?_push_of_some _ he
 have hxs:e≠s.heap.objs.size:=Nat.ne_of_lt (Heap.lt_size he)
 show wpAny (model prog w) A.in1 (do
     let d<-alloc {cls:=Value.type "dict",data:=Data.dict #[]}
     update e fun o=>{cls:=o.cls,dict:=some d,data:=o.data,slots:=o.slots}
     pure (some d)) _ _ _
 refine wpAny_bind (wpAny_alloc' ?_)
 refine wpAny_bind (wpAny_update' hx₁ ?_)
 refine wpAny_pure ?_
 have hgd:((s.heap.push {cls:= .type "dict",data:= .dict #[]}).update e fun o=>{cls:=o.cls,dict:=some s.heap.objs.size,data:=o.data,slots:=o.slots}).get? s.heap.objs.size
     =some {cls:= .type "dict",data:= .dict #[]}:=
   (Heap.get?_update_ne _ _ _ _ hxs.symm).trans (Heap.get?_push_at rfl rfl)
 have hnd:((s.heap.push {cls:= .type "dict",data:= .dict #[]}).update e fun o=>{cls:=o.cls,dict:=some s.heap.objs.size,data:=o.data,slots:=o.slots}).Ns s.heap.objs.size (fun _=>none):=
   ⟨_, #[],_,hgd,rfl,fun e he=>absurd he (by simp),fun _=>rfl⟩
 show wpAny _ _ (Builtin.ObjectAttr.storeInDict s.heap.objs.size (.str name tk) name v) _ _ _
 unfold Builtin.ObjectAttr.storeInDict Builtin.ObjectAttr.newKeyGuard
 refine wpAny_bind (wpAny_pure (wpAny_bind (wpAny_nsSet1 (Heap.Ns1.of_empty hnd) fun h' hn' hs=>?_)))
 obtain⟨oD,esD,epD,hoD,hdD,hcD⟩:=hn'.count (Within.cons name v Within.nil)
 refine wpAny_bind (wpAny_lookBehind hoD (by rw[hdD];exact pastItsLine_dict (Nat.le_trans hcD (by rw[List.length_cons,List.length_nil,sizeLine_eq];omega))) ?_)
 have hx':h'.get? e=some (A0p (.ref C) t (some s.heap.objs.size) .none):=(hs.2 e hxs).trans (Heap.get?_update_self _ hx₁ rfl)
 refine wpAny_pure (h h' _ s.heap.objs.size (fun b ob hbx hb=>?_) hx' hn' (Heap.get?_none_of_le (Nat.le_refl _)) hxs.symm)
 exact(hs.2 b (Nat.ne_of_lt (Heap.lt_size hb))).trans ((Heap.get?_update_ne _ _ _ _ hbx).trans (Heap.get?_push_of_some _ hb))
end
noncomputable def A4s (e C t:Addr) (d:Option Addr):Heap ->Prop:=fun h=>h.get? e=some (A0p (.ref C) t d .none)
theorem V0y{P:Program}{w:World}{H:Hp}{h:Heap}{e C t:Addr}{d:Option Addr}(q:h.get? e=some (A0p (.ref C) t d .none)):ObjOk P w H h e (.ext (A4s e C t d)):=
 ⟨q,⟨_,q⟩,fun _ _ z k=>k _ z⟩
section
variable{X:Cx}{pins:List (Addr×Obj)}{σ:St}{H:Hp}{s:Shared}
theorem Inv.trackO{a:Addr}{ho:HO}(I:Inv X pins σ H s)(n:Nw X pins H a)(ok:ObjOk X.prog X.w (upd H a ho) s.heap a ho):Inv X pins σ (upd H a ho) s:=by
 have ne:∀b u,H b=some u ->b≠a:=fun b u z q=>by rw[q,n.un] at z;cases z
 have up:∀b,b≠a ->upd H a ho b=H b:=fun b hb=>D4 hb
 refine⟨I.ok,I.os,I.bare,⟨I.base.keep,I.base.slot,fun b u z m hx=>?_,I.base.there,fun b xs z=>?_,fun b u v z=>?_,fun b ps z=>?_⟩,I.loc,I.cell,?_,fun x c z=>?_,fun p hp=>?_,fun b u z=>?_,I.len⟩
 . rw[up b fun q=>by rw[q,n.old] at z;cases z]
   exact I.base.free b u z m hx
 . have:=I.base.tups b xs z
   rw[up b (ne b _ this)];exact this
 . have:=I.base.frzs b u v z
   rw[up b (ne b _ this)];exact this
 . obtain⟨more,this⟩:=I.base.tbls b ps z
   exact⟨more,by rw[up b (ne b _ this)];exact this⟩
 . rw[up _ (Ne.symm n.loc)];exact I.free
 . rw[up _ (n.cell x c z)];exact I.freeC x c z
 . obtain⟨q1,q2,q3⟩:=I.pin p hp
   exact⟨q1,by rw[up _ (n.pin p hp)];exact q2,q3⟩
 . by_cases hb:b=a
   . subst hb
     rw[B5] at z
     cases z
     exact ok
   . rw[up b hb] at z
     exact(I.hok b u z).stay (fun _ _ _ q=>q) (fun c q=>by rw[up c (ne c _ q)];exact q) (fun c xs q=>by rw[up c (ne c _ q)];exact q)
noncomputable def rem (H:Hp) (a:Addr):Hp:=fun b=>if b=a then none else H b
theorem C4d{a:Addr}:rem H a a=none:=by unfold rem;rw[if_pos rfl]
theorem A6t{a b:Addr}(h:b≠a):rem H a b=H b:=by unfold rem;rw[if_neg h]
theorem Inv.forget{a:Addr}{φ:Heap ->Prop}(I:Inv X pins σ H s)(e:H a=some (.ext φ)):Inv X pins σ (rem H a) s:=by
 have ne:∀b u,H b=some u ->(∀φ,u≠ .ext φ) ->b≠a:=fun b u z q w=>by rw[w,e] at z;cases z;exact q _ rfl
 have non:∀b,H b=none ->rem H a b=none:=fun b z=>by
   by_cases q:b=a
   . rw[q];exact C4d
   . rw[A6t q];exact z
 refine⟨I.ok,I.os,I.bare,⟨I.base.keep,I.base.slot,fun b u z m hx=>non b (I.base.free b u z m hx),I.base.there,fun b xs z=>?_,fun b u v z=>?_,fun b ps z=>?_⟩,I.loc,I.cell,non _ I.free,fun x c z=>non _ (I.freeC x c z),fun p hp=>?_,fun b u z=>?_,I.len⟩
 . have:=I.base.tups b xs z
   rw[A6t (ne b _ this (fun _ q=>nomatch q))];exact this
 . have:=I.base.frzs b u v z
   rw[A6t (ne b _ this (fun _ q=>nomatch q))];exact this
 . obtain⟨more,this⟩:=I.base.tbls b ps z
   exact⟨more,by rw[A6t (ne b _ this (fun _ q=>nomatch q))];exact this⟩
 . obtain⟨q1,q2,q3⟩:=I.pin p hp
   exact⟨q1,non _ q2,q3⟩
 . have hb:b≠a:=fun q=>by rw[q,C4d] at z;cases z
   rw[A6t hb] at z
   exact(I.hok b u z).stay (fun _ _ _ q=>q) (fun c q=>by rw[A6t (ne c _ q (fun _ w=>nomatch w))];exact q) (fun c xs q=>by rw[A6t (ne c _ q (fun _ w=>nomatch w))];exact q)
end
noncomputable def A0aq (C:Addr) (ta tv:TE) (f:Str):TS:=fun D σ H=>tv σ H fun y H1=>ta σ H1 fun x H2=>∃e t,x= .ref e/\H2 e=some (.ext (A4s e C t none))/\
 ∀d,H2 d=none ->d≠e ->D.nx σ (upd (upd H2 e (.ext (A4s e C t (some d)))) d (.xd [(f,y)]))
section
variable{X:Cx}{o value:Expr}{f:Str}{pos pos':Pos}{ta tv:TE}{C fI:Addr}
theorem Y7s(F:ExcI X.K C fI)(hf:findIn X.K (.ref C) f=some none)(ha:PE X o ta)(hv:PE X value tv)(hs:swapsWith value (some (.Attribute o f pos')) pos.line X.env=pure false)(hex:X.ex=[]:=by rfl):
   PS X (.Assign [.Attribute o f pos'] value pos) (A0aq C ta tv f):=by
 intro pins s σ H D I h
 refine plainObj_wpAny_Assign_Attribute (thn (hv pins s σ H _ I h) fun u s1 ⟨y,H1,I1,ry,q⟩=>thn (ha pins s1 σ H1 _ I1 q) fun ov s2 hh_=>?_) hs
 obtain⟨x,H2,I2,rx,e,t,ex,ea,q2⟩:=hh_
 subst ex
 obtain rfl:ov=Value.ref e:=rx
 have he:s2.heap.get? e=some (A0p (.ref C) t none .none):=(I2.hok e _ ea).1
 refine set_plain I2.kIn (⟨he,rfl,rfl,trivial⟩:PySem.W.InstAt s2.heap e (A0p (.ref C) t none .none) C none) F.sa (Y7e (s:={s2 with toks:=s2.toks+1}) I2.kIn F he hf fun h' tk' d k1 k2 k3 k4 k5=>?_)
 have nd:H2 d=none:=I2.hok.new k4
 have I3:Inv X pins σ (upd H2 e (.ext (A4s e C t (some d)))) {s2 with heap:=h',toks:=tk'}:=
   I2.write (x:=e) (e:=e) (by rw[ea];exact trivial) (.inl rfl) (fun b u hb z=>k1 b u hb z) ⟨_,k2⟩ (V0y k2)
 have nw:Nw X pins (upd H2 e (.ext (A4s e C t (some d)))) d:=I2.nw hex k4 (by rw[D4 k5];exact nd)
 refine⟨σ,_,I3.trackO (ho:= .xd [(f,y)]) nw ⟨_,k3,fun g=>?_⟩,q2 d nd k5⟩
 show RelO (List.lookup g [(f,y)]) (if g=f then some u else none)
 by_cases z:g=f
 . rw[if_pos z,z]
   have:List.lookup f [(f,y)]=some y:=by simp[List.lookup]
   rw[this];exact ry
 . rw[if_neg z]
   have:List.lookup g [(f,y)]=none:=by
     have hb:(g==f)=false:=beq_eq_false_iff_ne.mpr z
     simp[List.lookup,hb]
   rw[this];exact trivial
end
noncomputable def D4h (C:Addr) (f:Str):Sp:=fun vs H Q _=>∃e t v,vs=[.ref e,v]/\H e=some (.ext (A4s e C t none))/\∀d,H d=none ->d≠e ->Q .non (upd (upd H e (.ext (A4s e C t (some d)))) d (.xd [(f,v)]))
noncomputable def Y6v (C:Addr) (f:Str) (EH:EK) (t:TA):TS:=fun _ σ H=>t σ H fun vs H1=>∃v,vs=[v]/\∀d H2,Same H1 H2 ->H1 d=none ->H2 d=some (.xd [(f,v)]) ->EH (.ref C) (some d) σ H2
section
variable{X:Cx}{x f:Str}{p cpos pos:Pos}{e:Expr}{t:TA}{C fI:Addr}{fdI:FuncData}{ps:List Str}{EH:EK}{j k:Nat}
theorem U3z(hm:X.mg x=some (.ref C))(F:ExcI X.K C fI)(G:FnOk X.prog X.w X.K X.mg X.base CX0 j fI fdI ps (D4h C f))(bI:Binds X.K fdI ps [])(hr:Room k X.A)(hx:G5 X EH)(ha:PA X [e] t)(hj:j+1<=k:=by decide)(hg:Gl X x:=by rfl)(hex:X.ex=[]:=by rfl)
   (hdb:(x==("__debug__":Str))=false:=by decide) (he:starEach [e] X.env=(false,eval e X.env)::starEach [] X.env:=by rfl) (hpl:(backTo cpos (starEach [] X.env)).any (·.1)=false:=by rfl):
   PS X (.Raise (some (.Call (.Name x p) [e] [] cpos)) none pos) (Y6v C f EH t):=by
 intro pins s σ H D I h
 obtain⟨nm,q,N,bs,bm,sn,sub,ab,col,dd,k0,k1,k2,k3,k5,lC,nO,nI,tl⟩:=F.cls
 obtain⟨oI,lI,cI⟩:=F.fn
 have T0:OwnTail X.base U1x bm:=tail_of_in I.ok.mod.kin tl
 have hN0:X.base.Ns N (X.base.nsMap N):= .of_isNs (isNs_of_in I.ok.mod.kin nO)
 have hi0:X.base.nsMap N "__init__"=some (.ref fI):=G9y I.ok.mod.kin hN0 nI
 refine B7w (C:=C) (nm:=nm) (q:=q) (N:=N) (bs:=bs) (bm:=bm) (hdct:=true) (sn:=sn) (sub:=sub) (ab:=ab) (col:=col) (dd:=dd) (k0:=k0) (k1:=k1) (k2:=k2) (k3:=k3) (k5:=k5) (oI:=oI) PySem.F.excBase_ValueError (mN:=X.base.nsMap N) (T0.hasType PySem.F.excBase_ValueError.hasBase) hr.hd
   (by rw[he];show(false||(backTo cpos (starEach [] X.env)).any (·.1))=false;rw[hpl];rfl) hi0 cI (A1t I hg hm ⟨rfl,?_⟩ hdb)
 have ha':=ha cpos pins s σ H _ I h
 rw[he] at ha' ⊢
 refine Calls.evalArgs_plain (wpAny_mono ha' (fun us s2 hh_=>?_) fun _ _ y=>y)
 obtain⟨vs,H1,I1,r,v,ev,z⟩:=hh_
 subst ev
 obtain⟨u,rfl,ru⟩:=r.one
 refine⟨rfl,D8 (by show 1<=1000;decide),I1.kIn _ _ lC,hN0.keeps I1.bk,T0.keeps I1.bk,I1.kIn _ _ lI,fun h' a m=>?_⟩
 obtain⟨t',e1,tn,e2⟩:=m.there
 have I2:Inv X pins σ H1 {s2 with heap:=h'}:=I1.kept (t':=s2.toks) m.keeps
 have na:H1 a=none:=I1.hok.new m.new
 have I3:=I2.trackO (ho:= .ext (A4s a C t' none)) (I1.nw hex m.new na) (V0y e1)
 have sp0:D4h C f [.ref a,v] (upd H1 a (.ext (A4s a C t' none))) (fun v0 H'=>v0= .non/\∃d,H1 d=none/\d≠a/\H'=upd (upd (upd H1 a (.ext (A4s a C t' none))) a (.ext (A4s a C t' (some d)))) d (.xd [(f,v)])) E0:=
   ⟨a,t',v,rfl,B5,fun d nd nda=>⟨rfl,d,by rw[D4 nda] at nd;exact nd,nda,rfl⟩⟩
 have rr:Vals [.ref a,v] [.ref a,u]:= .cons rfl (.cons ru .nil)
 have hl:([Value.ref a,u]++ []).length=ps.length:=by
   have:=G.len _ _ _ _ sp0
   rw[<-this];rfl
 refine wpAny_call (codeAny_mono (G.run _ X.stack _ _ ⟨[.ref a,u],[]⟩ ([.ref a,u]++ []) [.ref a,v] _ E0 ((hr.mono hj).make C [u] []) (I3.env0.make C [u] []) (bI _ [.ref a,u] I3.kIn hl) rr sp0) fun r s' hq=>?_)
 cases r with
 |error e=>exact hq.elim
 | ok fl=>
   cases fl with
   | ret u0=>
     obtain⟨v0,H',I4,rv,ev,d,nd,nda,eH⟩:=I3.after hq
     subst ev eH
     have ea:(upd (upd (upd H1 a (.ext (A4s a C t' none))) a (.ext (A4s a C t' (some d)))) d (.xd [(f,v)])) a=some (.ext (A4s a C t' (some d))):=by
       rw[D4 (Ne.symm nda),B5]
     have g1:s'.heap.get? a=some (A0p (.ref C) t' (some d) .none):=(I4.hok a _ ea).1
     refine⟨rv,I4.kIn _ _ lC,⟨t',some d,g1⟩,?_⟩
     refine hx pins σ _ s' a t' (.ref C) (some d) (I4.forget ea) ⟨I1.nw hex m.new C4d,.none,g1,.inl rfl,fun T z=>nomatch z⟩ (z d _ (fun b ob q=>?_) nd ?_)
     . have nb:b≠a:=G6 q na
       have nbd:b≠d:=G6 q nd
       rw[A6t nb,D4 nbd,D4 nb,D4 nb]
       exact q
     . rw[A6t nda,B5]
   |next=>exact hq.elim
   |brk=>exact hq.elim
   |cont=>exact hq.elim
end
section
variable{X:Cx}{e:Expr}{f:Str}{pos:Pos}{ta:TE}
end
noncomputable def B0a (z:Str) (n:Int):Str:=if n<1 then Str.empty else if(n==1||z.length==0)=true then z else⟨(List.replicate n.toNat z.cps).foldl (· ++ ·) #[]⟩
noncomputable def Z5m:R2:=fun x y H Q=>∃z n,x= .str z/\y= .int n/\ -(2^63)<=n/\n<2^63/\z.length*n.toNat<=sizeLine/\Q (.str (B0a z n)) H
theorem D2m(z:Array Nat):∀(k:Nat) (acc:Array Nat),((List.replicate k z).foldl (· ++ ·) acc).toList=acc.toList++(List.replicate k z.toList).flatten
 |0,acc=>by simp
 | k+1,acc=>by
   rw[List.replicate_succ,List.foldl_cons,D2m z k,Array.toList_append,List.replicate_succ,List.flatten_cons,List.append_assoc]
theorem A1v(z:Str):z.cps.toList.length=z.length:=Array.length_toList
theorem C2c(z:Str)(n:Int):(B0a z n).cps.toList=(List.replicate n.toNat z.cps.toList).flatten:=by
 unfold B0a
 split
 . have:n.toNat=0:=by omega
   rw[this];rfl
 . split
   . rename_i h1 h2
     rcases Bool.or_eq_true _ _|>.mp h2 with h|h
     . have:n=1:=by simpa using h
       subst this
       simp
     . have e:z.length=0:=by simpa using h
       have e2:z.cps.toList=[]:=List.eq_nil_of_length_eq_zero (by rw[A1v];exact e)
       rw[e2]
       have:∀k:Nat,(List.replicate k ([]:List Nat)).flatten=[]:=fun k=>by simp
       rw[this]
   . show((List.replicate n.toNat z.cps).foldl (· ++ ·) #[]).toList=_
     rw[D2m]
     rfl
theorem C3z(z:Str)(n:Int):(B0a z n).length=n.toNat*z.length:=by
 rw[<-A1v,C2c,Y6x,A1v]
section
variable{X:Cx}
theorem J0j:OpR X (binaryOp .Mult) Z5m:=by
 intro pins s σ H x y v u Q I rx ry h
 obtain⟨z,n,rfl,rfl,h1,h2,hz,q⟩:=h
 obtain⟨t,rfl⟩:=rx
 obtain⟨t',rfl⟩:=ry
 have lo:¬n< -(2^63:Int):=by omega
 have hi:¬n>=(2^63:Int):=by omega
 have hl:=C3z z n
 have hs:(B0a z n).length<=sizeLine:=by rw[hl,Nat.mul_comm];exact hz
 refine PySem.P.mul_str (by rw[decide_eq_false lo,decide_eq_false hi];rfl) (fun n1 n2=>?_) (fun n1 n2=>Y7c hz) ?_
 . intro g
   have p:0<n:=by omega
   have e:((z.length*n.toNat:Nat):Int)=(z.length:Int)*n:=by rw[Int.natCast_mul,Int.toNat_of_nonneg (by omega)]
   have c:((z.length*n.toNat:Nat):Int)<=(sizeLine:Nat):=Int.ofNat_le.mpr hz
   have k:(sizeLine:Nat)<=2^63-1:=by decide
   have k':((sizeLine:Nat):Int)<=(2^63-1:Int):=by
     have:=Int.ofNat_le.mpr k
     exact this
   have:(z.length:Int)<=(2^63-1)/n:=(Int.le_ediv_iff_mul_le p).mpr (by omega)
   omega
 . unfold B0a at q hs
   split
   . rw[if_pos (by assumption)] at q
     exact⟨by decide,.str _,H,I.tok _,⟨_,rfl⟩,q⟩
   . rw[if_neg (by assumption)] at q hs
     split
     . rw[if_pos (by assumption)] at q
       exact⟨.str _,H,I,⟨_,rfl⟩,q⟩
     . rw[if_neg (by assumption)] at q hs
       exact⟨hs,.str _,H,I.tok _,⟨_,rfl⟩,q⟩
theorem C8h:A2x X (.type "int") (fun xs H Q=>∃z n,xs=[.str z]/\PySem.intText? z=some n/\z.length<=640/\Q (.int n) H):=by
 intro pins s σ H xs us Q I r h
 obtain⟨z,n,rfl,h1,h2,q⟩:=h
 obtain⟨u,rfl,t,rfl⟩:=B6h r
 exact KIN.call_text h1 h2 ⟨.int n,H,I.tok _,⟨_,rfl⟩,q⟩
end
noncomputable def U5y (n:Nat):Str:=("1":Str)++B0a ("0":Str) (n:Int)
theorem U4e(n:Nat):(List.replicate n [48]).flatten=List.replicate n 48:=by
 induction n with
 |zero=>rfl
 |succ n ih=>rw[List.replicate_succ,List.flatten_cons,ih,List.replicate_succ];rfl
theorem B3q(n:Nat):(U5y n).cps.toList=49::List.replicate n 48:=by
 unfold U5y
 show(("1":Str).cps++(B0a ("0":Str) (n:Int)).cps).toList=_
 rw[Array.toList_append,C2c]
 have a:("1":Str).cps.toList=[49]:=by decide+kernel
 have b:("0":Str).cps.toList=[48]:=by decide+kernel
 rw[a,b]
 show [49]++(List.replicate n [48]).flatten=_
 rw[U4e]
 rfl
theorem G6p(n:Nat):(U5y n).length=n+1:=by
 rw[<-A1v,B3q]
 simp
theorem J1f(n:Nat):∀a:Nat,(List.replicate n 48).foldl (fun acc c=>acc*10+(c-48)) a=a*10^n:=by
 induction n with
 |zero=>intro a;simp
 | succ n ih=>
   intro a
   rw[List.replicate_succ,List.foldl_cons,ih,Nat.pow_succ]
   show(a*10+0)*10^n=_
   rw[Nat.add_zero,Nat.mul_assoc,Nat.mul_comm 10]
theorem V1m(n:Nat)(h:n<=600):PySem.intText? (U5y n)=some ((10^n:Nat):Int):=by
 have e:PySem.NumText.digitsVal (U5y n).cps.toList=10^n:=by
   rw[B3q]
   unfold PySem.NumText.digitsVal
   rw[List.foldl_cons,J1f]
   show(0*10+1)*10^n=_
   omega
 rw[<-e]
 refine PySem.intText_digits ?_ ?_ ?_
 . rw[B3q]
   intro c hc
   rcases List.mem_cons.mp hc with rfl|hc
   . exact⟨by decide,by decide⟩
   . obtain⟨_,rfl⟩:=List.mem_replicate.mp hc
     exact⟨by decide,by decide⟩
 . rw[B3q];exact fun z=>nomatch z
 . rw[G6p];omega
section
variable{X:Cx}
noncomputable def A0aw:V ->List V ->Hp ->VK ->Prop:=fun x vs H Q=>∃i,x= .int i/\vs=[]/\Q (.int ((Builtin.Int.intBits i:Nat):Int)) H
theorem C8d:MtR X "int.bit_length" A0aw:=by
 intro pins s σ H x xs v us Q I rx rs h
 obtain⟨i,rfl,rfl,q⟩:=h
 obtain⟨t,rfl⟩:=rx
 cases rs
 exact call_int_bit_length ⟨.int _,H,I.tok _,⟨_,rfl⟩,q⟩
end
section
variable{X:Cx}{a b:Expr}{rest:List Expr}{pos:Pos}{ta tb:TE}
end
section
variable{X:Cx}{j k:Nat}{f C:Addr}{fd:FuncData}{ps:List Str}{sp:Sp}{dvs:List V}{ds:List Value}{x m:Str}{p pos apos:Pos}{e o:Expr}{es:List Expr}{ta:TE}{t:TA}{st:Stmt}
end
section
variable{X:Cx}{N F:List Str}{js:List Nat}{scope:Scope}
theorem D2u{pins:List (Addr×Obj)}{σ:St}{H:Hp}{s:Shared}{fp:List Addr}{h':Heap}(S:CompScopeF N F js scope X.N X.env)(I:Inv X pins σ H s)(hf:∀b∈fp,A4g X pins H b)(hit:∀b∈fp,∃o,s.heap.get? b=some o)(hnb:∀b∈fp,X.base.get? b=none)
   (hns:h'.Ns s.heap.objs.size (fun _=>none)) (hsb:∀b o,s.heap.get? b=some o ->h'.get? b=some o) {tk:Nat}:
   Inv (X.compF scope N F s.heap.objs.size s H fp (X.pn++pins)) [] (List.replicate N.length none++A5g js σ) H {s with heap:=h',toks:=tk}:=by
 have ck:∀c v,s.heap.IsCell c v ->h'.IsCell c v:=fun c v ⟨o,e,d⟩=>⟨o,hsb _ _ e,d⟩
 have inF:∀x,((compEnvC scope (A2e F X.env) s.heap.objs.size X.env).kindOf x=some .cell\/(compEnvC scope (A2e F X.env) s.heap.objs.size X.env).kindOf x=some .free) ->x∈F:=by
   intro x z
   have z:(relabel scope X.env).names.lookup x=some .cell\/(relabel scope X.env).names.lookup x=some .free:=z
   rcases z with z|z
   . exact S.fr _ (PySem.mem_of_lookup z) (.inl rfl)
   . exact S.fr _ (PySem.mem_of_lookup z) (.inr rfl)
 refine⟨⟨I.ok.mod,S.kind,I.ok.glob,I.ok.blt,Nat.le_refl _,fun x y c z z'=>I.ok.inj x y c (S.sub x c z) (S.sub y c z'),fun x z=>?_,fun x c z _=>(nomatch z),I.ok.hd,I.ok.frames,.inl rfl,fun b hb=>?_,I.bs,Nat.le_trans I.ok.bsz I.sz,fun b o e hb=>?_,fun b hb hfs=>?_,I.stack,I.stkFree⟩,
   rfl,I.bare,Un.kept hsb,⟨_,hns,fun i x v e1 e2 e3=>B3w S I (fun x c v _ z=>ck c v z) i x v e1 e2⟩,fun x c z=>?_,I.hok.fresh (Nat.le_refl _),fun x c z=>I.freeC x c (S.sub x c z),fun p hp=>?_,I.hok.kept hsb,D3s S σ⟩
 . obtain⟨c,h1,_⟩:=S.has (inF x z)
   exact⟨c,h1⟩
 . obtain⟨oi,ei⟩:=hit b hb
   exact⟨Nat.ne_of_lt (Heap.lt_size ei),fun x c z=>(hf b hb).2.2.2.2.1 x c (S.sub x c z)⟩
 . rw[hnb b hb] at e
   cases e
 . rcases List.mem_cons.mp (I.stkSub b hfs) with z|z
   . exact(hf b hb).2.1 z
   . exact(hf b hb).2.2.1 z
 . obtain⟨v,z'⟩:=I.cell x c (S.sub x c z)
   exact⟨v,ck c v z'⟩
 . have hp':p∈X.pn++pins:=by simpa using hp
   obtain⟨q1,q2,q3,q4,q5⟩:=I.pin p hp'
   refine⟨hsb _ _ q1,q2,Nat.ne_of_lt (Heap.lt_size q1),fun z=>?_,q5⟩
   rcases List.mem_cons.mp (I.stkSub p.1 z) with z|z
   . exact q3 z
   . exact q4 z
theorem C4v{pins pl:List (Addr×Obj)}{σ σ':St}{H H':Hp}{s s':Shared}{fp:List Addr}(S:CompScopeF N F js scope X.N X.env)(I:Inv X pins σ H s)(hf:∀b∈fp,A4g X pins H b)(J:Inv (X.compF scope N F s.heap.objs.size s H fp (X.pn++pins)) pl σ' H' s'):
   Inv (X.compF scope N F s.heap.objs.size s H fp (X.pn++pins)) [] (List.replicate N.length none++A5g js σ) H' s':=by
 obtain⟨m,hn,_⟩:=J.loc
 refine⟨J.ok,J.os,J.bare,J.base,⟨m,hn,fun i x v e1 e2 e3=>B3w S I (fun x c v z q=>?_) i x v e1 e2⟩,J.cell,J.free,J.freeC,fun p hp=>J.pin p (by
   have hp:p∈(X.pn++pins)++ []:=hp
   rw[List.append_nil] at hp
   exact List.mem_append_left _ hp),J.hok,D3s S σ⟩
 obtain⟨o,e,d⟩:=q
 have ne:c ∉ fp:=fun w=>(hf c w).2.2.2.2.1 x c z rfl
 obtain⟨sl,q⟩:=J.base.any e (I.freeC x c z) ne
 exact⟨_,q,d⟩
theorem J0x{elt target iter c:Expr}{scope:Scope}{pos:Pos}{N F:List Str}{js:List Nat}{wi:TI}{g:TG}{tc:TT}{te:TE}(S:CompScopeF N F js scope X.N X.env)(hd:A0q X)(hc0:X.calm=true)(hi:PI X target iter wi)(hex:X.ex=[])
   (hg:∀C s₀ H₀ ex pn,A0q (X.compF scope N F C s₀ H₀ ex pn) ->PG (X.compF scope N F C s₀ H₀ ex pn) target g)
   (hc:∀C s₀ H₀ ex pn,A0q (X.compF scope N F C s₀ H₀ ex pn) ->PT (X.compF scope N F C s₀ H₀ ex pn) c tc)
   (he:∀C s₀ H₀ ex pn,A0q (X.compF scope N F C s₀ H₀ ex pn) ->PE (X.compF scope N F C s₀ H₀ ex pn) elt te)
   {pins:List (Addr×Obj)} {s:Shared} {σ:St} {H:Hp} {Q:VK} {RR:Value ->Env ->Result ->Shared ->Prop} (I:Inv X pins σ H s) (h:(J0h N.length js wi g tc te) σ H Q)
   (hRR:∀(D C:Addr) (s6:Shared) (H5:Hp) (mm:Str ->Option Value),Inv X pins σ H5 s6 ->s6.heap.Ns C mm ->A4g X pins H5 C ->Q (.ref D) H5 ->RR (.ref D) (compEnvC scope (A2e F X.env) C X.env) (.ok .next) s6):
   wpAny (model X.prog X.w) X.A (eval iter X.env) (fun v s1=>wpAny (model X.prog X.w) X.A (pyIter v) (fun itv s2=>wpAny (model X.prog X.w) X.A (newList []) (fun acc s3=>wpAny (model X.prog X.w) X.A (newFunctionEnv scope X.env.globals (A2e F X.env) [] X.env.qual none .none (some X.env)) (fun cenv s4=>
     codeAny (model X.prog X.w) X.A (.compStart (.ListComp elt [⟨target,iter,[c],0⟩] scope pos) 0 itv acc {cenv with scope:=relabel scope X.env}) (RR acc {cenv with scope:=relabel scope X.env}) s4) X.xe s3) X.xe s2) X.xe s1) X.xe s:=by
 refine thn (hi pins s σ H _ I h) fun v s1 h1=>thn h1 fun itv s2 h2=>?_
 obtain⟨it,fp,tn,J,H2,rfl,I2,T,st2,f2,R⟩:=h2
 have ob2:=T.obj _ _ st2
 have hf2:=I2.hok.fresh (Nat.le_refl _)
 refine wpAny_newObj_type ?_
 have I3:Inv X pins σ (upd H2 s2.heap.objs.size (.lst [])) {s2 with heap:=s2.heap.push {cls:= .type "list",dict:=none,data:= .seq ([]:List Value).toArray}}:=Inv.lnew (t':=s2.toks) I2 .nil (Nat.zero_le _)
 refine wpAny_newFunctionEnv S.cell (by intro y hy;simp at hy) (fun h4 hns hsb=>?_) S.kind
 dsimp only at hns hsb ⊢
 generalize hG:s2.heap.push {cls:= .type "list",dict:=none,data:= .seq ([]:List Value).toArray}=G at I3 hns hsb ⊢
 generalize hD:s2.heap.objs.size=D at I3 hf2
 have nD:∀b∈fp,b≠D:=fun b hb=>by
   obtain⟨o,eo,_⟩:=ob2 b hb
   rw[<-hD];exact Nat.ne_of_lt (Heap.lt_size eo)
 have eiG:∀b∈fp,∃o,G.get? b=some o:=fun b hb=>by
   obtain⟨o,eo,_⟩:=ob2 b hb
   exact⟨o,by rw[<-hG];exact Heap.get?_push_of_some _ eo⟩
 have kp:∀b o,G.get? b=some o ->h4.get? b=some o:=fun b o e=>hsb.extBut b o (Nat.ne_of_lt (Heap.lt_size e)) (Heap.get?_push_of_some _ e)
 have f3:∀b∈fp,A4g X pins (upd H2 D (.lst [])) b:=fun b hb=>⟨by rw[D4 (nD b hb)];exact(f2 b hb).1,(f2 b hb).2⟩
 have nb:∀b∈fp,X.base.get? b=none:=fun b hb=>by
   cases q:X.base.get? b with
   |none=>rfl
   | some o=>
     have:=(I.ok.bs b o q).1
     rcases(f2 b hb).2.2.2.1 with z|z
     . rw[hex] at z;simp at z
     . exact absurd (Nat.lt_of_lt_of_le (Heap.lt_size this) z) (Nat.lt_irrefl _)
 have hns':h4.Ns G.objs.size (fun _=>none):=by
   obtain⟨o,es,ep,q1,q2,q3,q4⟩:=hns
   exact⟨o,es,ep,q1,q2,q3,fun x=>by rw[q4];rfl⟩
 have I4:=D2u (tk:=s2.toks+([]:List (Str×Value)).length) S I3 f3 eiG nb hns' kp
 have hdc:A0q (X.compF scope N F G.objs.size {s2 with heap:=G} (upd H2 D (.lst [])) fp (X.pn++pins)):=by
   rcases hd with z|⟨x,o,u,vs,z,e,d,n⟩
   . exact .inl z
   . refine .inr ⟨x,o,u,vs,z,?_,d,n⟩
     have q:=I2.base.frzs x o u e
     show upd H2 D (.lst []) x=_
     rw[D4 fun w=>by rw[w,hf2] at q;cases q]
     exact q
 obtain⟨m,W,w0,turn⟩:=R D hf2
 have gg:=hg _ _ _ _ _ hdc
 have cc:=hc _ _ _ _ _ hdc
 have ee:=he _ _ _ _ _ hdc
 have fpc:∀{H':Hp} {σ':St} {s':Shared} {pl:List (Addr×Obj)},Inv (X.compF scope N F G.objs.size {s2 with heap:=G} (upd H2 D (.lst [])) fp (X.pn++pins)) pl σ' H' s' ->(∀b∈fp,H' b=none) ->(∀b∈fp,∀p∈pl,p.1≠b) ->∀b∈fp,A4g (X.compF scope N F G.objs.size {s2 with heap:=G} (upd H2 D (.lst [])) fp (X.pn++pins)) pl H' b:=by
   intro H' σ' s' pl J' hn hp b hb
   obtain⟨oi,ei⟩:=eiG b hb
   refine⟨hn b hb,Nat.ne_of_lt (Heap.lt_size ei),?_,.inl hb,(fun x c z=>(f2 b hb).2.2.2.2.1 x c (S.sub x c z)),fun p hpp=>?_⟩
   . intro z
     rcases List.mem_cons.mp (I.stkSub b z) with z|z
     . exact(f2 b hb).2.1 z
     . exact(f2 b hb).2.2.1 z
   . rcases List.mem_append.mp hpp with z|z
     . exact(f2 b hb).2.2.2.2.2 p z
     . exact hp b hb p z
 have loop:codeAny (model X.prog X.w) X.A (.compLoop (.ListComp elt [⟨target,iter,[c],0⟩] scope pos) 0 (.ref it) (.ref D) (compEnvC scope (A2e F X.env) G.objs.size X.env))
     (RR (.ref D) (compEnvC scope (A2e F X.env) G.objs.size X.env))
     {s2 with heap:=h4,toks:=s2.toks+([]:List (Str×Value)).length}:=by
   refine kct_loop (fun k s'=>∃i ys H',k=m+1-i/\Inv (X.compF scope N F G.objs.size {s2 with heap:=G} (upd H2 D (.lst [])) fp (X.pn++pins)) [] (List.replicate N.length none++A5g js σ) H' s'/\tn i s'.heap/\(∀b∈fp,H' b=none)/\W i ys H') ?_ (m+1)
     ⟨0,[],_,rfl,I4,T.keep _ _ _ st2 fun b hb o e=>kp b o (by rw[<-hG];exact Heap.get?_push_of_some _ e),fun b hb=>(f3 b hb).1,w0⟩
   rintro k s5 ⟨i,ys,H5,rfl,I5,st5,n5,w5⟩
   obtain⟨hi5,hD5,w5⟩:=turn i ys H5 w5
   rcases w5 with⟨stop,q⟩|⟨lt5,go,step⟩
   . refine wpAny_mono (T.done (X.compF scope N F G.objs.size {s2 with heap:=G} (upd H2 D (.lst [])) fp (X.pn++pins)) rfl rfl rfl hc0 i [] s5 _ H5 (fun _ _=>False) I5 (fpc I5 n5 (by simp)) st5 stop) (fun r s6 z=>?_) (fun _ _ z=>z.elim)
     obtain⟨rfl,I6⟩:=z
     obtain⟨mm,hn6,_⟩:=I6.loc
     have B6:=I6.base
     have J6:Inv X pins σ H5 s6:=by
       refine I3.call' (ch:=fp) I6.os ⟨B6.keep,B6.slot,B6.free,B6.there,B6.tups,B6.frzs,B6.tbls⟩ I6.hok I6.bare (fun b hb=>⟨(f2 b hb).2.2.2.1,(f2 b hb).2.1,(f2 b hb).2.2.2.2.1,(f2 b hb).2.2.2.2.2⟩)
     have szG:X.s₀.heap.objs.size<=G.objs.size:=I3.sz
     refine hRR D G.objs.size s6 H5 mm J6 hn6 ⟨I6.free,?_,?_,.inr szG,?_,?_⟩ q
     . exact Nat.ne_of_gt I3.lt
     . intro z
       obtain⟨_,o,ho,_⟩:=I3.funs.mem z
       exact Nat.lt_irrefl _ (Heap.lt_size ho)
     . rintro x c z rfl
       obtain⟨v',o,ho,_⟩:=I3.cell x _ z
       exact Nat.lt_irrefl _ (Heap.lt_size ho)
     . rintro p hp z
       have zz:=(I3.pin p hp).1
       rw[z] at zz
       exact Nat.lt_irrefl _ (Heap.lt_size zz)
   . refine wpAny_mono (T.item (X.compF scope N F G.objs.size {s2 with heap:=G} (upd H2 D (.lst [])) fp (X.pn++pins)) rfl rfl rfl hc0 i [] s5 _ H5 (fun _ _=>False) I5 (fpc I5 n5 (by simp)) st5 go) (fun r s6 z=>?_) (fun _ _ z=>z.elim)
     obtain⟨u,rfl,z⟩:=z
     refine wpAny_mono z (fun _ s7 z=>?_) (fun _ _ z=>z.elim)
     obtain⟨x,H7,I7,rx,yl,st7,fr7⟩:=z
     have ob7:=T.obj _ _ st7
     have I7':Inv (X.compF scope N F G.objs.size {s2 with heap:=G} (upd H2 D (.lst [])) fp (X.pn++pins)) (A0e fp s7.heap) (List.replicate N.length none++A5g js σ) H7 s7:=I7.pinned (fpc I7 fr7 (by simp)) ob7
     have back:∀{i':Nat} {ys':List V} {H':Hp} {σ':St} {s':Shared},i'=i+1 ->Inv (X.compF scope N F G.objs.size {s2 with heap:=G} (upd H2 D (.lst [])) fp (X.pn++pins)) (A0e fp s7.heap) σ' H' s' ->W i' ys' H' ->
         ∃k',k'<m+1-i/\∃i ys H',k'=m+1-i/\Inv (X.compF scope N F G.objs.size {s2 with heap:=G} (upd H2 D (.lst [])) fp (X.pn++pins)) [] (List.replicate N.length none++A5g js σ) H' s'/\tn i s'.heap/\(∀b∈fp,H' b=none)/\W i ys H':=by
       rintro i' ys' H' σ' s' rfl J' w'
       refine⟨m+1-(i+1),by omega,i+1,ys',H',rfl,C4v S I3 f3 J',T.keep _ _ _ st7 fun b hb o z=>(J'.pin (b,o) (List.mem_append_right _ (A1g hb z))).1,fun b hb=>?_,w'⟩
       obtain⟨o,eo,_⟩:=ob7 b hb
       exact(J'.pin (b,o) (List.mem_append_right _ (A1g hb eo))).2.1
     refine wpAny_mono (gg (A0e fp s7.heap) s7 _ H7 x u _ I7' rx (step x H7 yl)) (fun _ s8 z=>?_) (fun _ _ z=>z.elim)
     obtain⟨σ8,H8,I8,q8⟩:=z
     refine wpAny_mono (cc (A0e fp s7.heap) s8 σ8 H8 _ I8 q8) (fun b s9 z=>?_) (fun _ _ z=>z.elim)
     obtain⟨H9,I9,q9⟩:=z
     cases b with
     | false=>
       simp only[Bool.false_eq_true,if_false] at q9 ⊢
       exact back rfl I9 q9
     | true=>
       simp only[if_true] at q9 ⊢
       refine wpAny_mono (ee (A0e fp s7.heap) s9 σ8 H9 _ I9 q9) (fun y s10 z=>?_) (fun _ _ z=>z.elim)
       obtain⟨yv,H10,I10,ry,hD10,hz10,w10⟩:=z
       refine wpAny_mono (B8e (X:=X.compF scope N F G.objs.size {s2 with heap:=G} (upd H2 D (.lst [])) fp (X.pn++pins)) (A0e fp s7.heap) s10 σ8 H10 (.ref D) [yv] (.ref D) [y] (fun _ H11=>W (i+1) (ys++ [yv]) H11) I10 rfl (.cons ry .nil) ⟨D,ys,yv,rfl,rfl,hD10,hz10,w10⟩) (fun _ s11 z=>?_) (fun _ _ z=>z.elim)
       obtain⟨_,H11,I11,_,w11⟩:=z
       exact back rfl I11 w11
 exact codeAny_compStart_list loop (T.self _ 0 _ _ _ (T.keep _ _ _ st2 fun b hb o e=>kp b o (by rw[<-hG];exact Heap.get?_push_of_some _ e)) loop)
theorem G6q{elt target iter:Expr}{scope:Scope}{pos:Pos}{N F:List Str}{js:List Nat}{wi:TI}{g:TG}{te:TE}(S:CompScopeF N F js scope X.N X.env)(hd:A0q X)(hc0:X.calm=true)(hi:PI X target iter wi)(hex:X.ex=[])
   (hg:∀C s₀ H₀ ex pn,A0q (X.compF scope N F C s₀ H₀ ex pn) ->PG (X.compF scope N F C s₀ H₀ ex pn) target g)
   (he:∀C s₀ H₀ ex pn,A0q (X.compF scope N F C s₀ H₀ ex pn) ->PE (X.compF scope N F C s₀ H₀ ex pn) elt te)
   {pins:List (Addr×Obj)} {s:Shared} {σ:St} {H:Hp} {Q:VK} {RR:Value ->Env ->Result ->Shared ->Prop} (I:Inv X pins σ H s) (h:(U0v N.length js wi g te) σ H Q)
   (hRR:∀(D C:Addr) (s6:Shared) (H5:Hp) (mm:Str ->Option Value),Inv X pins σ H5 s6 ->s6.heap.Ns C mm ->A4g X pins H5 C ->Q (.ref D) H5 ->RR (.ref D) (compEnvC scope (A2e F X.env) C X.env) (.ok .next) s6):
   wpAny (model X.prog X.w) X.A (eval iter X.env) (fun v s1=>wpAny (model X.prog X.w) X.A (pyIter v) (fun itv s2=>wpAny (model X.prog X.w) X.A (newList []) (fun acc s3=>wpAny (model X.prog X.w) X.A (newFunctionEnv scope X.env.globals (A2e F X.env) [] X.env.qual none .none (some X.env)) (fun cenv s4=>
     codeAny (model X.prog X.w) X.A (.compStart (.ListComp elt [⟨target,iter,[],0⟩] scope pos) 0 itv acc {cenv with scope:=relabel scope X.env}) (RR acc {cenv with scope:=relabel scope X.env}) s4) X.xe s3) X.xe s2) X.xe s1) X.xe s:=by
 refine thn (hi pins s σ H _ I h) fun v s1 h1=>thn h1 fun itv s2 h2=>?_
 obtain⟨it,fp,tn,J,H2,rfl,I2,T,st2,f2,R⟩:=h2
 have ob2:=T.obj _ _ st2
 have hf2:=I2.hok.fresh (Nat.le_refl _)
 refine wpAny_newObj_type ?_
 have I3:Inv X pins σ (upd H2 s2.heap.objs.size (.lst [])) {s2 with heap:=s2.heap.push {cls:= .type "list",dict:=none,data:= .seq ([]:List Value).toArray}}:=Inv.lnew (t':=s2.toks) I2 .nil (Nat.zero_le _)
 refine wpAny_newFunctionEnv S.cell (by intro y hy;simp at hy) (fun h4 hns hsb=>?_) S.kind
 dsimp only at hns hsb ⊢
 generalize hG:s2.heap.push {cls:= .type "list",dict:=none,data:= .seq ([]:List Value).toArray}=G at I3 hns hsb ⊢
 generalize hD:s2.heap.objs.size=D at I3 hf2
 have nD:∀b∈fp,b≠D:=fun b hb=>by
   obtain⟨o,eo,_⟩:=ob2 b hb
   rw[<-hD];exact Nat.ne_of_lt (Heap.lt_size eo)
 have eiG:∀b∈fp,∃o,G.get? b=some o:=fun b hb=>by
   obtain⟨o,eo,_⟩:=ob2 b hb
   exact⟨o,by rw[<-hG];exact Heap.get?_push_of_some _ eo⟩
 have kp:∀b o,G.get? b=some o ->h4.get? b=some o:=fun b o e=>hsb.extBut b o (Nat.ne_of_lt (Heap.lt_size e)) (Heap.get?_push_of_some _ e)
 have f3:∀b∈fp,A4g X pins (upd H2 D (.lst [])) b:=fun b hb=>⟨by rw[D4 (nD b hb)];exact(f2 b hb).1,(f2 b hb).2⟩
 have nb:∀b∈fp,X.base.get? b=none:=fun b hb=>by
   cases q:X.base.get? b with
   |none=>rfl
   | some o=>
     have:=(I.ok.bs b o q).1
     rcases(f2 b hb).2.2.2.1 with z|z
     . rw[hex] at z;simp at z
     . exact absurd (Nat.lt_of_lt_of_le (Heap.lt_size this) z) (Nat.lt_irrefl _)
 have hns':h4.Ns G.objs.size (fun _=>none):=by
   obtain⟨o,es,ep,q1,q2,q3,q4⟩:=hns
   exact⟨o,es,ep,q1,q2,q3,fun x=>by rw[q4];rfl⟩
 have I4:=D2u (tk:=s2.toks+([]:List (Str×Value)).length) S I3 f3 eiG nb hns' kp
 have hdc:A0q (X.compF scope N F G.objs.size {s2 with heap:=G} (upd H2 D (.lst [])) fp (X.pn++pins)):=by
   rcases hd with z|⟨x,o,u,vs,z,e,d,n⟩
   . exact .inl z
   . refine .inr ⟨x,o,u,vs,z,?_,d,n⟩
     have q:=I2.base.frzs x o u e
     show upd H2 D (.lst []) x=_
     rw[D4 fun w=>by rw[w,hf2] at q;cases q]
     exact q
 obtain⟨m,W,w0,turn⟩:=R D hf2
 have gg:=hg _ _ _ _ _ hdc
 have ee:=he _ _ _ _ _ hdc
 have fpc:∀{H':Hp} {σ':St} {s':Shared} {pl:List (Addr×Obj)},Inv (X.compF scope N F G.objs.size {s2 with heap:=G} (upd H2 D (.lst [])) fp (X.pn++pins)) pl σ' H' s' ->(∀b∈fp,H' b=none) ->(∀b∈fp,∀p∈pl,p.1≠b) ->∀b∈fp,A4g (X.compF scope N F G.objs.size {s2 with heap:=G} (upd H2 D (.lst [])) fp (X.pn++pins)) pl H' b:=by
   intro H' σ' s' pl J' hn hp b hb
   obtain⟨oi,ei⟩:=eiG b hb
   refine⟨hn b hb,Nat.ne_of_lt (Heap.lt_size ei),?_,.inl hb,(fun x c z=>(f2 b hb).2.2.2.2.1 x c (S.sub x c z)),fun p hpp=>?_⟩
   . intro z
     rcases List.mem_cons.mp (I.stkSub b z) with z|z
     . exact(f2 b hb).2.1 z
     . exact(f2 b hb).2.2.1 z
   . rcases List.mem_append.mp hpp with z|z
     . exact(f2 b hb).2.2.2.2.2 p z
     . exact hp b hb p z
 have loop:codeAny (model X.prog X.w) X.A (.compLoop (.ListComp elt [⟨target,iter,[],0⟩] scope pos) 0 (.ref it) (.ref D) (compEnvC scope (A2e F X.env) G.objs.size X.env))
     (RR (.ref D) (compEnvC scope (A2e F X.env) G.objs.size X.env))
     {s2 with heap:=h4,toks:=s2.toks+([]:List (Str×Value)).length}:=by
   refine V0d (fun k s'=>∃i ys H',k=m+1-i/\Inv (X.compF scope N F G.objs.size {s2 with heap:=G} (upd H2 D (.lst [])) fp (X.pn++pins)) [] (List.replicate N.length none++A5g js σ) H' s'/\tn i s'.heap/\(∀b∈fp,H' b=none)/\W i ys H') ?_ (m+1)
     ⟨0,[],_,rfl,I4,T.keep _ _ _ st2 fun b hb o e=>kp b o (by rw[<-hG];exact Heap.get?_push_of_some _ e),fun b hb=>(f3 b hb).1,w0⟩
   rintro k s5 ⟨i,ys,H5,rfl,I5,st5,n5,w5⟩
   obtain⟨hi5,hD5,w5⟩:=turn i ys H5 w5
   rcases w5 with⟨stop,q⟩|⟨lt5,go,step⟩
   . refine wpAny_mono (T.done (X.compF scope N F G.objs.size {s2 with heap:=G} (upd H2 D (.lst [])) fp (X.pn++pins)) rfl rfl rfl hc0 i [] s5 _ H5 (fun _ _=>False) I5 (fpc I5 n5 (by simp)) st5 stop) (fun r s6 z=>?_) (fun _ _ z=>z.elim)
     obtain⟨rfl,I6⟩:=z
     obtain⟨mm,hn6,_⟩:=I6.loc
     have B6:=I6.base
     have J6:Inv X pins σ H5 s6:=by
       refine I3.call' (ch:=fp) I6.os ⟨B6.keep,B6.slot,B6.free,B6.there,B6.tups,B6.frzs,B6.tbls⟩ I6.hok I6.bare (fun b hb=>⟨(f2 b hb).2.2.2.1,(f2 b hb).2.1,(f2 b hb).2.2.2.2.1,(f2 b hb).2.2.2.2.2⟩)
     have szG:X.s₀.heap.objs.size<=G.objs.size:=I3.sz
     refine hRR D G.objs.size s6 H5 mm J6 hn6 ⟨I6.free,?_,?_,.inr szG,?_,?_⟩ q
     . exact Nat.ne_of_gt I3.lt
     . intro z
       obtain⟨_,o,ho,_⟩:=I3.funs.mem z
       exact Nat.lt_irrefl _ (Heap.lt_size ho)
     . rintro x c z rfl
       obtain⟨v',o,ho,_⟩:=I3.cell x _ z
       exact Nat.lt_irrefl _ (Heap.lt_size ho)
     . rintro p hp z
       have zz:=(I3.pin p hp).1
       rw[z] at zz
       exact Nat.lt_irrefl _ (Heap.lt_size zz)
   . refine wpAny_mono (T.item (X.compF scope N F G.objs.size {s2 with heap:=G} (upd H2 D (.lst [])) fp (X.pn++pins)) rfl rfl rfl hc0 i [] s5 _ H5 (fun _ _=>False) I5 (fpc I5 n5 (by simp)) st5 go) (fun r s6 z=>?_) (fun _ _ z=>z.elim)
     obtain⟨u,rfl,z⟩:=z
     refine wpAny_mono z (fun _ s7 z=>?_) (fun _ _ z=>z.elim)
     obtain⟨x,H7,I7,rx,yl,st7,fr7⟩:=z
     have ob7:=T.obj _ _ st7
     have I7':Inv (X.compF scope N F G.objs.size {s2 with heap:=G} (upd H2 D (.lst [])) fp (X.pn++pins)) (A0e fp s7.heap) (List.replicate N.length none++A5g js σ) H7 s7:=I7.pinned (fpc I7 fr7 (by simp)) ob7
     have back:∀{i':Nat} {ys':List V} {H':Hp} {σ':St} {s':Shared},i'=i+1 ->Inv (X.compF scope N F G.objs.size {s2 with heap:=G} (upd H2 D (.lst [])) fp (X.pn++pins)) (A0e fp s7.heap) σ' H' s' ->W i' ys' H' ->
         ∃k',k'<m+1-i/\∃i ys H',k'=m+1-i/\Inv (X.compF scope N F G.objs.size {s2 with heap:=G} (upd H2 D (.lst [])) fp (X.pn++pins)) [] (List.replicate N.length none++A5g js σ) H' s'/\tn i s'.heap/\(∀b∈fp,H' b=none)/\W i ys H':=by
       rintro i' ys' H' σ' s' rfl J' w'
       refine⟨m+1-(i+1),by omega,i+1,ys',H',rfl,C4v S I3 f3 J',T.keep _ _ _ st7 fun b hb o z=>(J'.pin (b,o) (List.mem_append_right _ (A1g hb z))).1,fun b hb=>?_,w'⟩
       obtain⟨o,eo,_⟩:=ob7 b hb
       exact(J'.pin (b,o) (List.mem_append_right _ (A1g hb eo))).2.1
     refine wpAny_mono (gg (A0e fp s7.heap) s7 _ H7 x u _ I7' rx (step x H7 yl)) (fun _ s8 z=>?_) (fun _ _ z=>z.elim)
     obtain⟨σ8,H8,I8,q8⟩:=z
     refine wpAny_mono (ee (A0e fp s7.heap) s8 σ8 H8 _ I8 q8) (fun y s10 z=>?_) (fun _ _ z=>z.elim)
     obtain⟨yv,H10,I10,ry,hD10,hz10,w10⟩:=z
     refine wpAny_mono (B8e (X:=X.compF scope N F G.objs.size {s2 with heap:=G} (upd H2 D (.lst [])) fp (X.pn++pins)) (A0e fp s7.heap) s10 σ8 H10 (.ref D) [yv] (.ref D) [y] (fun _ H11=>W (i+1) (ys++ [yv]) H11) I10 rfl (.cons ry .nil) ⟨D,ys,yv,rfl,rfl,hD10,hz10,w10⟩) (fun _ s11 z=>?_) (fun _ _ z=>z.elim)
     obtain⟨_,H11,I11,_,w11⟩:=z
     exact back rfl I11 w11
 exact codeAny_compStart_list loop (T.self _ 0 _ _ _ (T.keep _ _ _ st2 fun b hb o e=>kp b o (by rw[<-hG];exact Heap.get?_push_of_some _ e)) loop)
theorem V1n{elt target iter:Expr}{c:Expr}{tc:TT}{pos:Pos}{wi:TI}{g:TG}{te:TE}(S:CompScopeF N F js scope X.N X.env)(hd:A0q X)(hc0:X.calm=true)(hi:PI X target iter wi)(hex:X.ex=[])
   (hg:∀C s₀ H₀ ex pn,A0q (X.compF scope N F C s₀ H₀ ex pn) ->PG (X.compF scope N F C s₀ H₀ ex pn) target g)
   (hc:∀C s₀ H₀ ex pn,A0q (X.compF scope N F C s₀ H₀ ex pn) ->PT (X.compF scope N F C s₀ H₀ ex pn) c tc)
   (he:∀C s₀ H₀ ex pn,A0q (X.compF scope N F C s₀ H₀ ex pn) ->PE (X.compF scope N F C s₀ H₀ ex pn) elt te)
   (hs:∀x,foldedSetIterable iter X.env x=pure x:=by intro _;rfl):PE X (.ListComp elt [⟨target,iter,[c],0⟩] scope pos) (J0h N.length js wi g tc te):=by
 intro pins s σ H Q I h
 rw[eval_ListComp]
 refine wpAny_comprehension_free (use:=none) rfl hs S.clos S.kind S.loc (J0x S hd hc0 hi hex hg hc he I h (RR:=fun acc ce r s'=>compPost (model X.prog X.w) X.A X.xe none (EP X pins σ Q) acc ce.locals r s') ?_)
 intro D C s6 H5 mm I6 n6 f6 q
 exact⟨mm,n6,fun h' sb=>⟨.ref D,H5,V3e I6 f6 sb,rfl,q⟩⟩
theorem U5a{elt target iter:Expr}{pos:Pos}{wi:TI}{g:TG}{te:TE}(S:CompScopeF N F js scope X.N X.env)(hd:A0q X)(hc0:X.calm=true)(hi:PI X target iter wi)(hex:X.ex=[])
   (hg:∀C s₀ H₀ ex pn,A0q (X.compF scope N F C s₀ H₀ ex pn) ->PG (X.compF scope N F C s₀ H₀ ex pn) target g)
   (he:∀C s₀ H₀ ex pn,A0q (X.compF scope N F C s₀ H₀ ex pn) ->PE (X.compF scope N F C s₀ H₀ ex pn) elt te)
   (hs:∀x,foldedSetIterable iter X.env x=pure x:=by intro _;rfl):PE X (.ListComp elt [⟨target,iter,[],0⟩] scope pos) (U0v N.length js wi g te):=by
 intro pins s σ H Q I h
 rw[eval_ListComp]
 refine wpAny_comprehension_free (use:=none) rfl hs S.clos S.kind S.loc (G6q S hd hc0 hi hex hg he I h (RR:=fun acc ce r s'=>compPost (model X.prog X.w) X.A X.xe none (EP X pins σ Q) acc ce.locals r s') ?_)
 intro D C s6 H5 mm I6 n6 f6 q
 exact⟨mm,n6,fun h' sb=>⟨.ref D,H5,V3e I6 f6 sb,rfl,q⟩⟩
end
theorem CompScopeF.of0{N:List Str}{sc:Scope}{XN:List Str}{env:Env}(S:CompS N [] sc)(clos:closureFor sc env=pure (A2e [] env)):CompScopeF N [] [] sc XN env:=
 ⟨S.kind,S.cell,S.loc,S.nd,clos,C4m S.cell S.fr,fun k y h=>by simp at h,rfl⟩
section
variable{X:Cx}{pins:List (Addr×Obj)}{σ:St}{H:Hp}{s:Shared}{h':Heap}
end
section
variable{X:Cx}{es:List Expr}{k:Nat}{tp:Pos}
end
noncomputable def Y8w (D:Addr) (H H':Hp):Prop:=∀b o,H b=some o ->b≠D ->H' b=some o
theorem U5m{J:It}{g:TG}{te:TE}{σ0:St}{H1:Hp}{QD:Addr ->Hp ->Prop}{n:Nat}(R:Nat ->V ->Hp ->Prop)(hn:n<=1000)
   (mono:∀i y H' H'' D l,R i y H' ->H' D=some (.lst l) ->Y8w D H' H'' ->R i y H'')
   (step:∀i H2 Qy,i<n ->Same H1 H2 ->(∀y H6,Same H2 H6 ->R i y H6 ->Qy y H6) ->J.go i H2/\∀x H3,J.yld i H2 x H3 ->g x σ0 H3 fun σ4 H4=>te σ4 H4 Qy)
   (stop:∀H2,Same H1 H2 ->J.stop n H2)
   (k:∀D H' ys,Same H1 H' ->H1 D=none ->H' D=some (.lst ys) ->ys.length=n ->(∀i y,ys[i]?=some y ->R i y H') ->QD D H'):∀D,H1 D=none ->
   ∃ (m:Nat) (W:Nat ->List V ->Hp ->Prop),W 0 [] (upd H1 D (.lst []))/\∀i ys H2,W i ys H2 ->i<=m/\H2 D=some (.lst ys)/\((J.stop i H2/\QD D H2)\/(i<m/\J.go i H2/\∀x H3,J.yld i H2 x H3 ->
     g x σ0 H3 fun σ4 H4=>te σ4 H4 fun y H6=>H6 D=some (.lst ys)/\ys.length<sizeLine/\W (i+1) (ys++ [y]) (upd H6 D (.lst (ys++ [y]))))):=by
 intro D hD
 refine⟨n,fun i ys H2=>i<=n/\ys.length=i/\H2 D=some (.lst ys)/\Same H1 H2/\∀j y,ys[j]?=some y ->R j y H2,⟨Nat.zero_le _,rfl,B5,Same.upd hD,fun j y h=>by simp at h⟩,?_⟩
 rintro i ys H2 ⟨hi,hl,hd,sm,hR⟩
 refine⟨hi,hd,?_⟩
 by_cases hlt:i<n
 . refine .inr ⟨hlt,step i H2 _ hlt sm fun y H6 s6 r6=>?_⟩
   have d6:H6 D=some (.lst ys):=s6 _ _ hd
   have ex:Y8w D H6 (upd H6 D (.lst (ys++ [y]))):=fun b o e hb=>by rw[D4 hb];exact e
   refine⟨d6,Nat.lt_of_le_of_lt (by omega:ys.length<=1000) (A0h (Nat.le_refl _)),hlt,by simp[hl],B5,fun b o e=>?_,fun j z hj=>?_⟩
   . rw[D4 (G6 e hD)]
     exact s6 _ _ (sm _ _ e)
   . by_cases hj':j<ys.length
     . rw[List.getElem?_append_left hj'] at hj
       exact mono j z H6 _ D ys (mono j z H2 H6 D ys (hR j z hj) hd fun b o e _=>s6 _ _ e) d6 ex
     . rw[List.getElem?_append_right (by omega)] at hj
       have e0:j-ys.length=0:=by
         apply Classical.byContradiction
         intro q
         rw[List.getElem?_eq_none (by simp;omega)] at hj
         cases hj
       rw[e0] at hj
       have ej:j=i:=by omega
       subst ej
       cases hj
       exact mono _ _ H6 _ D ys r6 d6 ex
 . have e:i=n:=by omega
   subst e
   exact .inl ⟨stop H2 sm,k D H2 ys sm hD hd hl hR⟩
theorem V0g{J:It}{g:TG}{tc:TT}{te:TE}{σ0:St}{H1:Hp}{QD:Addr ->Hp ->Prop}{n:Nat}(f:Nat ->Bool)(R:Nat ->V ->Hp ->Prop)(hn:n<=1000)
   (mono:∀i y H' H'' D l,R i y H' ->H' D=some (.lst l) ->Y8w D H' H'' ->R i y H'')
   (step:∀(i:Nat) (H2:Hp) (Qy:VK) (Qn:Hp ->Prop),i<n ->Same H1 H2 ->(f i=true ->∀y H6,Same H2 H6 ->R i y H6 ->Qy y H6) ->(f i=false ->∀H6,Same H2 H6 ->Qn H6) ->J.go i H2/\∀x H3,J.yld i H2 x H3 ->g x σ0 H3 fun σ4 H4=>tc σ4 H4 fun b H5=>if b=true then te σ4 H5 Qy else Qn H5)
   (stop:∀H2,Same H1 H2 ->J.stop n H2)
   (k:∀D H' ys,Same H1 H' ->H1 D=none ->H' D=some (.lst ys) ->ys.length=((List.range n).filter f).length ->(∀(j i:Nat) (y:V),((List.range n).filter f)[j]?=some i ->ys[j]?=some y ->R i y H') ->QD D H'):∀D,H1 D=none ->
   ∃ (m:Nat) (W:Nat ->List V ->Hp ->Prop),W 0 [] (upd H1 D (.lst []))/\∀i ys H2,W i ys H2 ->i<=m/\H2 D=some (.lst ys)/\((J.stop i H2/\QD D H2)\/(i<m/\J.go i H2/\∀x H3,J.yld i H2 x H3 ->
     g x σ0 H3 fun σ4 H4=>tc σ4 H4 fun b H5=>if b=true then te σ4 H5 fun y H6=>H6 D=some (.lst ys)/\ys.length<sizeLine/\W (i+1) (ys++ [y]) (upd H6 D (.lst (ys++ [y]))) else W (i+1) ys H5)):=by
 intro D hD
 refine⟨n,fun i ys H2=>i<=n/\ys.length=((List.range i).filter f).length/\H2 D=some (.lst ys)/\Same H1 H2/\∀(j i':Nat) (y:V),((List.range i).filter f)[j]?=some i' ->ys[j]?=some y ->R i' y H2,⟨Nat.zero_le _,rfl,B5,Same.upd hD,fun j i' y h=>by simp at h⟩,?_⟩
 rintro i ys H2 ⟨hi,hl,hd,sm,hR⟩
 refine⟨hi,hd,?_⟩
 by_cases hlt:i<n
 . have fl :((List.range i).filter f).length<=i:=Nat.le_trans (List.length_filter_le _ _) (by simp)
   refine .inr ⟨hlt,step i H2 _ _ hlt sm (fun hf y H6 s6 r6=>?_) (fun hf H6 s6=>?_)⟩
   . have d6:H6 D=some (.lst ys):=s6 _ _ hd
     have ex:Y8w D H6 (upd H6 D (.lst (ys++ [y]))):=fun b o e hb=>by rw[D4 hb];exact e
     have ef:(List.range (i+1)).filter f=(List.range i).filter f++ [i]:=by rw[List.range_succ,List.filter_append,List.filter_cons,hf];rfl
     refine⟨d6,Nat.lt_of_le_of_lt (by omega:ys.length<=1000) (A0h (Nat.le_refl _)),hlt,by rw[ef,List.length_append,List.length_append,hl];rfl,B5,fun b o e=>?_,fun j i' z hi' hj=>?_⟩
     . rw[D4 (G6 e hD)]
       exact s6 _ _ (sm _ _ e)
     . rw[ef] at hi'
       by_cases hj':j<ys.length
       . rw[List.getElem?_append_left hj'] at hj
         rw[List.getElem?_append_left (by omega)] at hi'
         exact mono i' z H6 _ D ys (mono i' z H2 H6 D ys (hR j i' z hi' hj) hd fun b o e _=>s6 _ _ e) d6 ex
       . rw[List.getElem?_append_right (by omega)] at hj
         rw[List.getElem?_append_right (by omega)] at hi'
         have e0:j-ys.length=0:=by
           apply Classical.byContradiction
           intro q
           rw[List.getElem?_eq_none (by simp;omega)] at hj
           cases hj
         rw[e0] at hj
         rw[<-hl,e0] at hi'
         cases hj
         cases hi'
         exact mono _ _ H6 _ D ys r6 d6 ex
   . have ef:(List.range (i+1)).filter f=(List.range i).filter f:=by rw[List.range_succ,List.filter_append,List.filter_cons,hf];simp
     refine⟨hlt,by rw[ef];exact hl,s6 _ _ hd,sm.trans s6,fun j i' z hi' hj=>?_⟩
     rw[ef] at hi'
     exact mono i' z H2 H6 D ys (hR j i' z hi' hj) hd fun b o e _=>s6 _ _ e
 . have e:i=n:=by omega
   subst e
   exact .inl ⟨stop H2 sm,k D H2 ys sm hD hd hl hR⟩
open AutoSeq1 (wpAny_loadPart')
section
variable{prog:Program}{w:World}{A:Around}{E:Value ->Shared ->Prop}{s:Shared}
end
section
variable{X:Cx}{es:List Expr}{k:Nat}{tp:Pos}
end
end L2
namespace L2
open PySem PySem.Spec PyProof.Rows PySem.W
section
variable{X:Cx}
end
end L2
namespace L2
open PySem PySem.W PyProof.Rows
section
variable{X:Cx}{o e:Expr}{ta:TE}{m:Str}{apos pos:Pos}{j k:Nat}{ps:List Str}{ι:Type}{cw f:ι ->Addr}{fd:ι ->FuncData}{sp:ι ->Sp}{EH:EK}
end
section
variable{X:Cx}{a b e o:Expr}{es:List Expr}{ta tb te to:TE}{t:TA}{pos:Pos}{st:Stmt}{rest:List Stmt}{ts u:TS}
end
end L2
namespace L2
open PySem PySem.Spec PyProof.Rows PySem.W
section
variable{X:Cx}{x f:Str}{p cpos pos:Pos}{e:Expr}{t:TA}{C fI:Addr}{fdI:FuncData}{ps:List Str}{j k:Nat}
end
section
variable{X:Cx}{x y:Str}{e:Expr}{t:TE}{p q:Pos}{pos pos2:Pos}
end
end L2
namespace L2
open PySem PySem.Spec PyProof.Rows
structure FnOkG(P:Program)(w:World)(K:PySem.W.Frag)(mg:Str ->Option Value)(base:Heap)(CX:CXT)(k:Nat)(f:Addr)(fd:FuncData)(ps:List Str)(sp:Sp):Prop where
 len:∀vs H Q E,sp vs H Q E ->vs.length=ps.length
 run:∀(A:Around) (outer:List Env) (s:Shared) (H:Hp) (args:Args) (us:List Value) (vs:List V) (Q:VK) (E:XK),A.guards=some [] ->Room k A ->Env0 P w K mg base A outer s H ->BindsTo s fd args (ps.zip us) ->Vals vs us ->sp vs H Q E ->codeAny (model P w) A (Code.call (Value.ref f) args) (CR CX outer P w H s Q E) s
theorem V1q{CX:CXT}{P:Program}{w:World}{K:PySem.W.Frag}{mg:Str ->Option Value}{base:Heap}{k:Nat}{f:Addr}{name qual:Str}{params:Arguments}{body:List Stmt}{scope:Scope}{dV kV doc pm cdv ct oc:Value}{an od:Option Addr}
   {osl:Array (Option Value)} {N ps:List Str} {sp:Sp} (lk:K.lookup f=some ⟨oc,od,.func (PySem.W.fnOf name qual params body scope dV kV doc pm an cdv ct),osl⟩) (hcd:PySem.W.codeIn K cdv qual=true) (S:FnScope N ps scope)
   (len:∀vs H Q E,sp vs H Q E ->vs.length=ps.length)
   (hbody:∀(A:Around) (outer:List Env) (s:Shared) (H:Hp) (vs:List V) (Q:VK) (E:XK),A.guards=some [] ->Room k (A.deeper (envOfC qual scope s.heap.objs.size f cdv)) ->sp vs H Q E ->
     ∃t,PSs (A0f CX P w K mg base N qual scope f cdv A outer s H E) body t/\t {nx:=fun _ H'=>Q .non H',rt:=Q} (A4a N vs) H):
   FnOkG P w K mg base CX (k+1) f (PySem.W.fnOf name qual params body scope dV kV doc pm an cdv ct) ps sp:=by
 refine⟨len,fun A outer s H args us vs Q E hgd hr e0 hb r hsp=>?_⟩
 have hl:=len _ _ _ _ hsp
 have KX:K.In s.heap:=e0.mod.kin.keeps fun b o e=>(e0.bs b o e).1
 have lim:s.heap.NoLimit:=e0.mod.nolimit.keeps fun b o e=>(e0.bs b o e).1
 have hkind:∀y∈ps.zip us,scope.names.lookup y.1=some .local\/(scope.names.lookup y.1=some .cell/\((cellsFrom (s.heap.objs.size+1) scope.names []).lookup y.1).isSome=true):=fun⟨n,v⟩ hy=>by
   rcases S.par n (List.of_mem_zip hy).1 with q|q
   . exact .inl q
   . exact .inr ⟨q,PySem.W.cellsFrom_some _ _ _ (.inl q)⟩
 refine codeAny_call_function hr.depth (KX _ _ lk) rfl S.co S.gen rfl (PySem.W.codeRec_of KX hcd) (hb _ _ _ _ ?_)
 refine wpAny_newFunctionEnv_cells S.kind hkind fun env he s1 x=>?_
 subst he
 refine⟨lim.keeps x.toInCall.keep,codeAny_func ?_⟩
 obtain⟨t,ht,hq⟩:=hbody A outer s H vs Q E hgd (hr.deeper _) hsp
 have I:Inv (A0f CX P w K mg base N qual scope f cdv A outer s H E) [] (A4a N vs) H s1:=D1y S hr.hd e0 hl r x
 refine wpAny_mono (ht [] s1 (A4a N vs) H _ I hq) (fun fl s' hs=>?_) fun e s' hs=>hs
 have fin:∀{σ':St} {H':Hp} {v:V} {u:Value},Inv (A0f CX P w K mg base N qual scope f cdv A outer s H E) [] σ' H' s' ->RelV v u ->Q v H' ->CE outer P w H s Q u s':=
   fun{σ' H' v u} J rv q=>⟨v,H',J.os,J.bare,J.base,J.hok,rv,q⟩
 cases fl with
 | ret u=>
   obtain⟨v,σ',H',J,rv,q⟩:=hs
   exact fin J rv q
 | next=>
   obtain⟨σ',H',J,q⟩:=hs
   exact fin (v:=V.non) (u:=Value.none) J rfl q
 | brk=>
   obtain⟨_,_,_,q⟩:=hs
   exact False.elim q
 | cont=>
   obtain⟨_,_,_,q⟩:=hs
   exact False.elim q
open PySem.W in
theorem Fun.okEG{P:Program}{w:World}{K:Frag}{mg:Str ->Option Value}{base:Heap}{x qual:Str}{st:Stmt}{f:Addr}{fd:FuncData}{N ps:List Str}{k:Nat}{sp:Sp}(F:Fun K x qual st f fd)(S:FnScope N ps (A3 st))(len:∀vs H Q E,sp vs H Q E ->vs.length=ps.length)
   (hbody:∀(X:Cx) (cdv:Value) (A:Around) (outer:List Env) (s:Shared) (H:Hp) (vs:List V) (Q:VK) (E:XK),X=A0f (CX1 P w) P w K mg base N qual (A3 st) f cdv A outer s H E ->X.A.guards=some [] ->Room k X.A ->G5 X (fun C dd _ H'=>E C dd H') ->sp vs H Q E ->
     ∃t,PSs (A0f (CX1 P w) P w K mg base N qual (A3 st) f cdv A outer s H E) (B9 st) t/\t {nx:=fun _ H'=>Q .non H',rt:=Q} (A4a N vs) H):FnOkG P w K mg base (CX1 P w) (k+1) f fd ps sp:=by
 obtain⟨oc,od,kV,doc,pm,an,cdv,ct,osl,rfl,lk,hc⟩:=F.ex
 exact V1q lk hc S len fun A outer s H vs Q E hg hr h=>hbody _ cdv A outer s H vs Q E rfl hg hr A6z h
end L2
namespace L2
open PySem PySem.Spec PyProof.Rows PySem.W
mutual
inductive RdR(H:Hp):V ->PyData ->Prop where
 |non:RdR H .non .none
 |bl (b:Bool):RdR H (.bl b) (.bool b)
 |int (i:Int):RdR H (.int i) (.int i)
 |str (x:Str):RdR H (.str x) (.str x)
 |tup {a:Addr} {xs:List V} {ds:List PyData} (h:H a=some (.tup xs)) (r:RdRs H xs ds):RdR H (.ref a) (.tuple ds)
 |lst {a:Addr} {xs:List V} {ds:List PyData} (h:H a=some (.lst xs)) (n:a≠sysModules) (r:RdRs H xs ds):RdR H (.ref a) (.list ds)
 |dct0 {a:Addr} (h:H a=some (.dK [])):RdR H (.ref a) (.dict [])
 |dct1 {a:Addr} {z:Str} {b:Bool} (h:H a=some (.dK [(.inr z,.bl b)])):RdR H (.ref a) (.dict [(.str z,.bool b)])
inductive RdRs(H:Hp):List V ->List PyData ->Prop where
 |nil:RdRs H [] []
 |cons {x:V} {xs:List V} {d:PyData} {ds:List PyData} (h:RdR H x d) (r:RdRs H xs ds):RdRs H (x::xs) (d::ds)
end
mutual
theorem RdR.same{H H':Hp}(s:∀b o,H b=some o ->H' b=some o):∀{x:V} {d:PyData},RdR H x d ->RdR H' x d
 |_,_,.non=> .non
 |_,_,.bl b=> .bl b
 |_,_,.int i=> .int i
 |_,_,.str x=> .str x
 |_,_,.tup h r=> .tup (s _ _ h) (RdRs.same s r)
 |_,_,.lst h n r=> .lst (s _ _ h) n (RdRs.same s r)
 |_,_,.dct0 h=> .dct0 (s _ _ h)
 |_,_,.dct1 h=> .dct1 (s _ _ h)
theorem RdRs.same{H H':Hp}(s:∀b o,H b=some o ->H' b=some o):∀{x:List V} {d:List PyData},RdRs H x d ->RdRs H' x d
 |_,_,.nil=> .nil
 |_,_,.cons h r=> .cons (RdR.same s h) (RdRs.same s r)
end
section
variable{X:Cx}
mutual
theorem RdR.reads{pins:List (Addr×Obj)}{σ:St}{H:Hp}{s:Shared}(I:Inv X pins σ H s):∀{x:V} {d:PyData} {u:Value},RdR H x d ->RelV x u ->∃as,Reads s.heap u d as/\sysModules ∉ as
 |_,_,_,.non,r=>by cases r;exact⟨_,.none,by simp⟩
 |_,_,_,.bl b,r=>by cases r;exact⟨_,.bool b,by simp⟩
 |_,_,_,.int i,r=>by obtain⟨t,rfl⟩:=r;exact⟨_,.int i t,by simp⟩
 |_,_,_,.str x,r=>by obtain⟨t,rfl⟩:=r;exact⟨_,.str x t,by simp⟩
 | _,_,_,.tup h q,r=>by
   cases r
   obtain⟨_,its,rv,o,e,c,n,d⟩:=I.hok _ _ h
   obtain⟨as,z,y⟩:=RdRs.reads I q rv
   exact⟨_,.tuple e c d (by simpa using z),y⟩
 | _,_,_,.lst (a:=a) h nn q,r=>by
   cases r
   obtain⟨_,its,n,rv,e⟩:=I.hok _ _ h
   obtain⟨as,z,y⟩:=RdRs.reads I q rv
   refine⟨_,.list e rfl rfl (by simpa using z),fun hm=>?_⟩
   rcases List.mem_cons.mp hm with hm|hm
   . exact nn hm.symm
   . exact y hm
 | _,_,_,.dct0 (a:=a) h,r=>by
   cases r
   obtain⟨_,nS,vs,kv,o,es,ep,e,c,d,_,ps,_⟩:=I.hok _ _ h
   cases kv
   cases hp:es.toList with
   |cons _ _=>rw[hp] at ps;cases ps
   | nil=>
     refine⟨_,.dict (kvs:=[]) e c.1 d (by rw[hp];exact .nil) (by rw[hp];exact .nil),fun hm=>?_⟩
     exact beq_eq_false_iff_ne.mp nS (by simpa using hm:sysModules=a).symm
 | _, _, _,.dct1 (a:=a) (z:=z) (b:=b) h,r=>by
   cases r
   obtain⟨_,nS,vs,kv,o,es,ep,e,c,d,_,ps,_⟩:=I.hok _ _ h
   cases kv with
   | cons k1 k2=>
     cases k2
     obtain⟨k1a,k1b⟩:=k1
     cases ps':es.toList with
     |nil=>rw[ps'] at ps;cases ps
     | cons en rest=>
       rw[ps'] at ps
       cases ps with
       | cons p1 p2 p3=>
         cases p3
         have hk:∃t,en.key= .str z t:=by
           rw[<-k1a] at p1
           have p1:Value.isStrOf z en.key=true:=p1
           cases hk:en.key<;>rw[hk] at p1<;>simp[Value.isStrOf] at p1
           subst p1
           exact⟨_,rfl⟩
         obtain⟨t,hk⟩:=hk
         have hv:en.val= .bool b:=p2.trans k1b
         refine⟨_,.dict (kvs:=[(.str z,.bool b)]) e c.1 d (by rw[ps'];show ReadsAll s.heap [en.key] [.str z] _;rw[hk];exact .cons (.str z t) .nil) (by rw[ps'];show ReadsAll s.heap [en.val] [.bool b] _;rw[hv];exact .cons (.bool b) .nil),fun hm=>?_⟩
         exact beq_eq_false_iff_ne.mp nS (by simpa using hm:sysModules=a).symm
theorem RdRs.reads{pins:List (Addr×Obj)}{σ:St}{H:Hp}{s:Shared}(I:Inv X pins σ H s):∀{xs:List V} {ds:List PyData} {us:List Value},RdRs H xs ds ->Vals xs us ->∃as,ReadsAll s.heap us ds as/\sysModules ∉ as
 |_,_,_,.nil,r=>by cases r;exact⟨_,.nil,by simp⟩
 | _,_,_,.cons h q,r=>by
   cases r with
   | cons r1 r2=>
     obtain⟨as,z,n1⟩:=RdR.reads I h r1
     obtain⟨bs,y,n2⟩:=RdRs.reads I q r2
     exact⟨_,.cons z y,by simp[n1,n2]⟩
end
end
section
variable{X:Cx}{j k:Nat}{f C:Addr}{fd:FuncData}{ps:List Str}{sp:Sp}{dvs:List V}{ds:List Value}{x m:Str}{p pos apos:Pos}{e o:Expr}{es:List Expr}{ta:TE}{t:TA}{st:Stmt}
end
structure LamB(mg:Str ->Option Value)(base:Heap)(c P:Addr):Prop where
 code:CodeHd base c P
 bm:∃bm ob,mg "__builtins__"=some (.ref bm)/\bm≠builtinsNs/\bm≠mainGlobals/\base.get? bm=some ob/\ob.cls= .type "module"/\ob.dict=some builtinsNs/\ob.data= .plain
noncomputable def Z3r (oc:Obj) (qual:Str):Prop:=∃vs t,oc.data= .fields vs/\vs[1]?=some (.str qual t)
noncomputable def TabOk (P:Addr) (pos:Pos) (qual:Str) (H:Hp):Prop:=∃ps,H P=some (.tbl ps)/\TriplesOk ps.toList/\(codeAmong pos ps.toList=none\/∃c' oc,codeAmong pos ps.toList=some (.ref c')/\H c'=some (.frz oc (.own c'))/\Z3r oc qual)
noncomputable def LamAt (H:Hp) (f:Addr) (qual:Str) (params:Arguments) (body:Expr) (scope:Scope) (clos:List (Str×Addr)):Prop:=
 ∃pm c' ctv oc,H f=some (.frz (kla_obj "<lambda>" qual params body scope clos pm c' ctv) (.own f))/\H c'=some (.frz oc (.own c'))/\Z3r oc qual
noncomputable def SameT (P:Addr) (H H':Hp):Prop:=∀b o,b≠P ->H b=some o ->H' b=some o
noncomputable def tLam (P:Addr) (pos:Pos) (qual:Str) (params:Arguments) (body:Expr) (scope:Scope) (clos:List (Str×Addr)):TE:=fun _ H Q=>TabOk P pos qual H/\∀f H',SameT P H H' ->H f=none ->LamAt H' f qual params body scope clos ->TabOk P pos qual H' ->(∀pos' q',(pos'.line≠pos.line\/pos'.col≠pos.col) ->TabOk P pos' q' H ->TabOk P pos' q' H') ->Q (.ref f) H'
theorem B6u{a b c:Value}{n m:Int}{t u:Tok}:∀l:List Value,TriplesOk l ->TriplesOk (l++ [.int n t,.int m u,c]):=by
 intro l h
 fun_induction TriplesOk l with
 |case1=>exact True.intro
 |case2 _ _ _ _ _ rest ih=>exact ih h
 |case3=>exact h.elim
theorem G9h{pos pos':Pos}{c:Value}(hp:pos'.line≠pos.line\/pos'.col≠pos.col):∀l:List Value,TriplesOk l ->codeAmong pos' (l++ [rawInt pos.line,rawInt pos.col,c])=codeAmong pos' l:=by
 intro l h
 fun_induction TriplesOk l with
 | case1=>
   have:¬(((pos.line:Int)==(pos'.line:Int)&&(pos.col:Int)==(pos'.col:Int))=true):=by
     intro z
     simp only[Bool.and_eq_true,beq_iff_eq] at z
     omega
   show(if((pos.line:Int)==(pos'.line:Int)&&(pos.col:Int)==(pos'.col:Int))=true then some c else codeAmong pos' [])=none
   rw[if_neg this]
   rfl
 | case2 a t b u x rest ih=>
   show(if _ then _ else codeAmong pos' (rest++_))=(if _ then _ else codeAmong pos' rest)
   rw[ih h]
 |case3=>exact h.elim
theorem B8h{X:Cx}{c P:Addr}{params:Arguments}{body:Expr}{scope:Scope}{pos:Pos}{clos:List (Str×Addr)}(L:LamB X.mg X.base c P)(hc:X.env.code= .ref c)(hcl:closureFor scope X.env=pure clos)(hex:X.ex=[]:=by rfl)(hdef:defaultsOf params X.env=([],[]):=by rfl):
   PE X (.Lambda params body scope pos) (tLam P pos (X.env.qual++"<lambda>") params body scope clos):=by
 intro pins s σ H Q I ⟨⟨ps,hP,ht,hcase⟩,k⟩
 obtain⟨bm,ob,b1,b2,b3,b4,b5,b6,b7⟩:=L.bm
 have hg:s.heap.Ns mainGlobals X.mg:=I.ok.mod.glob.keeps I.bk
 have hPo:s.heap.get? P=some (tabObj ps):=I.hok P _ hP
 have nP:∀b o,X.base.get? b=some o ->b≠P:=fun b o e z=>by
   have:=(I.bs b o e).2
   rw[z,hP] at this
   cases this
 have hgP:mainGlobals≠P:=by
   obtain⟨o,_,_,e,_⟩:=I.ok.mod.glob
   exact nP _ _ e
 refine kla_eval hdef ?_
 rcases hcase with hnf|⟨c',oc,hf,hc',ho⟩
 . refine kla_makeFunction hcl I.ok.glob hg hc (L.code.keeps I.bk) hPo ht hnf hgP ⟨bm,ob,b1,b2,b3,nP _ _ b4,I.bk _ _ b4,b5,b6,b7⟩ fun c' ctv h' tk hx hge hlt hrec htb=>?_
   obtain⟨c2,oc,vs,t,e2,hoc,hd,hv⟩:=hrec
   cases e2
   generalize hfo:kla_obj "<lambda>" (X.env.qual++"<lambda>") params body scope clos ((X.mg "__name__").getD .none) c' ctv=fo
   have kx:∀b o,b≠P ->s.heap.get? b=some o ->(h'.push fo).get? b=some o:=fun b o hb e=>Heap.get?_push_of_some _ (hx b o hb e)
   have fP:∀b,H b=none ->b≠P:=fun b n z=>by rw[z,hP] at n;cases n
   have I1 : Inv X pins σ (upd H P (.tbl (ps++ #[rawInt pos.line,rawInt pos.col,.ref c']))) {s with heap:=h'.push fo,toks:=tk}:=by
     refine I.un ⟨fun b o e n _ _=>kx b o (fP b n) e,fun b o e n _ _=>⟨o.slots,kx b o (fP b n) e⟩,fun b o e n _=>by rw[D4 (fP b n)];exact n,fun b o e _=>?_,fun b xs e=>?_,fun b o u e=>?_,fun b qs e=>?_⟩ fun b u e=>?_
     . by_cases hb:b=P
       . exact⟨_,by rw[hb];exact Heap.get?_push_of_some _ htb⟩
       . exact⟨o,kx b o hb e⟩
     . rw[D4 (by rintro rfl;rw[hP] at e;cases e)];exact e
     . rw[D4 (by rintro rfl;rw[hP] at e;cases e)];exact e
     . by_cases hb:b=P
       . subst hb
         rw[hP] at e
         cases e
         exact⟨_,B5⟩
       . exact⟨#[],by rw[D4 hb,e];simp⟩
     . by_cases hb:b=P
       . subst hb
         rw[B5] at e
         cases e
         exact Heap.get?_push_of_some _ htb
       . rw[D4 hb] at e
         refine(I.hok b u e).stay (fun d v hd q=>kx d v ?_ q) (fun d q=>?_) fun d xs q=>?_
         . rcases hd with rfl|hd
           . exact hb
           . rintro rfl
             rw[hP] at hd
             cases hd
         . rw[D4 (by rintro rfl;rw[hP] at q;cases q)];exact q
         . rw[D4 (by rintro rfl;rw[hP] at q;cases q)];exact q
   have nc:s.heap.get? c'=none:=Heap.get?_none_of_le hge
   have nf:s.heap.get? h'.objs.size=none:=Heap.get?_none_of_le (Nat.le_trans hge (Nat.le_of_lt hlt))
   have uc:H c'=none:=I.hok.new nc
   have uf:H h'.objs.size=none:=I.hok.new nf
   have cP:c'≠P:=fP c' uc
   have fP':h'.objs.size≠P:=fP _ uf
   have cf:c'≠h'.objs.size:=Nat.ne_of_lt hlt
   have I2:=I1.track (a:=c') (o:=oc) (I.nw hex nc (by rw[D4 cP];exact uc)) (Heap.get?_push_of_some _ hoc)
   have I3:=I2.track (a:=h'.objs.size) (o:=fo) (I.nw hex nf (by rw[D4 cf.symm,D4 fP'];exact uf)) (Heap.get?_push_size _ (by rw[<-hfo];rfl))
   refine⟨.ref h'.objs.size,_,I3,rfl,k _ _ (fun b o hb e=>?_) uf ⟨_,c',ctv,oc,by rw[B5,hfo],by rw[D4 cf,B5],vs,t,hd,hv⟩ ⟨ps++ #[rawInt pos.line,rawInt pos.col,.ref c'],by rw[D4 fP'.symm,D4 cP.symm,B5],?_,.inr ⟨c',oc,?_,by rw[D4 cf,B5],vs,t,hd,hv⟩⟩ fun pos' q' hp ⟨ps2,z1,z2,z3⟩=>⟨ps++ #[rawInt pos.line,rawInt pos.col,.ref c'],by rw[D4 fP'.symm,D4 cP.symm,B5],?_,?_⟩⟩
   . rw[D4 (by rintro rfl;rw[uf] at e;cases e),D4 (by rintro rfl;rw[uc] at e;cases e),D4 hb];exact e
   . rw[Array.toList_append]
     exact B6u (a:= .none) (b:= .none) _ ht
   . rw[Array.toList_append]
     exact codeAmong_snoc _ ht hnf
   . rw[Array.toList_append]
     exact B6u (a:= .none) (b:= .none) _ ht
   . rw[hP] at z1
     cases z1
     rw[Array.toList_append]
     have e:codeAmong pos' (ps.toList++ [rawInt pos.line,rawInt pos.col,Value.ref c'])=codeAmong pos' ps.toList:=G9h hp _ ht
     rcases z3 with z3|⟨c2,oc2,z4,z5,z6⟩
     . exact .inl (e.trans z3)
     . exact .inr ⟨c2,oc2,e.trans z4,by rw[D4 (by rintro rfl;rw[uf] at z5;cases z5),D4 (by rintro rfl;rw[uc] at z5;cases z5),D4 (by rintro rfl;rw[hP] at z5;cases z5)];exact z5,z6⟩
 . refine kla_makeFunctionHit hcl I.ok.glob hg hc (L.code.keeps I.bk) hPo ht hf ⟨bm,ob,b1,b2,b3,nP _ _ b4,I.bk _ _ b4,b5,b6,b7⟩ fun ctv h' tk hk hsz=>?_
   generalize hfo:kla_obj "<lambda>" (X.env.qual++"<lambda>") params body scope clos ((X.mg "__name__").getD .none) c' ctv=fo
   have nf:s.heap.get? h'.objs.size=none:=Heap.get?_none_of_le hsz
   have uf:H h'.objs.size=none:=I.hok.new nf
   have I1:Inv X pins σ H {s with heap:=h'.push fo,toks:=tk}:=I.kept fun b o e=>Heap.get?_push_of_some _ (hk b o e)
   have I3:=I1.track (a:=h'.objs.size) (o:=fo) (I.nw hex nf uf) (Heap.get?_push_size _ (by rw[<-hfo];rfl))
   have ne:∀b o,H b=some o ->b≠h'.objs.size:=fun b o e z=>by rw[z,uf] at e;cases e
   show∃v H',Inv X pins σ H' {s with heap:=h'.push (kla_obj "<lambda>" (X.env.qual++"<lambda>") params body scope clos ((X.mg "__name__").getD .none) c' ctv),toks:=tk}/\RelV v (.ref h'.objs.size)/\Q v H'
   rw[hfo]
   refine⟨.ref h'.objs.size,upd H h'.objs.size (.frz fo (.own h'.objs.size)),I3,rfl,k _ _ (fun b o hb e=>by rw[D4 (ne b o e)];exact e) uf ⟨_,c',ctv,oc,by rw[B5,hfo],by rw[D4 (ne _ _ hc')];exact hc',ho⟩ ⟨ps,by rw[D4 (ne _ _ hP)];exact hP,ht,.inr ⟨c',oc,hf,by rw[D4 (ne _ _ hc')];exact hc',ho⟩⟩ fun pos' q' hp ⟨ps2,z1,z2,z3⟩=>⟨ps2,by rw[D4 (ne _ _ z1)];exact z1,z2,z3.imp id fun⟨c2,oc2,z4,z5,z6⟩=>⟨c2,oc2,z4,by rw[D4 (ne _ _ z5)];exact z5,z6⟩⟩⟩
noncomputable def V7 (cs:List Addr) (H:Hp):Hp:=fun b=>if b∈cs then none else H b
noncomputable def A1d (cs:List Addr) (H H':Hp):Hp:=fun b=>if b∈cs then H b else H' b
section
variable{cs:List Addr}{H H' H2:Hp}{b:Addr}{P:Program}{w:World}{h h':Heap}{fs:List Addr}
theorem B6k(hb:b∈cs):V7 cs H b=none:=by unfold V7;rw[if_pos hb]
theorem Y0(hb:b ∉ cs):V7 cs H b=H b:=by unfold V7;rw[if_neg hb]
theorem B3t(n:H b=none):V7 cs H b=none:=by
 unfold V7
 split
 . rfl
 . exact n
theorem D5d(hb:b∈cs):A1d cs H H' b=H b:=by unfold A1d;rw[if_pos hb]
theorem Z0(hb:b ∉ cs):A1d cs H H' b=H' b:=by unfold A1d;rw[if_neg hb]
noncomputable def AllFrz (cs:List Addr) (H:Hp):Prop:=∀c∈cs,∃o,H c=some (.frz o (.own c))
theorem AllFrz.out{u:HO}(A:AllFrz cs H)(e:H b=some u)(hu:∀o,u≠ .frz o (.own b)):b ∉ cs:=fun hb=>by
 obtain⟨o,z⟩:=A b hb
 rw[e] at z
 exact hu o (Option.some.inj z)
theorem AllFrz.hide{u:HO}(A:AllFrz cs H)(e:H b=some u)(hu:∀o,u≠ .frz o (.own b)):V7 cs H b=some u:=by rw[Y0 (A.out e hu)];exact e
theorem HOk.hide(x:HOk P w H h)(A:AllFrz cs H):HOk P w (V7 cs H) h:=fun a o e=>by
 by_cases ha:a∈cs
 . rw[B6k ha] at e;cases e
 . rw[Y0 ha] at e
   exact(x a o e).stay (fun _ _ _ q=>q) (fun d q=>A.hide q fun o z=>nomatch z) fun d xs q=>A.hide q fun o z=>nomatch z
theorem B7t(s:Same (V7 cs H) H'):Same H (A1d cs H H'):=fun a o e=>by
 by_cases ha:a∈cs
 . rw[D5d ha];exact e
 . rw[Z0 ha];exact s a o (by rw[Y0 ha];exact e)
theorem Y8q(u:Un fs [] (V7 cs H) H' h h')(A:AllFrz cs H):Un fs [] H (A1d cs H H') h h' where
 keep:=fun b o e n hb hx=>u.keep b o e (by unfold V7;split<;>first|rfl|exact n) hb hx
 slot:=fun b o e n hb hx=>u.slot b o e (by unfold V7;split<;>first|rfl|exact n) hb hx
 free:=fun b o e n hx=>by
   have hb:b ∉ cs:=fun z=>by
     obtain⟨o,q⟩:=A b z
     rw[n] at q;cases q
   rw[Z0 hb]
   exact u.free b o e (by rw[Y0 hb];exact n) hx
 there:=u.there
 tups:=fun b xs e=>by
   have hb:=A.out e fun o z=>nomatch z
   rw[Z0 hb]
   exact u.tups b xs (by rw[Y0 hb];exact e)
 frzs:=fun b o v e=>by
   by_cases hb:b∈cs
   . rw[D5d hb];exact e
   . rw[Z0 hb];exact u.frzs b o v (by rw[Y0 hb];exact e)
 tbls:=fun b ps e=>by
   have hb:=A.out e fun o z=>nomatch z
   rw[Z0 hb]
   exact u.tbls b ps (by rw[Y0 hb];exact e)
theorem U0z(u:Un fs [] (V7 cs H) H' h h')(A:AllFrz cs H)(x:HOk P w H h):∀c∈cs,H' c=none:=fun c hc=>by
 obtain⟨o,e⟩:=A c hc
 obtain⟨e1,_⟩:=x c _ e
 exact u.free c o e1 (B6k hc) (by simp)
theorem U9v(u:Un fs [] (V7 cs H) H' h h')(A:AllFrz cs H)(x:HOk P w H h)(x':HOk P w H' h')(hf:∀b∈fs,H b=none):HOk P w (A1d cs H H') h':=fun a o e=>by
 have nn:=U0z u A x
 by_cases ha:a∈cs
 . rw[D5d ha] at e
   obtain⟨o',e'⟩:=A a ha
   rw[e] at e'
   cases e'
   obtain⟨e1,_⟩:=x a _ e
   have e2:=u.keep a o' e1 (B6k ha) (fun z=>by rw[hf a z] at e;cases e) (by simp)
   exact⟨e2,o',e2⟩
 . rw[Z0 ha] at e
   refine(x' a o e).stay (fun _ _ _ q=>q) (fun d q=>?_) fun d xs q=>?_
   . rw[Z0 fun z=>by rw[nn d z] at q;cases q];exact q
   . rw[Z0 fun z=>by rw[nn d z] at q;cases q];exact q
theorem Y8y(u:Un fs [] H2 H' h h')(A:AllFrz cs H2)(ho:∀b,b ∉ cs ->H2 b=H b)(hn:∀b∈cs,H b=none)(x:HOk P w H2 h)(x':HOk P w H' h'):Un fs [] H (V7 cs H') h h':=by
 have kp:∀b o,b∈cs ->h.get? b=some o ->h'.get? b=some o:=fun b o hb e=>by
   obtain⟨o1,z⟩:=A b hb
   obtain⟨e1,_⟩:=x b _ z
   rw[e] at e1
   cases e1
   exact(x' b _ (u.frzs b _ _ z)).1
 have out:∀b v,H b=some v ->b ∉ cs:=fun b v e z=>by rw[hn b z] at e;cases e
 refine⟨fun b o e n hb hx=>?_,fun b o e n hb hx=>?_,fun b o e n hx=>?_,u.there,fun b xs e=>?_,fun b o v e=>?_,fun b ps e=>?_⟩
 . by_cases hc:b∈cs
   . exact kp b o hc e
   . exact u.keep b o e (by rw[ho b hc];exact n) hb hx
 . by_cases hc:b∈cs
   . exact⟨o.slots,kp b o hc e⟩
   . exact u.slot b o e (by rw[ho b hc];exact n) hb hx
 . by_cases hc:b∈cs
   . exact B6k hc
   . rw[Y0 hc];exact u.free b o e (by rw[ho b hc];exact n) hx
 . rw[Y0 (out b _ e)];exact u.tups b xs (by rw[ho b (out b _ e)];exact e)
 . rw[Y0 (out b _ e)];exact u.frzs b o v (by rw[ho b (out b _ e)];exact e)
 . rw[Y0 (out b _ e)];exact u.tbls b ps (by rw[ho b (out b _ e)];exact e)
end
noncomputable def V2s (H:Hp) (c:Addr) (v:V):Prop:=∃o u,H c=some (.frz o (.own c))/\o.data= .cell (some u)/\RelV v u
noncomputable def C4b (CX:CXT) (P:Program) (w:World) (K:Frag) (mg:Str ->Option Value) (base:Heap) (N:List Str) (qual:Str) (scope:Scope) (f:Addr) (cd:Value) (cl:List (Str×Addr)) (A:Around) (outer:List Env) (s:Shared) (H:Hp) (E:XK):Cx where
 prog:=P
 w:=w
 K:=K
 mg:=mg
 base:=base
 A:=A.deeper (envX qual scope s.heap.objs.size f cd cl)
 N:=N
 s₀:=s
 H₀:=H
 env:=envX qual scope s.heap.objs.size f cd cl
 outer:=outer
 stack:=envX qual scope s.heap.objs.size f cd cl::outer
 ex:=[]
 calm:=true
 fn:=fun _=>false
 pn:=[]
 xe:=fun e s'=>wpAny (model P w) (A.deeper (envX qual scope s.heap.objs.size f cd cl)) (leaving (envX qual scope s.heap.objs.size f cd cl) e) (fun _ s''=>CX outer H s E e s'') (fun e' s''=>CX outer H s E e' s'') s'
structure LamS(F:List Str)(sc:Scope):Prop where
 kind:sc.kind= .function
 co:sc.isCoroutine=false
 gen:sc.isGenerator=false
 nocell:∀y∈sc.names,y.2≠ .cell
 fr:∀y∈sc.names,y.2= .free ->y.1∈F
 at_:∀x∈F,sc.names.lookup x=some .free
 nd:F.Nodup
structure DeedOk(P:Program)(w:World)(K:Frag)(mg:Str ->Option Value)(base:Heap)(k:Nat)(f:Addr)(J:Hp ->Prop)(sp:Hp ->VK ->XK ->Prop):Prop where
 fn:∀H h,J H ->HOk P w H h ->FnAt f h
 run:∀(A:Around) (outer:List Env) (s:Shared) (H:Hp) (Q:VK) (E:XK),Room k A ->Env0 P w K mg base A outer s H ->J H ->sp H Q E ->codeAny (model P w) A (.call (.ref f) ⟨[],[]⟩) (CR (CX1 P w) outer P w H s Q E) s
noncomputable def Z4n (f:Addr) (qual:Str) (params:Arguments) (body:Expr) (scope:Scope) (cl:List (Str×Addr)) (vs:List V) (H:Hp):Prop:=
 LamAt H f qual params body scope cl/\∀(i:Nat) (x:Str) (c:Addr),cl[i]?=some (x,c) ->∃v,vs[i]?=some v/\V2s H c v
theorem B7x:∀{cl:List (Str×Addr)} {i:Nat} {x:Str} {c:Addr},(cl.map (·.1)).Nodup ->cl[i]?=some (x,c) ->cl.lookup x=some c
 | [],i,x,c,_,h=>by cases i<;>cases h
 |(y,d)::r,0,x,c,_,h=>by cases h;simp[List.lookup]
 | (y,d)::r,i+1,x,c,nd,h=>by
   have nd':y ∉ r.map (·.1)/\(r.map (·.1)).Nodup:=List.nodup_cons.mp nd
   have hm:x∈r.map (·.1):=List.mem_map.mpr ⟨(x,c),List.mem_of_getElem? (by simpa using h),rfl⟩
   have ne:(x==y)=false:=beq_eq_false_iff_ne.mpr fun z=>nd'.1 (z▸hm)
   rw[List.lookup_cons,ne]
   exact B7x nd'.2 (by simpa using h)
theorem U9p:∀{cl:List (Str×Addr)} {x y:Str} {c:Addr},(cl.map (·.2)).Nodup ->(x,c)∈cl ->(y,c)∈cl ->x=y
 | p::r,x,y,c,nd,h1,h2=>by
   have nd':p.2 ∉ r.map (·.2)/\(r.map (·.2)).Nodup:=List.nodup_cons.mp nd
   rcases List.mem_cons.mp h1 with e1|h1<;>rcases List.mem_cons.mp h2 with e2|h2
   . rw[<-e1] at e2;cases e2;rfl
   . exact absurd (List.mem_map.mpr ⟨(y,c),h2,by rw[<-e1]⟩) nd'.1
   . exact absurd (List.mem_map.mpr ⟨(x,c),h1,by rw[<-e2]⟩) nd'.1
   . exact U9p nd'.2 h1 h2
theorem G6c{P:Program}{w:World}{K:Frag}{mg:Str ->Option Value}{base:Heap}{N:List Str}{qual:Str}{scope:Scope}{f:Addr}{cd:Value}{cl:List (Str×Addr)}{A:Around}{outer:List Env}{s:Shared}{H:Hp}{E:XK}:
   G5 (C4b (CX1 P w) P w K mg base N qual scope f cd cl A outer s H E) (fun C dd _ H'=>E C dd H'):=by
 intro pins σ H' s' a t C dd I F h
 refine D2h (X:=C4b (CX1 P w) P w K mg base N qual scope f cd cl A outer s H E) ⟨rfl,rfl,rfl⟩ I F fun s2 I2 F2=>?_
 obtain⟨na,T,oT,ts,e,ne,nT,eT,dT,h3⟩:=F2
 exact⟨a,t,C,dd,H',rfl,I2.os,I2.bare,I2.base,I2.hok,h,⟨na.old,na.un⟩,T,oT,ts,e,ne,⟨nT.old,nT.un⟩,eT,dT,h3⟩
theorem Y8j{P:Program}{w:World}{K:Frag}{mg:Str ->Option Value}{base:Heap}{k:Nat}{f:Addr}{qual:Str}{params:Arguments}{body:Expr}{scope:Scope}{cl:List (Str×Addr)}{vs:List V}{sp:Hp ->VK ->XK ->Prop}
   (S:LamS (cl.map (·.1)) scope) (hF:cl.length=vs.length) (hnd:(cl.map (·.2)).Nodup)
   (hb0:∀(pm:Value) (c':Addr) (ctv:Value),bindArgs (kla_fn "<lambda>" qual params body scope cl pm (.ref c') ctv) ⟨[],[]⟩=pure [])
   (hbody:∀(X:Cx) (cdv:Value) (A:Around) (outer:List Env) (s:Shared) (H:Hp) (Q:VK) (E:XK),X=C4b (CX1 P w) P w K mg base (cl.map (·.1)) qual scope f cdv cl A outer s (V7 (cl.map (·.2)) H) (fun C d H'=>(∀c∈cl.map (·.2),H' c=none) ->E C d (A1d (cl.map (·.2)) H H')) ->Room k X.A ->
     G5 X (fun C dd _ H'=>(∀c∈cl.map (·.2),H' c=none) ->E C dd (A1d (cl.map (·.2)) H H')) ->sp H Q E ->AllFrz (cl.map (·.2)) H ->
     ∃t,PE (C4b (CX1 P w) P w K mg base (cl.map (·.1)) qual scope f cdv cl A outer s (V7 (cl.map (·.2)) H) (fun C d H'=>(∀c∈cl.map (·.2),H' c=none) ->E C d (A1d (cl.map (·.2)) H H'))) body t/\t (vs.map some) (V7 (cl.map (·.2)) H) (fun v H'=>(∀c∈cl.map (·.2),H' c=none) ->Q v (A1d (cl.map (·.2)) H H'))):
   DeedOk P w K mg base (k+1) f (Z4n f qual params body scope cl vs) sp:=by
 refine⟨fun H h ⟨⟨pm,c',ctv,oc,e,_⟩,_⟩ hok=>?_,fun A outer s H Q E hr e0 ⟨⟨pm,c',ctv,oc,e,ec,vs',t',hd,hv⟩,hk⟩ hsp=>?_⟩
 . obtain⟨e1,_⟩:=hok f _ e
   exact⟨_,_,_,_,e1⟩
 obtain⟨e1,_⟩:=e0.hok f _ e
 obtain⟨e2,_⟩:=e0.hok c' _ ec
 have lim:s.heap.NoLimit:=e0.mod.nolimit.keeps fun b o e=>(e0.bs b o e).1
 have af:AllFrz (cl.map (·.2)) H:=by
   intro c hc
   obtain⟨⟨x,c2⟩,hm,rfl⟩:=List.mem_map.mp hc
   obtain⟨i,hi⟩:=List.mem_iff_getElem?.mp hm
   obtain⟨v,_,o,u,h3,_⟩:=hk i x c2 hi
   exact⟨o,h3⟩
 refine kla_callFunE hr.depth e1 rfl S.co S.gen rfl ⟨c',oc,vs',t',rfl,e2,hd,hv⟩ ?_
 rw[hb0]
 refine wpAny_pure (wpAny_newFunctionEnv S.nocell (fun x hx=>absurd hx (by simp)) (fun h1 hns hsb=>?_) S.kind)
 have hk1:∀b o,s.heap.get? b=some o ->h1.get? b=some o:=fun b o e=>(hsb.2 b (Nat.ne_of_lt (Heap.lt_size e))).trans (Heap.get?_push_of_some _ e)
 refine⟨lim.keeps hk1,?_⟩
 obtain⟨t,ht,hq⟩:=hbody _ (.ref c') A outer s H Q E rfl (hr.deeper _) G6c hsp af
 have hokH:HOk P w (V7 (cl.map (·.2)) H) s.heap:=e0.hok.hide af
 have look:∀x c,cl.lookup x=some c ->(x,c)∈cl:=fun x c z=>PySem.mem_of_lookup z
 have cell:∀x c,cl.lookup x=some c ->∃v,s.heap.IsCell c v:=fun x c z=>by
   obtain⟨i,hi⟩:=List.mem_iff_getElem?.mp (look x c z)
   obtain⟨v,_,o,u,h3,h4,_⟩:=hk i x c hi
   exact⟨_,o,(e0.hok c _ h3).1,h4⟩
 have incs:∀x c,cl.lookup x=some c ->c∈cl.map (·.2):=fun x c z=>List.mem_map.mpr ⟨(x,c),look x c z,rfl⟩
 generalize hX:C4b (CX1 P w) P w K mg base (cl.map (·.1)) qual scope f (.ref c') cl A outer s (V7 (cl.map (·.2)) H) (fun C d H'=>(∀c∈cl.map (·.2),H' c=none) ->E C d (A1d (cl.map (·.2)) H H'))=X at ht
 have I:Inv X [] (vs.map some) (V7 (cl.map (·.2)) H) {s with heap:=h1,toks:=s.toks+0}:=by
   subst hX
   refine⟨⟨e0.mod,S.kind,rfl,rfl,Nat.le_refl _,fun x y c z1 z2=>U9p hnd (look x c z1) (look y c z2),fun x z=>?_,(fun _ _ z=>by cases z),fun _=>hr.hd,Around.frames_deeper e0.frames,.inr ⟨rfl,rfl⟩,(fun b z=>absurd (show b∈([]:List Addr) from z) (by simp)),fun b o z=>⟨(e0.bs b o z).1,?_⟩,e0.bsz,(fun b o _ z=>absurd (show b∈([]:List Addr) from z) (by simp)),(fun b z=>absurd (show b∈([]:List Addr) from z) (by simp)),e0.funs,fun b hb=>?_⟩,
     rfl,e0.bare,Un.kept hk1,⟨_,hns,fun i x v z1 z2 z3=>?_⟩,fun x c z=>?_,hokH.fresh (Nat.le_refl _),fun x c z=>B6k (incs x c z),(fun p hp=>absurd (show p∈([]:List (Addr×Obj)) from hp) (by simp)),hokH.kept hk1,?_⟩
   . have z:scope.names.lookup x=some .cell\/scope.names.lookup x=some .free:=z
     rcases z with z|z
     . exact absurd rfl (S.nocell _ (PySem.mem_of_lookup z))
     . have hx:=S.fr _ (PySem.mem_of_lookup z) rfl
       obtain⟨⟨y,c⟩,hm,rfl⟩:=List.mem_map.mp hx
       obtain⟨i,hi⟩:=List.mem_iff_getElem?.mp hm
       exact⟨c,B7x S.nd hi⟩
   . exact B3t (e0.bs b o z).2
   . exact B3t (e0.frf b hb)
   . have z1:(cl.map (·.1))[i]?=some x:=z1
     rw[List.getElem?_map] at z1 z2
     cases q:cl[i]? with
     |none=>rw[q] at z1;cases z1
     | some p=>
       rw[q] at z1
       cases z1
       obtain⟨v2,h2,o,u,h3,h4,h5⟩:=hk i p.1 p.2 q
       rw[h2] at z2
       cases z2
       refine⟨u,h5,.inr ⟨.inr (S.at_ _ (List.mem_map.mpr ⟨p,List.mem_of_getElem? q,rfl⟩)),p.2,B7x S.nd q,o,hk1 _ _ (e0.hok _ _ h3).1,h4⟩⟩
   . obtain⟨v,o,h3,h4⟩:=cell x c z
     exact⟨v,o,hk1 _ _ h3,h4⟩
   . show(vs.map some).length=(cl.map (·.1)).length
     rw[List.length_map,List.length_map,hF]
 have res:∀{H':Hp} {s':Shared},Un (frs outer) [] (V7 (cl.map (·.2)) H) H' s.heap s'.heap ->HOk P w H' s'.heap ->Un (frs outer) [] H (A1d (cl.map (·.2)) H H') s.heap s'.heap/\HOk P w (A1d (cl.map (·.2)) H H') s'.heap/\∀c∈cl.map (·.2),H' c=none:=
   fun u x=>⟨Y8q u af,U9v u af e0.hok x e0.frf,U0z u af e0.hok⟩
 refine kla_codeExpr ?_
 have hA:X.A=A.deeper (envX qual scope s.heap.objs.size f (.ref c') cl):=by rw[<-hX];rfl
 have:=ht [] _ _ _ _ I hq
 subst hX
 refine wpAny_mono this (fun u s' ⟨v,H',I',r,q⟩=>?_) fun e s' z=>wpAny_mono z (fun _ s2 z2=>?_) fun e' s2 z2=>?_
 . obtain⟨r1,r2,r3⟩:=res I'.base I'.hok
   exact⟨v,_,I'.os,I'.bare,r1,r2,r,q r3⟩
 . obtain⟨a,t,C,dd,H',rfl,os,bare,un,hok,hE,⟨a1,a2⟩,T,oT,ts,z,ne,⟨t1,t2⟩,rest⟩:=z2
   obtain⟨r1,r2,r3⟩:=res un hok
   have nc:∀b,s.heap.get? b=none ->b ∉ cl.map (·.2):=fun b z hb=>by
     obtain⟨o,q⟩:=af b hb
     rw[(e0.hok b _ q).1] at z
     cases z
   exact⟨a,t,C,dd,_,rfl,os,bare,r1,r2,hE r3,⟨a1,by rw[Z0 (nc a a1)];exact a2⟩,T,oT,ts,z,ne,⟨t1,by rw[Z0 (nc T t1)];exact t2⟩,rest⟩
 . obtain⟨a,t,C,dd,H',rfl,os,bare,un,hok,hE,⟨a1,a2⟩,T,oT,ts,z,ne,⟨t1,t2⟩,rest⟩:=z2
   obtain⟨r1,r2,r3⟩:=res un hok
   have nc:∀b,s.heap.get? b=none ->b ∉ cl.map (·.2):=fun b z hb=>by
     obtain⟨o,q⟩:=af b hb
     rw[(e0.hok b _ q).1] at z
     cases z
   exact⟨a,t,C,dd,_,rfl,os,bare,r1,r2,hE r3,⟨a1,by rw[Z0 (nc a a1)];exact a2⟩,T,oT,ts,z,ne,⟨t1,by rw[Z0 (nc T t1)];exact t2⟩,rest⟩
section
variable{X:Cx}{j k:Nat}{f:Addr}{fd:FuncData}{ps:List Str}{sp:Sp}{ds:List Value}{EH:EK}{x:Str}{p pos:Pos}{e:Expr}{es:List Expr}{t:TA}{st:Stmt}
noncomputable def Z3v (P:Program) (w:World) (K:Frag) (mg:Str ->Option Value) (base:Heap) (k i:Nat) (EH:EK):TE:=fun σ H Q=>∃f J spd,σ[i]?=some (some (.ref f))/\DeedOk P w K mg base k f J spd/\J H/\spd H Q (fun C d H'=>EH C d σ H')
theorem Y6w{i:Nat}(hN:X.N[i]?=some x)(hv:Vis X.env.scope x)(hr:Room k X.A)(hx:G5 X EH)(hex:X.ex=[]:=by rfl)(hd:(x==("__debug__":Str))=false:=by decide)(hcd:(x==("__classdict__":Str))=false:=by decide):
   PE X (.Call (.Name x p) [] [] pos) (Z3v X.prog X.w X.K X.mg X.base k i EH):=by
 intro pins s σ H Q I ⟨f,J,spd,e,D,hJ,h⟩
 refine wpAny_Call_Name_kw (thn (V2v (pos:=p) hN hv hd hcd pins s σ H (fun v H'=>v= .ref f/\H'=H) I ⟨.ref f,e,rfl,rfl⟩) fun u s1 hh_=>?_)
 obtain⟨v,H1,I1,r,ev,eH⟩:=hh_
 subst ev eH
 obtain rfl:u=Value.ref f:=r
 refine callWith_F0 (D.fn _ _ hJ I1.hok) (wpAny_call (codeAny_mono (D.run X.A X.stack s1 H1 Q _ hr I1.env0 hJ h) fun r s' hq=>?_))
 cases r with
 |error e=>exact Y8u hx hex I1 hq
 | ok fl=>
   cases fl with
   |ret u=>exact I1.after hq
   |next=>exact False.elim hq
   |brk=>exact False.elim hq
   |cont=>exact False.elim hq
noncomputable def Z4m (sp:Sp) (cl:List (Str×Addr)) (js:List Nat) (EH:EK) (t:TA):TE:=fun σ H Q=>t σ H fun vs H1=>(∀c∈cl.map (·.2),H1 c=none) ->∀H2,(∀b,b ∉ cl.map (·.2) ->H2 b=H1 b) ->AllFrz (cl.map (·.2)) H2 ->
 (∀(i:Nat) (x:Str) (c:Addr) (j:Nat) (v:V),cl[i]?=some (x,c) ->js[i]?=some j ->σ[j]?=some (some v) ->V2s H2 c v) ->
 sp vs H2 (fun v H'=>(∀c∈cl.map (·.2),H' c=H2 c) ->Q v (V7 (cl.map (·.2)) H')) (fun C d H'=>(∀c∈cl.map (·.2),H' c=H2 c) ->EH C d σ (V7 (cl.map (·.2)) H'))
structure CellsZ(cl:List (Str×Addr))(js:List Nat)(XN:List Str)(env:Env):Prop where
 at_:∀(i:Nat) (x:Str) (c:Addr),cl[i]?=some (x,c) ->env.cells.lookup x=some c/\env.kindOf x=some .cell/\∀j,js[i]?=some j ->XN[j]?=some x
theorem D3w{cl:List (Str×Addr)}{js:List Nat}(D:Def X.K X.mg x ps st f fd)(F:FnOkG X.prog X.w X.K X.mg X.base (CX1 X.prog X.w) j f fd ps sp)(hgd:X.A.guards=some [])(hr:Room k X.A)(hx:G5 X EH)(Z:CellsZ cl js X.N X.env)(ha:PA X (e::es) t)(hj:j<=k:=by decide)(hfn:∀y,X.fn y=true:=by intro _;rfl)(hg:Gl X x:=by rfl)(hex:X.ex=[]:=by rfl)
   (hdb:(x==("__debug__":Str))=false:=by decide) (he:starEach (e::es) X.env=(false,eval e X.env)::starEach es X.env:=by rfl) (hpl:(backTo pos (starEach es X.env)).any (·.1)=false:=by rfl):PE X (.Call (.Name x p) (e::es) [] pos) (Z4m sp cl js EH t):=by
 intro pins s0 σ H0 Q I0 h0
 refine wpAny_Call_Name_kw (A1t I0 hg D.g ?_ hdb)
 refine PySem.W.callWith_K (h₀:=X.base) I0.ok.mod.kin D.F.kp (thn (ha pos pins s0 σ H0 _ I0 h0) fun us s ⟨vs,H,I,r,q⟩=>⟨I.kIn,?_⟩) he hpl
 have inn:∀c∈cl.map (·.2),∃x,X.env.cells.lookup x=some c:=fun c hc=>by
   obtain⟨⟨y,c2⟩,hm,rfl⟩:=List.mem_map.mp hc
   obtain⟨i,hi⟩:=List.mem_iff_getElem?.mp hm
   exact⟨y,(Z.at_ i y c2 hi).1⟩
 have hn:∀c∈cl.map (·.2),H c=none:=fun c hc=>by
   obtain⟨y,hy⟩:=inn c hc
   exact I.freeC y c hy
 have hc:∀c∈cl.map (·.2),∃o v,s.heap.get? c=some o/\o.data= .cell v:=fun c hc=>by
   obtain⟨y,hy⟩:=inn c hc
   obtain⟨v,o,h1,h2⟩:=I.cell y c hy
   exact⟨o,v,h1,h2⟩
 let H2:Hp:=fun b=>if b∈cl.map (·.2) then(s.heap.get? b).map fun o=> .frz o (.own b) else H b
 have h2i:∀c o,c∈cl.map (·.2) ->s.heap.get? c=some o ->H2 c=some (.frz o (.own c)):=fun c o hc e=>by
   show(if c∈cl.map (·.2) then _ else _)=_
   rw[if_pos hc,e]
   rfl
 have h2o:∀b,b ∉ cl.map (·.2) ->H2 b=H b:=fun b hb=>if_neg hb
 have A2:AllFrz (cl.map (·.2)) H2:=fun c hcc=>by
   obtain⟨o,v,h1,_⟩:=hc c hcc
   exact⟨o,h2i c o hcc h1⟩
 have out:∀b u,H b=some u ->b ∉ cl.map (·.2):=fun b u e z=>by rw[hn b z] at e;cases e
 have hok2:HOk X.prog X.w H2 s.heap:=fun b u e=>by
   by_cases hb:b∈cl.map (·.2)
   . obtain⟨o,v,h1,_⟩:=hc b hb
     rw[h2i b o hb h1] at e
     cases e
     exact⟨h1,o,h1⟩
   . rw[h2o b hb] at e
     exact(I.hok b u e).stay (fun _ _ _ q=>q) (fun d q=>by rw[h2o d (out d _ q)];exact q) fun d xs q=>by rw[h2o d (out d _ q)];exact q
 have ncell:∀b o,b∈cl.map (·.2) ->s.heap.get? b=some o ->∃v,o.data= .cell v:=fun b o hb e=>by
   obtain⟨o',v,h1,h2⟩:=hc b hb
   rw[e] at h1
   cases h1
   exact⟨v,h2⟩
 have e2 :Env0 X.prog X.w X.K X.mg X.base X.A X.stack s H2:=by
   have e0:=I.env0
   refine⟨e0.frames,e0.mod,fun b o z=>⟨(e0.bs b o z).1,?_⟩,e0.bsz,e0.funs,fun b hb=>?_,hok2,e0.bare⟩
   . rw[h2o b fun z2=>?_]
     . exact(e0.bs b o z).2
     . obtain⟨y,hy⟩:=inn b z2
       have:=Nat.le_trans I.ok.bsz (I.ok.cab y b (hfn y) hy)
       exact absurd (Nat.lt_of_lt_of_le (Heap.lt_size z) this) (Nat.lt_irrefl _)
   . rw[h2o b fun z2=>?_]
     . exact e0.frf b hb
     . obtain⟨y,hy⟩:=inn b z2
       rcases List.mem_cons.mp (I.stkSub b hb) with z3|z3
       . exact I.cne y b hy z3
       . obtain⟨_,o,ho,_⟩:=I.ok.funs.mem z3
         exact absurd (Nat.lt_of_lt_of_le (Heap.lt_size ho) (I.ok.cab y b (hfn y) hy)) (Nat.lt_irrefl _)
 have q2:=q hn H2 h2o A2 fun i y c j v h1 h2 h3=>by
   obtain⟨z1,z2,z3⟩:=Z.at_ i y c h1
   obtain⟨m,_,hl⟩:=I.loc
   obtain⟨u,r,l⟩:=hl j y v (z3 j h2) h3 (.inr (.inl z2))
   rcases l with⟨k,_⟩|⟨_,c',h4,o,h5,h6⟩
   . rw[z2] at k;cases k
   . rw[z1] at h4
     cases h4
     exact⟨o,u,h2i c o (List.mem_map.mpr ⟨(y,c),List.mem_of_getElem? h1,rfl⟩) h5,h6,r⟩
 have hl:us.length=ps.length:=by rw[<-r.length];exact F.len _ _ _ _ q2
 refine wpAny_call (codeAny_mono (F.run X.A X.stack s H2 ⟨us,[]⟩ us vs _ _ hgd (hr.mono hj) e2 (by have:=D.b s us I.kIn (by simpa using hl);simpa using this) r q2) fun r s' hq=>?_)
 have fin:∀{H':Hp},Un (frs X.stack) [] H2 H' s.heap s'.heap ->HOk X.prog X.w H' s'.heap ->Un (frs X.stack) [] H (V7 (cl.map (·.2)) H') s.heap s'.heap/\HOk X.prog X.w (V7 (cl.map (·.2)) H') s'.heap/\∀c∈cl.map (·.2),H' c=H2 c:=fun{H'} un hok=>by
   have same:∀c∈cl.map (·.2),H' c=H2 c:=fun c hcc=>by
     obtain⟨o,z⟩:=A2 c hcc
     rw[z]
     exact un.frzs c o _ z
   exact⟨Y8y un A2 h2o hn hok2 hok,hok.hide fun c hcc=>by rw[same c hcc];exact A2 c hcc,same⟩
 cases r with
 | error e=>
   obtain⟨a,t,C,dd,H',rfl,os,bare,un,hok,hE,⟨a1,a2⟩,T,oT,ts,z,ne,⟨t1,t2⟩,rest⟩:=hq
   obtain⟨r1,r2,r3⟩:=fin un hok
   exact Y8u hx hex I ⟨a,t,C,dd,_,rfl,os,bare,r1,r2,hE r3,⟨a1,B3t a2⟩,T,oT,ts,z,ne,⟨t1,B3t t2⟩,rest⟩
 | ok fl=>
   cases fl with
   | ret u=>
     obtain⟨v,H',os,bare,un,hok,rv,q3⟩:=hq
     obtain⟨r1,r2,r3⟩:=fin un hok
     exact I.after ⟨v,_,os,bare,r1,r2,rv,q3 r3⟩
   |next=>exact False.elim hq
   |brk=>exact False.elim hq
   |cont=>exact False.elim hq
end
theorem U3u{c P0:Addr}{P:Program}{w:World}{K:PySem.W.Frag}{mg mb:Str ->Option Value}{CX:CXT}{k:Nat}{fa a:Addr}{fd:FuncData}{x:Str}{sp:Sp}{s₁:Shared}{vs:List Value}{ns:List Int}
   (hC:CodeHd s₁.heap c P0) (hT:s₁.heap.get? P0=some (tabObj #[])) (hKP:K.lookup P0=none) (hbm:∃bm ob,mg "__builtins__"=some (.ref bm)/\bm≠builtinsNs/\s₁.heap.get? bm=some ob/\ob.cls= .type "module"/\ob.dict=some builtinsNs/\ob.data= .plain)
   (KX:K.In s₁.heap) (hns:s₁.heap.Ns mainGlobals mg) (hb:s₁.heap.Ns builtinsNs mb) (hbb:∀x:Str,x≠"__name__" ->mb x=bootBuiltins x) (hlim:s₁.heap.NoLimit) (hg:s₁.gens= #[])
   (ha:s₁.heap.get? a=some {cls:= .type "list",data:= .seq vs.toArray}) (hi:IntsAre vs ns) (hl:ns.length<=sizeLine) (hr:Room k callerA)
   (F:∀base:Heap,K.In base ->base.Ns mainGlobals mg ->LamB mg base c P0 ->FnOkG P w K mg base CX k fa fd [x] sp) (hbind:∀(s:Shared) (u:Value),BindsTo s fd ⟨[u],[]⟩ [(x,u)])
   (hsp:∀H:Hp,H P0=some (.tbl #[]) ->SqL K H a (ns.map V.int) ->sp [.ref a] H (fun v _=>v= .bl true) fun _ _ _=>False)
   (hCX:∀H e s',CX [] H s₁ (fun _ _ _=>False) e s' ->False):
   codeAny (model P w) callerA (.call (.ref fa) ⟨[.ref a],[]⟩) (fun r s'=>r= .ok (.ret (.bool true))/\OldK s₁.heap s'.heap/\s'.os=s₁.os/\AllBare s'.gens) s₁:=by
 have rv:=D1t hi
 have lenV:=hi.length
 have core :∀H:Hp,H P0=some (.tbl #[]) ->(∀b,H b=none\/b=P0\/∃o xs,H b=some (.frz o (.lst xs))) ->SqL K H a (ns.map V.int) ->HOk P w H s₁.heap ->(∀b,H b≠none ->b=P0\/b=a) ->(H a≠none ->K.lookup a=none) ->
     codeAny (model P w) callerA (.call (.ref fa) ⟨[.ref a],[]⟩) (fun r s'=>r= .ok (.ret (.bool true))/\OldK s₁.heap s'.heap/\s'.os=s₁.os/\AllBare s'.gens) s₁:=by
   intro H hPt hO hS hok hA hK
   have base_of:∀{b:Addr} {o:Obj},s₁.heap.get? b=some o ->H b=none ->(C7y s₁.heap H).get? b=some o:=fun e n=>V0x e n
   have noA:∀{b:Addr} {o:Obj} {es:Array DictEntry} {ep:Nat},s₁.heap.get? b=some o ->o.data= .dict es ep ->H b=none:=fun{b o es ep} e d=>by
     cases q:H b with
     |none=>rfl
     | some u=>
       rcases hA b (by rw[q];simp) with e'|e'
       . subst e'
         rw[hT] at e;cases e
         have d':Data.fields #[]=Data.dict es ep:=d
         cases d'
       . subst e'
         rw[ha] at e;cases e
         have d':Data.seq vs.toArray _=Data.dict es ep:=d
         cases d'
   have nsK:∀{b:Addr} {m:Str ->Option Value},s₁.heap.Ns b m ->(C7y s₁.heap H).Ns b m:=fun{b m} ⟨o,es,ep,e,d,r⟩=>⟨o,es,ep,base_of e (noA e d),d,r⟩
   have hKb:K.In (C7y s₁.heap H):=fun b o e=>base_of (KX b o e) (by
     cases q:H b with
     |none=>rfl
     | some u=>
       rcases hA b (by rw[q];simp) with e'|e'
       . subst e'
         rw[hKP] at e;cases e
       . subst e'
         rw[hK (by rw[q];simp)] at e;cases e)
   have noC:∀{b:Addr} {o:Obj},s₁.heap.get? b=some o ->o≠tabObj #[] ->(∀n,o≠{cls:= .type "list",data:= .seq vs.toArray n}) ->H b=none:=fun{b o} e n1 n2=>by
     cases q:H b with
     |none=>rfl
     | some u=>
       rcases hA b (by rw[q];simp) with e'|e'
       . subst e'
         rw[hT] at e;cases e
         exact absurd rfl n1
       . subst e'
         rw[ha] at e;cases e
         exact absurd rfl (n2 _)
   have hLB:LamB mg (C7y s₁.heap H) c P0:=by
     refine⟨?_,?_⟩
     . obtain⟨o,vs1,file,tf,flags,tg,inF,text,tt,e1,r1,r2⟩:=hC
       exact⟨o,vs1,file,tf,flags,tg,inF,text,tt,base_of e1 (noC e1 (fun z=>by rw[z] at r1;cases r1) fun n z=>by rw[z] at r1;exact absurd (Value.type.inj r1) (by decide)),r1,r2⟩
     . obtain⟨bm,ob,b1,b2,b3,b4,b5,b6⟩:=hbm
       refine⟨bm,ob,b1,b2,?_,base_of b3 (noC b3 (fun z=>by rw[z] at b4;cases b4) fun n z=>by rw[z] at b4;exact absurd (Value.type.inj b4) (by decide)),b4,b5,b6⟩
       rintro rfl
       obtain⟨o,es,ep,e,d,_⟩:=hns
       rw[b3] at e;cases e
       rw[b6] at d;cases d
   have hM:Mod K mg (C7y s₁.heap H):=⟨hKb,nsK hns,⟨mb,nsK hb,hbb⟩,let⟨mc,h1,h2⟩:=hlim;⟨mc,nsK h1,h2⟩⟩
   have e0:Env0 P w K mg (C7y s₁.heap H) callerA [] s₁ H:=⟨rfl,hM,fun b o e=>Y6y e,Nat.le_of_eq (U5d _ _),trivial,fun b hb=>absurd (show b∈([]:List Addr) from hb) (by simp),hok,.of_eq hg⟩
   refine codeAny_mono ((F _ hKb (nsK hns) hLB).run callerA [] s₁ H ⟨[.ref a],[]⟩ [.ref a] [.ref a] _ _ rfl hr e0 (hbind s₁ (.ref a)) (.cons rfl .nil) (hsp H hPt hS)) fun r s' h=>?_
   cases r with
   |error e=>exact(hCX H e s' h).elim
   | ok fl =>
     cases fl with
     |next=>exact False.elim h
     |brk=>exact False.elim h
     |cont=>exact False.elim h
     | ret u=>
       obtain⟨v,H',os,bare,un,hok',r',q⟩:=h
       have q':v= .bl true:=q
       subst q'
       obtain rfl:u=Value.bool true:=r'
       obtain⟨more,hm⟩:=un.tbls P0 _ hPt
       have hP':s'.heap.get? P0=some (tabObj (#[]++more)):=hok' P0 _ hm
       have kp:∀b o,b≠P0 ->s₁.heap.get? b=some o ->s'.heap.get? b=some o:=fun b o nb e=>?_
       refine⟨rfl,⟨fun b o e=>?_,fun b o e=>?_⟩,os,bare⟩
       . by_cases hb:b=P0
         . subst hb
           rw[hT] at e
           cases e
           exact .inr (.inl ⟨(hC.tab hT).isCodeTable,rfl, #[],more,rfl,hP'⟩)
         . exact .inl (kp b o hb e)
       . by_cases hb:b=P0
         . exact⟨_,by rw[hb];exact hP'⟩
         . exact⟨o,kp b o hb e⟩
       cases q:H b with
       |none=>exact un.keep b o e q (by intro z;exact absurd (show b∈([]:List Addr) from z) (by simp)) (by simp)
       | some u=>
         rcases hO b with z|z|⟨ob,xs,z⟩
         . rw[q] at z;cases z
         . exact absurd z nb
         . have z2:=un.frzs b ob _ z
           obtain⟨e1,_⟩:=hok b _ z
           obtain⟨e2,_⟩:=hok' b _ z2
           rw[e] at e1;cases e1
           exact e2
 have nPa:P0≠a:=fun z=>by rw[z,ha] at hT;cases hT
 cases hk:K.lookup a with
 | some o=>
   have e:=KX a o hk
   rw[ha] at e
   cases e
   refine core (fun b=>if b=P0 then some (.tbl #[]) else none) (if_pos rfl) (fun b=>?_) (.inr ⟨_,vs.toArray,_,hk,rfl,rfl,rfl,by rw[List.size_toArray,lenV];exact hl,by simpa using rv⟩) (fun b u z=>?_) (fun b z=>?_) fun z=>absurd (if_neg nPa.symm) z
   . by_cases hb:b=P0
     . exact .inr (.inl hb)
     . exact .inl (if_neg hb)
   . by_cases hb:b=P0
     . have z':=(if_pos hb).symm.trans z
       cases z'
       subst hb
       exact hT
     . have z':=(if_neg hb).symm.trans z
       cases z'
   . by_cases hb:b=P0
     . exact .inl hb
     . exact absurd (if_neg hb) z
 | none=>
   refine core (fun b=>if b=P0 then some (.tbl #[]) else if b=a then some (.frz {cls:= .type "list",data:= .seq vs.toArray} (.lst (ns.map V.int))) else none) (if_pos rfl) (fun b=>?_) (.inl (.inr ⟨{cls:= .type "list",data:= .seq vs.toArray},(if_neg nPa.symm).trans (if_pos rfl)⟩)) (fun b u z=>?_) (fun b z=>?_) fun _=>hk
   . by_cases hp:b=P0
     . exact .inr (.inl hp)
     . by_cases hb:b=a
       . exact .inr (.inr ⟨_,_,(if_neg hp).trans (if_pos hb)⟩)
       . exact .inl ((if_neg hp).trans (if_neg hb))
   . by_cases hp:b=P0
     . have z':=(if_pos hp).symm.trans z
       cases z'
       subst hp
       exact hT
     . by_cases hb:b=a
       . have z':=((if_neg hp).trans (if_pos hb)).symm.trans z
         cases z'
         subst hb
         exact⟨ha,by rw[List.length_map];exact hl,vs,_,rv,ha⟩
       . have z':=((if_neg hp).trans (if_neg hb)).symm.trans z
         cases z'
   . by_cases hp:b=P0
     . exact .inl hp
     . by_cases hb:b=a
       . exact .inr hb
       . exact absurd ((if_neg hp).trans (if_neg hb)) z
theorem walk_ofL{c P0:Addr}{l:PySem.W.OpenLaw}{n k:Nat}{q:Program}{loose:List Str}{XP:(Str ->Option Value) ->Heap ->Prop}{YP:World ->Heap ->Prop}{d:DefRec}{K:Params ->PySem.W.Frag}{CX:World ->CXT}{sp:World ->Sp}{x:Str}
   (hn:l.most=some n) (hn2:n<=sizeLine) (hdf:d.params.defaults=[]) (hr:Room k callerA)
   (hY:∀(w:World) (h:Heap),YP w h ->(K w.params).In h/\CodeHd h c P0/\h.get? P0=some (tabObj #[])) (hKP:∀p,(K p).lookup P0=none)
   (F:∀(w:World) (mg:Str ->Option Value) (fa:Addr) (h:Heap),(K w.params).In h ->h.Ns mainGlobals mg ->mg d.name=some (.ref fa) ->
     ∃ fd:FuncData,(∀(s:Shared) (u:Value),BindsTo s fd ⟨[u],[]⟩ [(x,u)])/\
       ∀base:Heap,(K w.params).In base ->base.Ns mainGlobals mg ->LamB mg base c P0 ->FnOkG l.prog w (K w.params) mg base (CX w) k fa fd [x] (sp w))
   (hsp:∀(w:World) (H:Hp) (a:Addr) (ns:List Int),ns.length<=n ->H P0=some (.tbl #[]) ->SqL (K w.params) H a (ns.map V.int) ->sp w [.ref a] H (fun v _=>v= .bl true) fun _ _ _=>False)
   (hCX:∀(w:World) (H:Hp) (s:Shared) (e:Value) (s':Shared),CX w [] H s (fun _ _ _=>False) e s' ->False):
   PySem.W.WalkO q loose XP YP l.row.toRowW d [] (fun f vs=>PySem.call f vs):=by
 refine Att.attach_call hn hdf fun w s₀ s₁ mg mb fa o pm cd doc a vs ns G Y ho hd hcd hmg hobj hints hlen hg=>?_
 obtain⟨KX,hC,hT⟩:=hY w _ Y
 obtain⟨fd,hb,hF⟩:=F w mg fa _ KX G.T.g hmg
 exact U3u hC hT (hKP _) G.T.bmain KX G.T.g G.T.b G.T.builtins G.T.nolimit hg hobj hints (Nat.le_trans hlen hn2) hr hF hb (fun H hO hS=>hsp w H a ns hlen hO hS) fun H e s'=>hCX w H s₁ e s'
section
variable{X:Cx}
end
noncomputable def Z6e (H H':Hp):Prop:=∀b o,(∀ps,o≠ .tbl ps) ->H b=some o ->H' b=some o
theorem SameT.keep{P:Addr}{ps:Array Value}{H H':Hp}(s:SameT P H H')(h:H P=some (.tbl ps)):Z6e H H':=fun b o n e=>s b o (fun z=>by rw[z,h] at e;exact n ps (Option.some.inj e).symm) e
theorem TabOk.same{P:Addr}{pos:Pos}{q:Str}{H H':Hp}(h:TabOk P pos q H)(s:∀b o,H b=some o ->H' b=some o):TabOk P pos q H':=by
 obtain⟨ps,e,t,c⟩:=h
 exact⟨ps,s _ _ e,t,c.imp id fun⟨c',oc,a,b,d⟩=>⟨c',oc,a,s _ _ b,d⟩⟩
theorem SqL.kept{K:Frag}{H H':Hp}{a:Addr}{xs:List V}(h:SqL K H a xs)(s:∀o,H a=some o ->(o= .lst xs\/∃oc,o= .frz oc (.lst xs)) ->H' a=some o):SqL K H' a xs:=by
 rcases h with(h|⟨o,h⟩)|h
 . exact .inl (.inl (s _ h (.inl rfl)))
 . exact .inl (.inr ⟨o,s _ h (.inr ⟨o,rfl⟩)⟩)
 . exact .inr h
theorem Fun.okEL{P:Program}{w:World}{K:Frag}{mg:Str ->Option Value}{base:Heap}{x qual:Str}{st:Stmt}{f c:Addr}{fd:FuncData}{N ps:List Str}{k:Nat}{sp:Sp}(F:Fun K x qual st f fd)(hc0:fd.code= .ref c)(S:FnScope N ps (A3 st))(len:∀vs H Q E,sp vs H Q E ->vs.length=ps.length)
   (hbody:∀(X:Cx) (A:Around) (outer:List Env) (s:Shared) (H:Hp) (vs:List V) (Q:VK) (E:XK),X=A0f (CX1 P w) P w K mg base N qual (A3 st) f (.ref c) A outer s H E ->X.A.guards=some [] ->Room k X.A ->G5 X (fun C dd _ H'=>E C dd H') ->sp vs H Q E ->
     ∃t,PSs (A0f (CX1 P w) P w K mg base N qual (A3 st) f (.ref c) A outer s H E) (B9 st) t/\t {nx:=fun _ H'=>Q .non H',rt:=Q} (A4a N vs) H):FnOkG P w K mg base (CX1 P w) (k+1) f fd ps sp:=by
 obtain⟨oc,od,kV,doc,pm,an,cdv,ct,osl,rfl,lk,hc⟩:=F.ex
 obtain rfl:cdv= .ref c:=hc0
 exact V1q lk hc S len fun A outer s H vs Q E hg hr h=>hbody _ A outer s H vs Q E rfl hg hr A6z h
theorem D4j{P:Program}{w:World}{K:Frag}{mg:Str ->Option Value}{base:Heap}{k:Nat}{f:Addr}{qual:Str}{params:Arguments}{body:Expr}{scope:Scope}{cl:List (Str×Addr)}{vs:List V}{sp:Hp ->VK ->XK ->Prop}{H0:Hp}(la:LamAt H0 f qual params body scope cl)
   (S:LamS (cl.map (·.1)) scope) (hF:cl.length=vs.length) (hnd:(cl.map (·.2)).Nodup)
   (hb0:∀(pm:Value) (c':Addr) (ctv:Value),bindArgs (kla_fn "<lambda>" qual params body scope cl pm (.ref c') ctv) ⟨[],[]⟩=pure [])
   (hbody:∀(X:Cx) (cdv:Value) (A:Around) (outer:List Env) (s:Shared) (H:Hp) (Q:VK) (E:XK),X=C4b (CX1 P w) P w K mg base (cl.map (·.1)) qual scope f cdv cl A outer s (V7 (cl.map (·.2)) H) (fun C d H'=>(∀c∈cl.map (·.2),H' c=none) ->E C d (A1d (cl.map (·.2)) H H')) ->Room k X.A ->
     G5 X (fun C dd _ H'=>(∀c∈cl.map (·.2),H' c=none) ->E C dd (A1d (cl.map (·.2)) H H')) ->sp H Q E ->AllFrz (cl.map (·.2)) H ->
     ∃t,PE (C4b (CX1 P w) P w K mg base (cl.map (·.1)) qual scope f cdv cl A outer s (V7 (cl.map (·.2)) H) (fun C d H'=>(∀c∈cl.map (·.2),H' c=none) ->E C d (A1d (cl.map (·.2)) H H'))) body t/\t (vs.map some) (V7 (cl.map (·.2)) H) (fun v H'=>(∀c∈cl.map (·.2),H' c=none) ->Q v (A1d (cl.map (·.2)) H H'))):
   DeedOk P w K mg base (k+1) f (Z4n f qual params body scope cl vs) sp:=Y8j S hF hnd hb0 hbody
theorem LamAt.kept{H H':Hp}{f:Addr}{qual:Str}{params:Arguments}{body:Expr}{scope:Scope}{cl:List (Str×Addr)}(h:LamAt H f qual params body scope cl)(s:∀b o,H b=some (.frz o (.own b)) ->H' b=some (.frz o (.own b))):LamAt H' f qual params body scope cl:=by
 obtain⟨pm,c',ctv,oc,e1,e2,r⟩:=h
 exact⟨pm,c',ctv,oc,s _ _ e1,s _ _ e2,r⟩
section
variable{X:Cx}{tg:Expr}
end
section
variable{X:Cx}
end
section
variable{prog:Program}{w:World}{A:Around}{E:Value ->Shared ->Prop}{s:Shared}
end
section
variable{X:Cx}{pos:Pos}
end
section
variable{X:Cx}{pos tpos pa pb:Pos}
end
section
variable{X:Cx}{N F:List Str}{js:List Nat}{scope:Scope}
end
section
variable{X:Cx}{tg:Expr}
end
section
variable{X:Cx}{pins:List (Addr×Obj)}{σ:St}{H:Hp}{s:Shared}
end
section
variable{X:Cx}{tg:Expr}
end
end L2
namespace TR
open PySem L2 PySem.W PyProof.Rows
structure OwnK(K:Frag):Prop where
 isi:nsIn K mainGlobals "isinstance"=some none
 int_:nsIn K mainGlobals "int"=some none
 bool_:nsIn K mainGlobals "bool"=some none
 str_:nsIn K mainGlobals "str"=some none
 list_:nsIn K mainGlobals "list"=some none
 tuple_:nsIn K mainGlobals "tuple"=some none
 dict_:nsIn K mainGlobals "dict"=some none
 len_:nsIn K mainGlobals "len"=some none
 range_:nsIn K mainGlobals "range"=some none
 min_:nsIn K mainGlobals "min"=some none
 max_:nsIn K mainGlobals "max"=some none
 abs_:nsIn K mainGlobals "abs"=some none
 any_:nsIn K mainGlobals "any"=some none
 all_:nsIn K mainGlobals "all"=some none
 sum_:nsIn K mainGlobals "sum"=some none
 repr_:nsIn K mainGlobals "repr"=some none
 enumerate_:nsIn K mainGlobals "enumerate"=some none
 reversed_:nsIn K mainGlobals "reversed"=some none
 zip_:nsIn K mainGlobals "zip"=some none
 sorted_:nsIn K mainGlobals "sorted"=some none
 divmod_:nsIn K mainGlobals "divmod"=some none
 set_:nsIn K mainGlobals "set"=some none
 ValueError_:nsIn K mainGlobals "ValueError"=some none
end TR
namespace L2
open PySem PySem.Spec PyProof.Rows PySem.W
section
variable{X:Cx}{j k:Nat}{f:Addr}{EH:EK}{x y:Str}{p p1 pos:Pos}
end
noncomputable def HdA (a:Addr) (H:Hp):Prop:=∃o u vs,H a=some (.frz o u)/\o.data= .fields vs/\vs[2]?=some .none
noncomputable def V1k (a:Addr) (n:Nat) (js:List Nat) (wi:TI) (g:TG) (tc:TT) (te:TE):TE:=fun σ H Q=>wi σ H fun J H1=>HdA a H1/\∀D,H1 D=none ->
 ∃ (m:Nat) (W:Nat ->List V ->Hp ->Prop),W 0 [] (upd H1 D (.lst []))/\∀i ys H2,W i ys H2 ->i<=m/\H2 D=some (.lst ys)/\((J.stop i H2/\Q (.ref D) H2)\/(i<m/\J.go i H2/\∀x H3,J.yld i H2 x H3 ->
   g x (List.replicate n none++A5g js σ) H3 fun σ4 H4=>tc σ4 H4 fun b H5=>if b=true then te σ4 H5 fun y H6=>H6 D=some (.lst ys)/\ys.length<sizeLine/\W (i+1) (ys++ [y]) (upd H6 D (.lst (ys++ [y]))) else W (i+1) ys H5))
section
variable{X:Cx}{N F:List Str}{js:List Nat}{scope:Scope}
theorem J1e{elt target iter c:Expr}{scope:Scope}{pos:Pos}{N F:List Str}{js:List Nat}{wi:TI}{g:TG}{tc:TT}{te:TE}(S:CompScopeF N F js scope X.N X.env){a:Addr}(hda:X.A.handled=some (.ref a))(hi:PIH X target iter wi)(hex:X.ex=[])
   (hg:∀C s₀ H₀ ex pn,A0q (X.compF scope N F C s₀ H₀ ex pn) ->PG (X.compF scope N F C s₀ H₀ ex pn) target g)
   (hc:∀C s₀ H₀ ex pn,A0q (X.compF scope N F C s₀ H₀ ex pn) ->PT (X.compF scope N F C s₀ H₀ ex pn) c tc)
   (he:∀C s₀ H₀ ex pn,A0q (X.compF scope N F C s₀ H₀ ex pn) ->PE (X.compF scope N F C s₀ H₀ ex pn) elt te)
   {pins:List (Addr×Obj)} {s:Shared} {σ:St} {H:Hp} {Q:VK} {RR:Value ->Env ->Result ->Shared ->Prop} (I:Inv X pins σ H s) (h:(V1k a N.length js wi g tc te) σ H Q)
   (hRR:∀(D C:Addr) (s6:Shared) (H5:Hp) (mm:Str ->Option Value),Inv X pins σ H5 s6 ->s6.heap.Ns C mm ->A4g X pins H5 C ->Q (.ref D) H5 ->RR (.ref D) (compEnvC scope (A2e F X.env) C X.env) (.ok .next) s6):
   wpAny (model X.prog X.w) X.A (eval iter X.env) (fun v s1=>wpAny (model X.prog X.w) X.A (pyIter v) (fun itv s2=>wpAny (model X.prog X.w) X.A (newList []) (fun acc s3=>wpAny (model X.prog X.w) X.A (newFunctionEnv scope X.env.globals (A2e F X.env) [] X.env.qual none .none (some X.env)) (fun cenv s4=>
     codeAny (model X.prog X.w) X.A (.compStart (.ListComp elt [⟨target,iter,[c],0⟩] scope pos) 0 itv acc {cenv with scope:=relabel scope X.env}) (RR acc {cenv with scope:=relabel scope X.env}) s4) X.xe s3) X.xe s2) X.xe s1) X.xe s:=by
 refine thn (hi pins s σ H _ I h) fun v s1 h1=>thn h1 fun itv s2 h2=>?_
 obtain⟨it,tn,J,H2,rfl,I2,T,st2,f2,R⟩:=h2
 obtain⟨oi,ei,di⟩:=T.obj _ _ st2
 have hf2:=I2.hok.fresh (Nat.le_refl _)
 refine wpAny_newObj_type ?_
 have I3:Inv X pins σ (upd H2 s2.heap.objs.size (.lst [])) {s2 with heap:=s2.heap.push {cls:= .type "list",dict:=none,data:= .seq ([]:List Value).toArray}}:=Inv.lnew (t':=s2.toks) I2 .nil (Nat.zero_le _)
 refine wpAny_newFunctionEnv S.cell (by intro y hy;simp at hy) (fun h4 hns hsb=>?_) S.kind
 dsimp only at hns hsb ⊢
 generalize hG:s2.heap.push {cls:= .type "list",dict:=none,data:= .seq ([]:List Value).toArray}=G at I3 hns hsb ⊢
 generalize hD:s2.heap.objs.size=D at I3 hf2
 have nD:it≠D:=by rw[<-hD];exact Nat.ne_of_lt (Heap.lt_size ei)
 have eiG:G.get? it=some oi:=by rw[<-hG];exact Heap.get?_push_of_some _ ei
 have kp:∀b o,G.get? b=some o ->h4.get? b=some o:=fun b o e=>hsb.extBut b o (Nat.ne_of_lt (Heap.lt_size e)) (Heap.get?_push_of_some _ e)
 have f3:A4g X pins (upd H2 D (.lst [])) it:=⟨by rw[D4 nD];exact f2.1,f2.2⟩
 have nb:X.base.get? it=none:=by
   cases q:X.base.get? it with
   |none=>rfl
   | some o=>
     have:=(I.ok.bs it o q).1
     rcases f2.2.2.2.1 with z|z
     . rw[hex] at z;simp at z
     . exact absurd (Nat.lt_of_lt_of_le (Heap.lt_size this) z) (Nat.lt_irrefl _)
 have hns':h4.Ns G.objs.size (fun _=>none):=by
   obtain⟨o,es,ep,q1,q2,q3,q4⟩:=hns
   exact⟨o,es,ep,q1,q2,q3,fun x=>by rw[q4];rfl⟩
 have I4:=U3x (tk:=s2.toks+([]:List (Str×Value)).length) S I3 f3 ⟨oi,eiG⟩ nb hns' kp
 have hdc:A0q (X.compF scope N F G.objs.size {s2 with heap:=G} (upd H2 D (.lst [])) [it] (X.pn++pins)):=by
   obtain⟨o,u,vs,e,d,n⟩:=R.1
   . refine .inr ⟨a,o,u,vs,hda,?_,d,n⟩
     have q:=e
     show upd H2 D (.lst []) a=_
     rw[D4 fun w=>by rw[w,hf2] at q;cases q]
     exact q
 obtain⟨m,W,w0,turn⟩:=R.2 D hf2
 have gg:=hg _ _ _ _ _ hdc
 have cc:=hc _ _ _ _ _ hdc
 have ee:=he _ _ _ _ _ hdc
 have fpc:∀{H':Hp} {σ':St} {s':Shared} {pl:List (Addr×Obj)},Inv (X.compF scope N F G.objs.size {s2 with heap:=G} (upd H2 D (.lst [])) [it] (X.pn++pins)) pl σ' H' s' ->H' it=none ->(∀p∈pl,p.1≠it) ->A4g (X.compF scope N F G.objs.size {s2 with heap:=G} (upd H2 D (.lst [])) [it] (X.pn++pins)) pl H' it:=by
   intro H' σ' s' pl J' hn hp
   refine⟨hn,Nat.ne_of_lt (Heap.lt_size eiG),?_,.inl (List.mem_singleton.mpr rfl),(fun x c z=>f2.2.2.2.2.1 x c (S.sub x c z)),fun p hpp=>?_⟩
   . intro z
     rcases List.mem_cons.mp (I.stkSub it z) with z|z
     . exact f2.2.1 z
     . exact f2.2.2.1 z
   . rcases List.mem_append.mp hpp with z|z
     . exact f2.2.2.2.2.2 p z
     . exact hp p z
 have loop:codeAny (model X.prog X.w) X.A (.compLoop (.ListComp elt [⟨target,iter,[c],0⟩] scope pos) 0 (.ref it) (.ref D) (compEnvC scope (A2e F X.env) G.objs.size X.env))
     (RR (.ref D) (compEnvC scope (A2e F X.env) G.objs.size X.env))
     {s2 with heap:=h4,toks:=s2.toks+([]:List (Str×Value)).length}:=by
   refine kct_loop (fun k s'=>∃i ys H',k=m+1-i/\Inv (X.compF scope N F G.objs.size {s2 with heap:=G} (upd H2 D (.lst [])) [it] (X.pn++pins)) [] (List.replicate N.length none++A5g js σ) H' s'/\tn i s'.heap/\H' it=none/\W i ys H') ?_ (m+1)
     ⟨0,[],_,rfl,I4,T.keep _ _ _ st2 fun o e=>kp it o (by rw[<-hG];exact Heap.get?_push_of_some _ e),f3.1,w0⟩
   rintro k s5 ⟨i,ys,H5,rfl,I5,st5,n5,w5⟩
   obtain⟨hi5,hD5,w5⟩:=turn i ys H5 w5
   rcases w5 with⟨stop,q⟩|⟨lt5,go,step⟩
   . refine wpAny_mono (T.done (X.compF scope N F G.objs.size {s2 with heap:=G} (upd H2 D (.lst [])) [it] (X.pn++pins)) rfl rfl rfl hdc i [] s5 _ H5 (fun _ _=>False) I5 (fpc I5 n5 (by simp)) st5 stop) (fun r s6 z=>?_) (fun _ _ z=>z.elim)
     obtain⟨rfl,I6⟩:=z
     obtain⟨mm,hn6,_⟩:=I6.loc
     have B6:=I6.base
     have J6:Inv X pins σ H5 s6:=by
       refine I3.call' (ch:=[it]) I6.os ⟨B6.keep,B6.slot,B6.free,B6.there,B6.tups,B6.frzs,B6.tbls⟩ I6.hok I6.bare (fun b hb=>?_)
       have e:b=it:=by simpa using hb
       subst e
       exact⟨f2.2.2.2.1,f2.2.1,f2.2.2.2.2.1,f2.2.2.2.2.2⟩
     have szG:X.s₀.heap.objs.size<=G.objs.size:=I3.sz
     refine hRR D G.objs.size s6 H5 mm J6 hn6 ⟨I6.free,?_,?_,.inr szG,?_,?_⟩ q
     . exact Nat.ne_of_gt I3.lt
     . intro z
       obtain⟨_,o,ho,_⟩:=I3.funs.mem z
       exact Nat.lt_irrefl _ (Heap.lt_size ho)
     . rintro x c z rfl
       obtain⟨v',o,ho,_⟩:=I3.cell x _ z
       exact Nat.lt_irrefl _ (Heap.lt_size ho)
     . rintro p hp z
       have zz:=(I3.pin p hp).1
       rw[z] at zz
       exact Nat.lt_irrefl _ (Heap.lt_size zz)
   . refine wpAny_mono (T.item (X.compF scope N F G.objs.size {s2 with heap:=G} (upd H2 D (.lst [])) [it] (X.pn++pins)) rfl rfl rfl hdc i [] s5 _ H5 (fun _ _=>False) I5 (fpc I5 n5 (by simp)) st5 go) (fun r s6 z=>?_) (fun _ _ z=>z.elim)
     obtain⟨u,rfl,z⟩:=z
     refine wpAny_mono z (fun _ s7 z=>?_) (fun _ _ z=>z.elim)
     obtain⟨x,I7,rx,yl,st7⟩:=z
     obtain⟨o7,e7,d7⟩:=T.obj _ _ st7
     obtain⟨p0,p1,p2,_⟩:=fpc I7 n5 (by simp)
     have I7':Inv (X.compF scope N F G.objs.size {s2 with heap:=G} (upd H2 D (.lst [])) [it] (X.pn++pins)) [(it,o7)] (List.replicate N.length none++A5g js σ) H5 s7:=I7.pins_of fun p hp=>by
       have e:p=(it,o7):=by simpa using hp
       subst e
       exact⟨e7,p0,p1,p2,d7⟩
     have back:∀{i':Nat} {ys':List V} {H':Hp} {σ':St} {s':Shared},i'=i+1 ->Inv (X.compF scope N F G.objs.size {s2 with heap:=G} (upd H2 D (.lst [])) [it] (X.pn++pins)) [(it,o7)] σ' H' s' ->W i' ys' H' ->
         ∃k',k'<m+1-i/\∃i ys H',k'=m+1-i/\Inv (X.compF scope N F G.objs.size {s2 with heap:=G} (upd H2 D (.lst [])) [it] (X.pn++pins)) [] (List.replicate N.length none++A5g js σ) H' s'/\tn i s'.heap/\H' it=none/\W i ys H':=by
       rintro i' ys' H' σ' s' rfl J' w'
       obtain⟨q1,q2,_⟩:=J'.pin (it,o7) (List.mem_append_right _ (List.mem_singleton.mpr rfl))
       refine⟨m+1-(i+1),by omega,i+1,ys',H',rfl,U4a S I3 f3 J',T.keep _ _ _ st7 fun o z=>?_,q2,w'⟩
       rw[e7] at z
       cases z
       exact q1
     refine wpAny_mono (gg [(it,o7)] s7 _ H5 x u _ I7' rx (step x H5 yl)) (fun _ s8 z=>?_) (fun _ _ z=>z.elim)
     obtain⟨σ8,H8,I8,q8⟩:=z
     refine wpAny_mono (cc [(it,o7)] s8 σ8 H8 _ I8 q8) (fun b s9 z=>?_) (fun _ _ z=>z.elim)
     obtain⟨H9,I9,q9⟩:=z
     cases b with
     | false=>
       simp only[Bool.false_eq_true,if_false] at q9 ⊢
       exact back rfl I9 q9
     | true=>
       simp only[if_true] at q9 ⊢
       refine wpAny_mono (ee [(it,o7)] s9 σ8 H9 _ I9 q9) (fun y s10 z=>?_) (fun _ _ z=>z.elim)
       obtain⟨yv,H10,I10,ry,hD10,hz10,w10⟩:=z
       refine wpAny_mono (B8e (X:=X.compF scope N F G.objs.size {s2 with heap:=G} (upd H2 D (.lst [])) [it] (X.pn++pins)) [(it,o7)] s10 σ8 H10 (.ref D) [yv] (.ref D) [y] (fun _ H11=>W (i+1) (ys++ [yv]) H11) I10 rfl (.cons ry .nil) ⟨D,ys,yv,rfl,rfl,hD10,hz10,w10⟩) (fun _ s11 z=>?_) (fun _ _ z=>z.elim)
       obtain⟨_,H11,I11,_,w11⟩:=z
       exact back rfl I11 w11
 exact codeAny_compStart_list loop (T.self _ 0 _ _ _ (T.keep _ _ _ st2 fun o e=>kp it o (by rw[<-hG];exact Heap.get?_push_of_some _ e)) loop)
end
section
variable{X:Cx}{N F:List Str}{js:List Nat}{scope:Scope}
theorem V2a{elt target iter:Expr}{c:Expr}{tc:TT}{pos:Pos}{wi:TI}{g:TG}{te:TE}(S:CompScopeF N F js scope X.N X.env){a:Addr}(hda:X.A.handled=some (.ref a))(hi:PIH X target iter wi)(hex:X.ex=[])
   (hg:∀C s₀ H₀ ex pn,A0q (X.compF scope N F C s₀ H₀ ex pn) ->PG (X.compF scope N F C s₀ H₀ ex pn) target g)
   (hc:∀C s₀ H₀ ex pn,A0q (X.compF scope N F C s₀ H₀ ex pn) ->PT (X.compF scope N F C s₀ H₀ ex pn) c tc)
   (he:∀C s₀ H₀ ex pn,A0q (X.compF scope N F C s₀ H₀ ex pn) ->PE (X.compF scope N F C s₀ H₀ ex pn) elt te)
   (hs:∀x,foldedSetIterable iter X.env x=pure x:=by intro _;rfl):PE X (.ListComp elt [⟨target,iter,[c],0⟩] scope pos) (V1k a N.length js wi g tc te):=by
 intro pins s σ H Q I h
 rw[eval_ListComp]
 refine wpAny_comprehension_free (use:=none) rfl hs S.clos S.kind S.loc (J1e S hda hi hex hg hc he I h (RR:=fun acc ce r s'=>compPost (model X.prog X.w) X.A X.xe none (EP X pins σ Q) acc ce.locals r s') ?_)
 intro D C s6 H5 mm I6 n6 f6 q
 exact⟨mm,n6,fun h' sb=>⟨.ref D,H5,V3e I6 f6 sb,rfl,q⟩⟩
end
end L2
namespace TR
open PySem L2 PySem.W PyProof.Rows
seal PE PS PSs PA PT PW PG PGs PI
noncomputable def top (i:Nat):Stmt:=PySem.Challenge.pw_tenreckon_k22_whole_parts_and_rests.main.body.getD i (.Pass ⟨0,0,0,0⟩)
noncomputable abbrev C8g:Stmt:=(top 28)
section
variable{P:Program}{w:World}{K:Frag}{mg:Str ->Option Value}{base:Heap}
noncomputable def A0bs (K:Frag):Sp:=fun vs H Q _=>∃v lo hi,vs=[v,.int lo,.int hi]/\((A5z lo hi v/\Q (.bl true) H)\/(C8e K H lo hi v/\Q (.bl false) H))
theorem A0as:FnScope ["thing","least","most"] ["thing","least","most"] (A3 C8g):=scK
theorem V1t(D:Def K mg "is_between" ["thing","least","most"] C8g f fd)(O:Own mg)(T:Kit K):FnOk P w K mg base (CX1 P w) 1 f fd ["thing","least","most"] (A0bs K):=by
 refine FnOk.up (D.F.ok A0as (fun vs H Q E h=>?_) (fun cdv A outer s H vs Q E hr h=>?_))
 . obtain⟨v,lo,hi,rfl,_⟩:=h
   rfl
 . obtain ⟨v,lo,hi,rfl,h⟩:=h
   refine⟨_,(A6 (G0 (PW.pt (B4k (A1h (V4 (J0m O.isi (pv 0) (pty O.int_ boot_int)))) (A6s (V4 (J0m O.isi (pv 0) (pty O.bool_ boot_bool)))))) (A8 (B7 A2y)) D3)
     (A8 (B7 (A6r (J0 C3h (pv 0) (pv 1) (C8 _)) (A5h (J0 Z3s (pv 0) (pv 2) (C8 _))))))),?_⟩
   rcases h with⟨⟨i,rfl,h1,h2⟩,k⟩|⟨⟨t,b1,b2,ty,k1,k2,bad⟩,k⟩
   . refine⟨_,rfl,_,_,_,_,true,rfl,rfl,V2k i,T.int_int,_,rfl,Y5 ?_⟩
     refine⟨_,rfl,_,_,_,_,false,rfl,rfl,V2k i,T.int_bool,_,rfl,Y5 ?_⟩
     refine⟨_,rfl,_,rfl,_,_,rfl,rfl,_,rfl,C4e h1 ?_⟩
     refine⟨_,rfl,_,rfl,_,_,rfl,rfl,?_⟩
     show Q (.bl (decide (i<=hi))) H
     rw[decide_eq_true h2]
     exact k
   . refine⟨_,rfl,_,_,_,_,b1,rfl,rfl,ty,k1,_,rfl,?_⟩
     cases b1 with
     |false=>exact Z1 (Z1 k)
     | true=>
       refine Y5 ⟨_,rfl,_,_,_,_,b2,rfl,rfl,ty,k2,_,rfl,?_⟩
       cases b2 with
       |true=>exact Z1 k
       | false=>
         obtain⟨i,rfl,out⟩:=bad.resolve_left (by decide)
         refine Y5 ⟨_,rfl,_,rfl,_,_,rfl,rfl,_,rfl,U9 (fun h1=>?_) (fun h1=>?_)⟩
         . refine⟨_,rfl,_,rfl,_,_,rfl,rfl,?_⟩
           show Q (.bl (decide (i<=hi))) H
           rw[decide_eq_false (by omega:¬i<=hi)]
           exact k
         . exact k
end
structure Err(K:Frag)(mg:Str ->Option Value)(x:Str)(CB:Addr):Prop where
 g:mg x=some (.ref CB)
 q:excIn K CB [.type "ValueError",.type "Exception",.type "BaseException",.type "object"] "ValueError.__new__"=true
noncomputable def B6s (lo hi:Int):Prop:=lo.natAbs.log2<1920/\hi.natAbs.log2<1920/\(Str.ofString (toString lo)).length<=100/\(Str.ofString (toString hi)).length<=100
noncomputable abbrev A3y:Stmt:=(top 66)
section
variable{P:Program}{w:World}{K:Frag}{mg:Str ->Option Value}{base:Heap}
noncomputable def D1z (K:Frag) (CB:Addr):Sp:=fun vs H Q E=>∃v lo hi,vs=[v,.int lo,.int hi]/\B6s lo hi/\((A5z lo hi v/\Q v H)\/(C8e K H lo hi v/\E (.ref CB) none H))
theorem U3w:FnScope ["thing","least","most"] ["thing","least","most"] (A3 A3y):=scK
theorem J0n{f f1 CB:Addr}(D:Def K mg "bounded" ["thing","least","most"] A3y f fd)(D1:Def K mg "is_between" ["thing","least","most"] C8g f1 fd1)(O:Own mg)(T:Kit K)(B:Err K mg "BadContext" CB):
   FnOk P w K mg base (CX1 P w) 2 f fd ["thing","least","most"] (D1z K CB):=by
 have G1:=V1t (P:=P) (w:=w) (base:=base) D1 O T
 refine D.F.okE U3w (fun vs H Q E h=>?_) (fun X cdv A outer s H vs Q E hX hr hx h=>?_)
 . obtain⟨v,lo,hi,rfl,_⟩:=h
   rfl
 . subst hX
   obtain⟨v,lo,hi,rfl,⟨l1,l2,l3,l4⟩,h⟩:=h
   refine⟨_,(A6 (G0 (A1h (V4 (C6 D1 G1 hr hx (A1 (pv 0) (A1 (pv 1) (A1 (pv 2) A5))))))
     (A8 (A4h (by rfl) B.g B.q PySem.F.excBase_ValueError hr.hd hx (A1 (U1c (.cons .lit (.cons (.int (pv 1)) (.cons .lit (.cons (.int (pv 2)) .nil))))) A5))) D3)
     (A8 (B7 (pv 0)))),?_⟩
   rcases h with⟨g,k⟩|⟨bad,k⟩
   . exact⟨_,rfl,_,rfl,_,rfl,_,_,_,rfl,.inl ⟨g,_,rfl,Y5 ⟨_,rfl,k⟩⟩⟩
   . have a0:Str.empty.length=0:=rfl
     have a1:(Str.ofString "not a whole number from ").length=24:=by decide+kernel
     have a2:(Str.ofString " to ").length=4:=by decide+kernel
     have sz:∀{n:Nat},n<=1000 ->n<=sizeLine:=fun h=>Nat.le_of_lt (A0h h)
     refine⟨_,rfl,_,rfl,_,rfl,_,_,_,rfl,.inr ⟨bad,_,rfl,Z1 ?_⟩⟩
     exact⟨_,rfl,sz (by rw[strLen_append];omega),_,rfl,_,rfl,l1,_,rfl,sz (by rw[strLen_append,strLen_append];omega),_,rfl,sz (by rw[strLen_append,strLen_append,strLen_append];omega),_,rfl,_,rfl,l2,_,rfl,sz (by rw[strLen_append,strLen_append,strLen_append,strLen_append];omega),sz (by rw[strLen_append,strLen_append,strLen_append,strLen_append];omega),sz (by show 1<=1000;decide),k⟩
end
noncomputable abbrev A2a:Stmt:=(top 29)
section
variable{P:Program}{w:World}{K:Frag}{mg:Str ->Option Value}{base:Heap}
noncomputable def U5c (K:Frag) (CB:Addr):Sp:=fun vs H Q E=>∃v lo hi,vs=[v,.int lo,.int hi]/\B6s lo hi/\
 ((A5z lo hi v/\Q .non H)\/(C8e K H lo hi v/\E (.ref CB) none H))
theorem U5e:FnScope ["thing","least","most"] ["thing","least","most"] (A3 A2a):=scK
theorem C4u{f f1 CB:Addr}(D:Def K mg "need_between" ["thing","least","most"] A2a f fd)(D1:Def K mg "is_between" ["thing","least","most"] C8g f1 fd1)(O:Own mg)(T:Kit K)(B:Err K mg "BadNumber" CB):
   FnOk P w K mg base (CX1 P w) 2 f fd ["thing","least","most"] (U5c K CB):=by
 have G1:=V1t (P:=P) (w:=w) (base:=base) D1 O T
 refine D.F.okE U5e (fun vs H Q E h=>?_) (fun X cdv A outer s H vs Q E hX hr hx h=>?_)
 . obtain⟨v,lo,hi,rfl,_⟩:=h
   rfl
 . subst hX
   obtain⟨v,lo,hi,rfl,⟨l1,l2,l3,l4⟩,h⟩:=h
   refine⟨_,(A8 (G0 (A1h (V4 (C6 D1 G1 hr hx (A1 (pv 0) (A1 (pv 1) (A1 (pv 2) A5))))))
     (A8 (A4h (by rfl) B.g B.q PySem.F.excBase_ValueError hr.hd hx (A1 (U1c (.cons .lit (.cons (.int (pv 1)) (.cons .lit (.cons (.int (pv 2)) .nil))))) A5))) D3)),?_⟩
   rcases h with⟨g,k⟩|⟨bad,k⟩
   . exact⟨_,rfl,_,rfl,_,rfl,_,_,_,rfl,.inl ⟨g,_,rfl,Y5 k⟩⟩
   . have a0:Str.empty.length=0:=rfl
     have a1:(Str.ofString "not a whole number from ").length=24:=by decide+kernel
     have a2:(Str.ofString " to ").length=4:=by decide+kernel
     have sz:∀{n:Nat},n<=1000 ->n<=sizeLine:=fun h=>Nat.le_of_lt (A0h h)
     refine⟨_,rfl,_,rfl,_,rfl,_,_,_,rfl,.inr ⟨bad,_,rfl,Z1 ?_⟩⟩
     exact⟨_,rfl,sz (by rw[strLen_append];omega),_,rfl,_,rfl,l1,_,rfl,sz (by rw[strLen_append,strLen_append];omega),_,rfl,sz (by rw[strLen_append,strLen_append,strLen_append];omega),_,rfl,_,rfl,l2,_,rfl,sz (by rw[strLen_append,strLen_append,strLen_append,strLen_append];omega),sz (by rw[strLen_append,strLen_append,strLen_append,strLen_append];omega),sz (by show 1<=1000;decide),k⟩
end
noncomputable abbrev D2k:Stmt:=(G7 (top 17) 0)
noncomputable abbrev C4n:Stmt:=(top 21)
noncomputable abbrev A6v:Stmt:=(top 23)
structure Num(K:Frag)(mg:Str ->Option Value)(CN:Addr):Prop where
 g:mg "Number"=some (.ref CN)
 cl:Cls K CN
 n1:NoAttr K CN "kind"
 n2:NoAttr K CN "sign"
 n3:NoAttr K CN "figures"
 n4:NoAttr K CN "power"
 ca:findIn K (.ref CN) "__class__"=some (some (.builtin "object.__class__"))
 sn:specialIn K (.builtin "object.__class__") "__get__"=some (some (.builtin "getset_descriptor.__get__"))
 tk:takesIn K (.builtin "object.__class__")=some true
 ob:mroIn K CN (.type "object")=some true
 self:kitOne K (.ref CN) (.ref CN)=some true
noncomputable def C8b (k s f p:V):List (Str×V):=V6 "power" p (V6 "figures" f (V6 "sign" s (V6 "kind" k [])))
theorem e12:¬(("kind":Str)="sign"):=by decide+kernel
theorem e13:¬(("kind":Str)="figures"):=by decide+kernel
theorem e14:¬(("kind":Str)="power"):=by decide+kernel
theorem e23:¬(("sign":Str)="figures"):=by decide+kernel
theorem e24:¬(("sign":Str)="power"):=by decide+kernel
theorem e34:¬(("figures":Str)="power"):=by decide+kernel
theorem B7u(k s f p:V):(C8b k s f p).lookup ("kind":Str)=some k:=by unfold C8b;rw[G3,if_neg e14,G3,if_neg e13,G3,if_neg e12,G3,if_pos rfl]
theorem D4v(k s f p:V):(C8b k s f p).lookup ("sign":Str)=some s:=by unfold C8b;rw[G3,if_neg e24,G3,if_neg e23,G3,if_pos rfl]
theorem C2s(k s f p:V):(C8b k s f p).lookup ("figures":Str)=some f:=by unfold C8b;rw[G3,if_neg e34,G3,if_pos rfl]
theorem B5c(k s f p:V):(C8b k s f p).lookup ("power":Str)=some p:=by unfold C8b;rw[G3,if_pos rfl]
noncomputable def NumAt (CN:Addr) (H:Hp) (n:Addr) (k s f p:V):Prop:=∃dx,H n=some (.ins CN dx (C8b k s f p))
theorem NumAt.same{CN:Addr}{H H':Hp}{n:Addr}{k s f p:V}(h:NumAt CN H n k s f p)(e:Same H H'):NumAt CN H' n k s f p:=by
 obtain⟨dx,z⟩:=h
 exact⟨dx,e _ _ z⟩
theorem Num.ty{K:Frag}{mg:Str ->Option Value}{CN:Addr}(N:Num K mg CN){H:Hp}{n:Addr}{k s f p:V}(h:NumAt CN H n k s f p):TyE K H (.ref n) (.ref CN):=by
 obtain⟨dx,z⟩:=h
 exact .of (.ins z N.cl N.ca N.sn N.tk N.ob)
section
variable{P:Program}{w:World}{K:Frag}{mg:Str ->Option Value}{base:Heap}
noncomputable def D4f (CN:Addr):Sp:=fun vs H Q _=>∃(p dx:Addr) (k s f pw:V),vs=[.ref p,k,s,f,pw]/\H p=some (.ins CN dx [])/\∀H',H' p=some (.ins CN dx (C8b k s f pw)) ->(∀b o,H b=some o ->b≠p ->H' b=some o) ->Q .non H'
theorem Z4x:FnScope ["self","kind","sign","figures","power"] ["self","kind","sign","figures","power"] (A3 D2k):=scK
theorem Y8p{f CN:Addr}(F:Fun K "__init__" "Number.__init__" D2k f fd)(N:Num K mg CN):FnOk P w K mg base CX0 1 f fd ["self","kind","sign","figures","power"] (D4f CN):=by
 refine F.ok Z4x (fun vs H Q E h=>?_) (fun cdv A outer s H vs Q E hr h=>?_)
 . obtain⟨p,dx,a,b,c,d,rfl,_⟩:=h
   rfl
 . obtain⟨p,dx,a,b,c,d,rfl,hp,k⟩:=h
   refine⟨_,A6 (A0r (pv 0) (pv 1) rfl) (A6 (A0r (pv 0) (pv 2) rfl) (A6 (A0r (pv 0) (pv 3) rfl) (A8 (A0r (pv 0) (pv 4) rfl)))),?_⟩
   have l:∀(fs:List (Str×V)) (f:Str) (v:V) (n:Nat),fs.length<=n ->(V6 f v fs).length<=n+1:=fun fs f v n h=>Nat.le_trans (A2d f v fs) (Nat.succ_le_succ h)
   refine⟨_,rfl,_,rfl,p,CN,dx,[],rfl,hp,N.cl,N.n1,(by show 0<1000;decide),?_⟩
   refine⟨_,rfl,_,rfl,p,CN,dx,_,rfl,B5,N.cl,N.n2,Nat.lt_of_le_of_lt (l _ _ _ 0 (Nat.le_refl _)) (by decide),?_⟩
   refine⟨_,rfl,_,rfl,p,CN,dx,_,rfl,B5,N.cl,N.n3,Nat.lt_of_le_of_lt (l _ _ _ 1 (l _ _ _ 0 (Nat.le_refl _))) (by decide),?_⟩
   refine⟨_,rfl,_,rfl,p,CN,dx,_,rfl,B5,N.cl,N.n4,Nat.lt_of_le_of_lt (l _ _ _ 2 (l _ _ _ 1 (l _ _ _ 0 (Nat.le_refl _)))) (by decide),?_⟩
   refine k _ B5 fun b o e hb=>?_
   rw[D4 hb,D4 hb,D4 hb,D4 hb]
   exact e
structure MakeN(P:Program)(w:World)(K:Frag)(mg:Str ->Option Value)(base:Heap)(CN fI:Addr)(fdI:FuncData):Prop where
 m:Mk K CN fI
 g:FnOk P w K mg base CX0 1 fI fdI ["self","kind","sign","figures","power"] (D4f CN)
 b:Binds K fdI ["self","kind","sign","figures","power"] []
theorem made{CN:Addr}{H:Hp}{Q:VK}{k s f p:V}(h:∀n H',H n=none ->Same H H' ->NumAt CN H' n k s f p ->Q (.ref n) H'):
   ∀x dx,H x=none ->H dx=none ->dx≠x ->D4f CN (.ref x::([k,s,f,p]++ [])) (upd (upd H dx (.own x)) x (.ins CN dx [])) (fun v H2=>v= .non/\Q (.ref x) H2) E0:=by
 intro x dx nx nd ne
 refine⟨x,dx,k,s,f,p,rfl,B5,fun H' e kp=>⟨rfl,h x H' nx (fun b o z=>?_) ⟨dx,e⟩⟩⟩
 refine kp b o ?_ (G6 z nx)
 rw[D4 (G6 z nx),D4 (G6 z nd)]
 exact z
noncomputable def NotNum (K:Frag) (CN:Addr) (H:Hp) (v:V):Prop:=∃t,TyE K H v t/\kitOne K t (.ref CN)=some false
noncomputable def D4z (K:Frag) (CN CB:Addr):Sp:=fun vs H Q E=>∃v,vs=[v]/\((∃n k s f p,v= .ref n/\NumAt CN H n k s f p/\Q v H)\/(NotNum K CN H v/\E (.ref CB) none H))
theorem Y6u:FnScope ["thing"] ["thing"] (A3 A6v):=scK
theorem G5y{f CN CB:Addr}(D:Def K mg "need_number" ["thing"] A6v f fd)(O:Own mg)(T:Kit K)(B:Err K mg "BadNumber" CB)(N:Num K mg CN):FnOk P w K mg base (CX1 P w) 1 f fd ["thing"] (D4z K CN CB):=by
 refine D.F.okE Y6u (fun vs H Q E h=>?_) (fun X cdv A outer s H vs Q E hX hr hx h=>?_)
 . obtain⟨v,rfl,_⟩:=h
   rfl
 . subst hX
   obtain⟨v,rfl,h⟩:=h
   refine⟨_,(A6 (G0 (A1h (V4 (J0m O.isi (pv 0) (G5t N.g)))) (A8 (A4h (by rfl) B.g B.q PySem.F.excBase_ValueError hr.hd hx (A1 C9 A5))) D3)
     (A8 (B7 (pv 0)))),?_⟩
   rcases h with⟨n,a,b,c,d,rfl,hn,k⟩|⟨⟨t,ty,k1⟩,k⟩
   . exact⟨_,rfl,_,_,_,_,true,rfl,rfl,N.ty hn,N.self,_,rfl,Y5 ⟨_,rfl,k⟩⟩
   . exact⟨_,rfl,_,_,_,t,false,rfl,rfl,ty,k1,_,rfl,Z1 ⟨Nat.le_of_lt (A0h (by show 1<=1000;decide)),k⟩⟩
noncomputable def V0s (K:Frag) (CN CB:Addr):Sp:=fun vs H Q E=>∃v,vs=[v]/\((∃n k s f p,v= .ref n/\NumAt CN H n k s f p/\∀t,H t=none ->Q (.ref t) (upd H t (.tup [k,s,f,p])))\/(NotNum K CN H v/\E (.ref CB) none H))
theorem Z5z:FnScope ["number"] ["number"] (A3 C4n):=scK
theorem Y7z{f f1 CN CB:Addr}(D:Def K mg "told" ["number"] C4n f fd)(dA:Def K mg "need_number" ["thing"] A6v f1 fd1)(O:Own mg)(T:Kit K)(B:Err K mg "BadNumber" CB)(N:Num K mg CN):
   FnOk P w K mg base (CX1 P w) 2 f fd ["number"] (V0s K CN CB):=by
 have G_need_number:=G5y (P:=P) (w:=w) (base:=base) dA O T B N
 refine D.F.okE Z5z (fun vs H Q E h=>?_) (fun X cdv A outer s H vs Q E hX hr hx h=>?_)
 . obtain⟨v,rfl,_⟩:=h
   rfl
 . subst hX
   obtain⟨v,rfl,h⟩:=h
   refine⟨_,(A6 (V5 (C6 dA G_need_number hr hx (A1 (pv 0) A5)))
     (A8 (B7 (V3 (A1 (D5 (pv 0) rfl) (A1 (D5 (pv 0) rfl) (A1 (D5 (pv 0) rfl) (A1 (D5 (pv 0) rfl) A5)))))))),?_⟩
   rcases h with⟨n,a,b,c,d,rfl,hn,k⟩|⟨bad,k⟩
   . refine⟨_,rfl,_,rfl,.inl ⟨n,a,b,c,d,rfl,hn,?_⟩⟩
     obtain⟨dx,e⟩:=hn
     exact⟨_,rfl,n,CN,dx,_,_,rfl,e,N.cl,N.n1,B7u _ _ _ _,_,rfl,n,CN,dx,_,_,rfl,e,N.cl,N.n2,D4v _ _ _ _,_,rfl,n,CN,dx,_,_,rfl,e,N.cl,N.n3,C2s _ _ _ _,_,rfl,n,CN,dx,_,_,rfl,e,N.cl,N.n4,B5c _ _ _ _,
       Nat.le_of_lt (A0h (by show 4<=1000;decide)),k⟩
   . exact⟨_,rfl,_,rfl,.inr ⟨bad,k⟩⟩
end
noncomputable abbrev B0c:Stmt:=(top 18)
noncomputable abbrev C8a:Stmt:=(top 19)
noncomputable abbrev V8:Stmt:=(top 20)
section
variable{P:Program}{w:World}{K:Frag}{mg:Str ->Option Value}{base:Heap}
noncomputable def D4d (K:Frag) (CN CB:Addr):Sp:=fun vs H Q E=>∃x y z,vs=[x,y,z]/\
 ((A5z 0 1 x/\A5z 0 (10^60-1) y/\A5z (-200) 200 z/\∀n H',H n=none ->Same H H' ->NumAt CN H' n (.str "plain") x y z ->Q (.ref n) H')\/
  ((C8e K H 0 1 x\/(A5z 0 1 x/\(C8e K H 0 (10^60-1) y\/(A5z 0 (10^60-1) y/\C8e K H (-200) 200 z))))/\E (.ref CB) none H))
theorem Y8k:FnScope ["sign","figures","power"] ["sign","figures","power"] (A3 B0c):=scK
theorem b01:B6s 0 1:=by unfold B6s;decide+kernel
theorem b60:B6s 0 (10^60-1):=by unfold B6s;decide+kernel
theorem Z8y:B6s (-200) 200:=by unfold B6s;decide+kernel
theorem U9w{f f1 f2 fI CN CB:Addr}{fd fd1 fd2 fdI:FuncData}(D:Def K mg "plain" ["sign","figures","power"] B0c f fd)(dA:Def K mg "need_between" ["thing","least","most"] A2a f1 fd1)(D2:Def K mg "is_between" ["thing","least","most"] C8g f2 fd2)
   (O:Own mg) (T:Kit K) (B:Err K mg "BadNumber" CB) (N:Num K mg CN) (M:MakeN P w K mg base CN fI fdI):FnOk P w K mg base (CX1 P w) 3 f fd ["sign","figures","power"] (D4d K CN CB):=by
 have G_need_between:=C4u (P:=P) (w:=w) (base:=base) dA D2 O T B
 refine D.F.okE Y8k (fun vs H Q E h=>?_) (fun X cdv A outer s H vs Q E hX hr hx h=>?_)
 . obtain⟨x,y,z,rfl,_⟩:=h
   rfl
 . subst hX
   obtain⟨x,y,z,rfl,h⟩:=h
   refine⟨_,(A6 (V5 (C6 dA G_need_between hr hx (A1 (pv 0) (A1 A7 (A1 A7 A5)))))
     (A6 (V5 (C6 dA G_need_between hr hx (A1 (pv 1) (A1 A7 (A1 (C7 V1 (C7 J0r A7 A7) A7) A5)))))
     (A6 (V5 (C6 dA G_need_between hr hx (A1 (pv 2) (A1 (D2v B7z A7) (A1 A7 A5)))))
     (A8 (B7 (D4u M.m M.g hr rfl N.g M.b .nil V2d (A1 C9 (A1 (pv 0) (A1 (pv 1) (A1 (pv 2) A5)))))))))),?_⟩
   have pw:Z5b 10 60:=⟨by decide,by decide,by decide⟩
   rcases h with⟨⟨i1,rfl,l1,u1⟩,⟨i2,rfl,l2,u2⟩,⟨i3,rfl,l3,u3⟩,k⟩|⟨bad,k⟩
   . refine⟨_,rfl,_,_,_,rfl,b01,.inl ⟨⟨i1,rfl,l1,u1⟩,?_⟩⟩
     refine⟨_,rfl,_,_,rfl,rfl,pw,_,_,rfl,rfl,_,_,_,rfl,b60,.inl ⟨⟨i2,rfl,l2,u2⟩,?_⟩⟩
     refine⟨_,rfl,_,rfl,_,_,_,rfl,Z8y,.inl ⟨⟨i3,rfl,l3,u3⟩,?_⟩⟩
     exact⟨_,rfl,_,rfl,_,rfl,made k⟩
   . rcases bad with bad|⟨⟨i1,rfl,l1,u1⟩,bad|⟨⟨i2,rfl,l2,u2⟩,bad⟩⟩
     . exact⟨_,rfl,_,_,_,rfl,b01,.inr ⟨bad,k⟩⟩
     . refine⟨_,rfl,_,_,_,rfl,b01,.inl ⟨⟨i1,rfl,l1,u1⟩,?_⟩⟩
       exact⟨_,rfl,_,_,rfl,rfl,pw,_,_,rfl,rfl,_,_,_,rfl,b60,.inr ⟨bad,k⟩⟩
     . refine⟨_,rfl,_,_,_,rfl,b01,.inl ⟨⟨i1,rfl,l1,u1⟩,?_⟩⟩
       refine⟨_,rfl,_,_,rfl,rfl,pw,_,_,rfl,rfl,_,_,_,rfl,b60,.inl ⟨⟨i2,rfl,l2,u2⟩,?_⟩⟩
       exact⟨_,rfl,_,rfl,_,_,_,rfl,Z8y,.inr ⟨bad,k⟩⟩
noncomputable def G5w (K:Frag) (CN CB:Addr):Sp:=fun vs H Q E=>∃x,vs=[x]/\((A5z 0 1 x/\∀n H',H n=none ->Same H H' ->NumAt CN H' n (.str "end") x (.int 0) (.int 0) ->Q (.ref n) H')\/(C8e K H 0 1 x/\E (.ref CB) none H))
theorem Z9r:FnScope ["sign"] ["sign"] (A3 C8a):=scK
theorem Z5y{f f1 f2 fI CN CB:Addr}{fd fd1 fd2 fdI:FuncData}(D:Def K mg "end" ["sign"] C8a f fd)(dA:Def K mg "need_between" ["thing","least","most"] A2a f1 fd1)(D2:Def K mg "is_between" ["thing","least","most"] C8g f2 fd2)
   (O:Own mg) (T:Kit K) (B:Err K mg "BadNumber" CB) (N:Num K mg CN) (M:MakeN P w K mg base CN fI fdI):FnOk P w K mg base (CX1 P w) 3 f fd ["sign"] (G5w K CN CB):=by
 have G_need_between:=C4u (P:=P) (w:=w) (base:=base) dA D2 O T B
 refine D.F.okE Z9r (fun vs H Q E h=>?_) (fun X cdv A outer s H vs Q E hX hr hx h=>?_)
 . obtain⟨x,rfl,_⟩:=h
   rfl
 . subst hX
   obtain⟨x,rfl,h⟩:=h
   refine⟨_,(A6 (V5 (C6 dA G_need_between hr hx (A1 (pv 0) (A1 A7 (A1 A7 A5)))))
     (A8 (B7 (D4u M.m M.g hr rfl N.g M.b .nil V2d (A1 C9 (A1 (pv 0) (A1 A7 (A1 A7 A5)))))))),?_⟩
   rcases h with⟨⟨i1,rfl,l1,u1⟩,k⟩|⟨bad,k⟩
   . refine⟨_,rfl,_,_,_,rfl,b01,.inl ⟨⟨i1,rfl,l1,u1⟩,?_⟩⟩
     exact⟨_,rfl,made k⟩
   . exact⟨_,rfl,_,_,_,rfl,b01,.inr ⟨bad,k⟩⟩
noncomputable def Z2 (CN:Addr):Sp:=fun vs H Q _=>vs=[]/\∀n H',H n=none ->Same H H' ->NumAt CN H' n (.str "none") (.int 0) (.int 0) (.int 0) ->Q (.ref n) H'
theorem U4y:FnScope [] [] (A3 V8):=scK
theorem J0p{f fI CN:Addr}{fd fdI:FuncData}(D:Def K mg "nothing" [] V8 f fd)(N:Num K mg CN)(M:MakeN P w K mg base CN fI fdI):FnOk P w K mg base (CX1 P w) 3 f fd [] (Z2 CN):=by
 refine D.F.okE U4y (fun vs H Q E h=>?_) (fun X cdv A outer s H vs Q E hX hr hx h=>?_)
 . obtain⟨rfl,_⟩:=h
   rfl
 . subst hX
   obtain⟨rfl,k⟩:=h
   refine⟨_,(A8 (B7 (D4u M.m M.g hr rfl N.g M.b .nil V2d (A1 C9 (A1 A7 (A1 A7 (A1 A7 A5))))))),?_⟩
   exact made k
end
noncomputable abbrev C3g:Stmt:=(top 22)
section
variable{P:Program}{w:World}{K:Frag}{mg:Str ->Option Value}{base:Heap}
noncomputable def V1e (CN:Addr):Sp:=fun vs H Q _=>∃n k s f p,vs=[.ref n]/\NumAt CN H n k s (.int f) (.int p)/\f.natAbs<2^300/\Q (.int (p+((Str.ofString (toString f)).length:Nat)-1)) H
theorem Z4k:FnScope ["number"] ["number"] (A3 C3g):=scK
theorem Y7q{f CN:Addr}(D:Def K mg "lead_of" ["number"] C3g f fd)(O:Own mg)(N:Num K mg CN):FnOk P w K mg base (CX1 P w) 1 f fd ["number"] (V1e CN):=by
 refine D.F.okE Z4k (fun vs H Q E h=>?_) (fun X cdv A outer s H vs Q E hX hr hx h=>?_)
 . obtain⟨n,a,b,c,d,rfl,_⟩:=h
   rfl
 . subst hX
   obtain⟨n,a,b,fg,pw,rfl,⟨dx,e⟩,hf,k⟩:=h
   refine⟨_,(A8 (B7 (C7 V1 (C7 Y3 (D5 (pv 0) rfl) (J1 D3v (by rfl) O.len_ PySem.boot_len (A1 (A5y D3t (by rfl) O.str_ boot_str (A1 (D5 (pv 0) rfl) A5)) A5))) A7))),?_⟩
   have lg:fg.natAbs.log2<1920:=Nat.lt_trans (B5e hf (by decide)) (by decide)
   exact⟨_,rfl,n,CN,dx,_,_,rfl,e,N.cl,N.n4,B5c _ _ _ _,_,rfl,n,CN,dx,_,_,rfl,e,N.cl,N.n3,C2s _ _ _ _,_,rfl,lg,_,rfl,int_text_fits lg,_,_,rfl,rfl,_,_,rfl,rfl,k⟩
end
noncomputable abbrev A0d:Stmt:=(top 2)
noncomputable abbrev Z9:Stmt:=(top 3)
theorem B3x{x k:Nat}(h:x<2^k)(hk:k<=1048576):Builtin.Int.intBits (x:Int)<=2^20:=by
 unfold Builtin.Int.intBits
 split
 . exact Nat.zero_le _
 . have z:(x:Int).natAbs≠0:=by
     intro z
     rename_i hz
     exact hz (by simpa using z)
   have:(x:Int).natAbs.log2<k:=(Nat.log2_lt z).mpr h
   have e:(2:Nat)^20=1048576:=by decide
   omega
theorem C4w{b s j n:Nat}(hb:b<2^s)(hj:j<=n)(hn:n*s<1048576):Builtin.Int.intBits ((b^j:Nat):Int)<=2^20:=by
 refine B3x (k:=n*s+1) ?_ hn
 have a:b^j<=(2^s)^j:=Nat.pow_le_pow_left (Nat.le_of_lt hb) j
 have c:(2^s)^j<=2^(n*s):=by
   rw[<-Nat.pow_mul,Nat.mul_comm n s]
   exact Nat.pow_le_pow_right (by decide) (Nat.mul_le_mul_left s hj)
 have d:2^(n*s)<2^(n*s+1):=Nat.pow_lt_pow_right (by decide) (by omega)
 exact Nat.lt_of_le_of_lt a (Nat.lt_of_le_of_lt c d)
theorem B7v{b s i j n:Nat}(hb:b<2^s)(hi:i<=n)(hj:j<=n)(hn:n*s<1048576):IntMulOk ((b^i:Nat):Int) ((b^j:Nat):Int):=IntMulOk.of_bits (C4w hb hi hn) (C4w hb hj hn)
section
variable{P:Program}{w:World}{K:Frag}{mg:Str ->Option Value}{base:Heap}
noncomputable def C2d:Sp:=fun vs H Q _=>∃b n s:Nat,vs=[.int (b:Int),.int (n:Int)]/\b<2^s/\n*s<1048576/\Q (.int ((b^n:Nat):Int)) H
theorem scProductOf:FnScope ["whole","count","product"] ["whole","count"] (A3 A0d):=scK
theorem D4w(D:Def K mg "product_of" ["whole","count"] A0d f fd):FnOk P w K mg base (CX1 P w) 1 f fd ["whole","count"] C2d:=by
 refine FnOk.up (D.F.ok scProductOf (fun vs H Q E h=>?_) (fun cdv A outer s H vs Q E hr h=>?_))
 . obtain⟨b,n,z,rfl,_⟩:=h
   rfl
 . obtain ⟨b,n,z,rfl,hb,hn,k⟩:=h
   refine⟨_,(A6 (D7 (i:=2) scProductOf.nd rfl (Or.inl rfl) A7)
     (A6 (C4t PassesOwn.never (D0 G5r (pv 1) A7 (C8 _)) (A6 (G0 (D0 G4 (C7 U4 (pv 1) A7) A7 (C8 _)) (A8 (D7 (i:=2) scProductOf.nd rfl (Or.inl rfl) (C7 V0 (pv 2) (pv 0)))) D3)
     (A6 (D7 (i:=0) scProductOf.nd rfl (Or.inl rfl) (C7 V0 (pv 0) (pv 0)))
     (A8 (D7 (i:=1) scProductOf.nd rfl (Or.inl rfl) (C7 U6 (pv 1) A7))))))
     (A8 (B7 (pv 2))))),?_⟩
   have d2:(0:Int)<2/\(2:Int).natAbs.log2<9000:=⟨by decide,by decide+kernel⟩
   refine C3f (fun σ H2=>H2=H/\∃i m c:Nat,m+i*c=n/\σ=[some (.int ((b^i:Nat):Int)),some (.int (c:Int)),some (.int ((b^m:Nat):Int))]) (fun σ _=>match σ with| [_,some (.int c),_]=>c.toNat|_=>0) ?_ ?_ ?_
   . exact⟨rfl,1,0,n,by omega,by rw[Nat.pow_one];rfl⟩
   . rintro σ H2 ⟨rfl,i,m,c,hc,rfl⟩
     refine⟨_,rfl,_,_,rfl,rfl,_,rfl,U9 (fun h0=>?_) (fun h0=>?_)⟩
     . have c1:1<=c:=by
         have:(0:Int)<c:=h0
         omega
       have hi:i<=n:=Nat.le_trans (Nat.le_mul_of_pos_right i c1) (by omega)
       have hm:m<=n:=by omega
       have sq:((b^i:Nat):Int)*((b^i:Nat):Int)=((b^(2*i):Nat):Int):=by rw[Nat.two_mul,Nat.pow_add];rfl
       have lt:((c:Int)/2).toNat<(c:Int).toNat:=by omega
       refine⟨_,rfl,_,_,rfl,rfl,d2.1,rfl,_,rfl,U9 (fun ho=>?_) (fun he=>?_)⟩
       . have ho:(c:Int) % 2=1:=by injection ho
         have mu:((b^m:Nat):Int)*((b^i:Nat):Int)=((b^(m+i):Nat):Int):=by rw[Nat.pow_add];rfl
         refine⟨_,rfl,_,rfl,_,_,rfl,rfl,B7v hb hm hi hn,_,rfl,_,rfl,_,_,rfl,rfl,B7v hb hi hi hn,_,rfl,_,_,rfl,rfl,d2,⟨rfl,2*i,m+i,c/2,?_,?_⟩,lt⟩
         . have e:i*c=i*(2*(c/2)+1):=congrArg (i* ·) (by omega)
           rw[Nat.mul_add,Nat.mul_one, <-Nat.mul_assoc,Nat.mul_comm i 2] at e
           omega
         . show [some (V.int (((b^i:Nat):Int)*((b^i:Nat):Int))),some (V.int ((c:Int)/2)),some (V.int (((b^m:Nat):Int)*((b^i:Nat):Int)))]=_
           rw[sq,mu]
           rfl
       . have he:¬(c:Int) % 2=1:=fun z=>he (congrArg V.int z)
         refine⟨_,rfl,_,rfl,_,_,rfl,rfl,B7v hb hi hi hn,_,rfl,_,_,rfl,rfl,d2,⟨rfl,2*i,m,c/2,?_,?_⟩,lt⟩
         . have e:i*c=i*(2*(c/2)):=congrArg (i* ·) (by omega)
           rw[<-Nat.mul_assoc,Nat.mul_comm i 2] at e
           omega
         . show [some (V.int (((b^i:Nat):Int)*((b^i:Nat):Int))),some (V.int ((c:Int)/2)),some (V.int ((b^m:Nat):Int))]=_
           rw[sq]
           rfl
     . have c0:c=0:=by
         have:¬(0:Int)<c:=h0
         omega
       subst c0
       have hm:m=n:=by omega
       subst hm
       exact⟨_,rfl,k⟩
   . rintro σ H2 Q1 Q2 hQ ⟨v,e,i,j,e1,e2,b,e3,q⟩
     exact⟨v,e,i,j,e1,e2,b,e3,hQ _ _ q⟩
noncomputable def A1u:Sp:=fun vs H Q _=>∃n:Nat,vs=[.int (n:Int)]/\n<=4000/\Q (.int ((10^n:Nat):Int)) H
theorem Y9g:FnScope ["count"] ["count"] (A3 Z9):=scK
theorem V1y(D:Def K mg "ten_to" ["count"] Z9 f fd)(dA:Def K mg "product_of" ["whole","count"] A0d f1 fd1)(dB:FnOk P w K mg base (CX1 P w) 1 f1 fd1 ["whole","count"] C2d):FnOk P w K mg base (CX1 P w) 2 f fd ["count"] A1u:=by
 refine FnOk.up (D.F.ok Y9g (fun vs H Q E h=>?_) (fun cdv A outer s H vs Q E hr h=>?_))
 . obtain⟨n,rfl,_⟩:=h
   rfl
 . obtain⟨n,rfl,hn,k⟩:=h
   have hx:G5 (A0f CX0 P w K mg base ["count"] "ten_to" (A3 Z9) f cdv A outer s H E).nox EKF:=Y9
   refine⟨_,(A8 (B7 (C6 dA dB hr hx (A1 A7 (A1 (pv 0) A5))))),?_⟩
   exact⟨_,rfl,10,n,4,rfl,by decide,by omega,k⟩
end
inductive Kd where
 |plain|end_|none
noncomputable def Kd.str:Kd ->Str
 | .plain=>"plain"
 | .end_=>"end"
 | .none=>"none"
theorem Kd.str_inj{a b:Kd}(h:a.str=b.str):a=b:=by
 cases a<;>cases b<;>first|rfl|exact absurd h (by decide+kernel)
structure Nm where
 k:Kd
 s:Int
 f:Int
 p:Int
noncomputable def Nm.vs (x:Nm):List V:=[.str x.k.str,.int x.s,.int x.f,.int x.p]
structure Nm.Ok(x:Nm):Prop where
 s0:0<=x.s
 s1:x.s<=1
 f0:0<=x.f
 f1:x.f<=10^60-1
 p0: -200<=x.p
 p1:x.p<=200
noncomputable def NumIs (CN:Addr) (H:Hp) (n:Addr) (x:Nm):Prop:=NumAt CN H n (.str x.k.str) (.int x.s) (.int x.f) (.int x.p)
theorem NumIs.same{CN:Addr}{H H':Hp}{n:Addr}{x:Nm}(h:NumIs CN H n x)(e:Same H H'):NumIs CN H' n x:=NumAt.same h e
theorem NotNum.same{K:Frag}{CN:Addr}{H H':Hp}{v:V}(h:NotNum K CN H v)(e:Same H H'):NotNum K CN H' v:=by
 obtain⟨t,ty,r⟩:=h
 exact⟨t,TyE.same ty e,r⟩
structure NumsAt(CN:Addr)(H:Hp)(l:Addr)(ns:List (Addr×Nm)):Prop where
 l:H l=some (.lst (ns.map fun p=>V.ref p.1))
 n:∀p∈ns,NumIs CN H p.1 p.2
noncomputable def B8 (n:Int):Int:=((10^n.toNat:Nat):Int)
theorem G9(n:Int):0<B8 n:=Int.natCast_pos.mpr (Nat.pow_pos (by decide))
theorem neS{a b:Kd}(h:¬V.str a.str=V.str b.str):a≠b:=fun q=>h (by rw[q])
theorem eqS{a b:Kd}(h:V.str a.str=V.str b.str):a=b:=Kd.str_inj (by injection h)
theorem D2j{d:Int}(h:d<=4000):Builtin.Int.intBits (B8 d)<=2^20:=C4w (b:=10) (s:=4) (n:=4000) (by decide) (by omega) (by decide)
noncomputable def A9n (left low:Int):Int:=(if decide (0<left)=true then 1 else 0)+(if decide (low<=2*left)=true then 1 else 0)+(if decide (low<2*left)=true then 1 else 0)
theorem maxT(s:Int):(if(0:Int)>s then 0 else s)=((s.toNat:Nat):Int):=by
 by_cases h:(0:Int)>s
 . rw[if_pos h];omega
 . rw[if_neg h];omega
noncomputable def A0k (t b s:Int):Prop:=b*B8 (-s)<=t*B8 s/\t*B8 s<10*(b*B8 (-s))
theorem C4k{s r:Int}(h:s<=r):B8 r*B8 (-s)=B8 s*B8 (-r)*B8 (r-s):=by
 have ad:∀{a b c:Int},0<=a ->0<=b ->c=a+b ->B8 c=B8 a*B8 b:=fun ha hb e=>by
   subst e
   unfold B8
   rw[Int.toNat_add ha hb,Nat.pow_add]
   exact Int.natCast_mul _ _
 have z:∀{a:Int},a<=0 ->B8 a=1:=fun h=>by
   unfold B8
   rw[Int.toNat_of_nonpos h]
   rfl
 rcases Int.le_total 0 s with hs|hs
 . rw[z (a:= -s) (by omega),z (a:= -r) (by omega),Int.mul_one,Int.mul_one]
   exact ad hs (by omega) (by omega)
 . rcases Int.le_total 0 r with hr|hr
   . rw[z hs,z (a:= -r) (by omega),Int.one_mul,Int.one_mul]
     exact(ad hr (by omega) (by omega)).symm
   . rw[z hr,z hs,Int.one_mul,Int.one_mul]
     exact ad (by omega) (by omega) (by omega)
theorem Y8d{d:Int}(h:1<=d):10<=B8 d:=by
 unfold B8
 have:10^1<=10^d.toNat:=Nat.pow_le_pow_right (by decide) (by omega)
 omega
theorem Z7{a b:Int}(h:a<=b):B8 a<=B8 b:=by
 unfold B8
 exact Int.ofNat_le.mpr (Nat.pow_le_pow_right (by decide) (by omega))
theorem U2h{t b s r:Int}(hb:0<b)(h1:A0k t b s)(h2:A0k t b r):r<=s:=by
 apply Classical.byContradiction
 intro h
 have hs:s<=r:=by omega
 have c:=C4k hs
 have g:=Y8d (d:=r-s) (by omega)
 have p1:=G9 (-s)
 have p2:=G9 (-r)
 have l1:0<b*B8 (-s):=Int.mul_pos hb p1
 have l2:0<b*B8 (-r):=Int.mul_pos hb p2
 have e:t*B8 r*(b*B8 (-s))=t*B8 s*(b*B8 (-r))*B8 (r-s):=by
   calc t*B8 r*(b*B8 (-s))=t*b*(B8 r*B8 (-s)):=by ac_rfl
     _=t*b*(B8 s*B8 (-r)*B8 (r-s)):=by rw[c]
     _=t*B8 s*(b*B8 (-r))*B8 (r-s):=by ac_rfl
 have a1:t*B8 r*(b*B8 (-s))<10*(b*B8 (-r))*(b*B8 (-s)):=Int.mul_lt_mul_of_pos_right h2.2 l1
 have hp:0<t*B8 s:=Int.lt_of_lt_of_le l1 h1.1
 have a2:t*B8 s*(b*B8 (-r))*10<=t*B8 s*(b*B8 (-r))*B8 (r-s):=Int.mul_le_mul_of_nonneg_left g (Int.le_of_lt (Int.mul_pos hp l2))
 have a3:b*B8 (-s)*(b*B8 (-r))<=t*B8 s*(b*B8 (-r)):=Int.mul_le_mul_of_nonneg_right h1.1 (Int.le_of_lt l2)
 have e2:10*(b*B8 (-r))*(b*B8 (-s))=b*B8 (-s)*(b*B8 (-r))*10:=by ac_rfl
 have a4:b*B8 (-s)*(b*B8 (-r))*10<=t*B8 s*(b*B8 (-r))*10:=Int.mul_le_mul_of_nonneg_right a3 (by decide)
 rw[e] at a1
 rw[e2] at a1
 exact absurd (Int.lt_of_lt_of_le a1 (Int.le_trans a4 a2)) (Int.lt_irrefl _)
theorem U1f{t b s r:Int}(hb:0<b)(h1:A0k t b s)(h2:A0k t b r):s=r:=Int.le_antisymm (U2h hb h2 h1) (U2h hb h1 h2)
noncomputable def Sz (t:Int):Prop:=1<=t/\t<B8 1000
theorem B6r(n:Nat):10^n<=2^(4*n):=by
 rw[Nat.pow_mul]
 exact Nat.pow_le_pow_left (by decide) n
theorem G5k(n:Nat):10^(3*n)<=2^(10*n):=by
 rw[Nat.pow_mul,Nat.pow_mul]
 exact Nat.pow_le_pow_left (by decide) n
theorem Sz.nat{t:Int}(h:Sz t):∃n:Nat,t=(n:Int)/\1<=n/\n<10^1000:=by
 obtain⟨n,rfl⟩:=Int.eq_ofNat_of_zero_le (show 0<=t by have:=h.1;omega)
 exact⟨n,rfl,Int.ofNat_le.mp h.1,Int.ofNat_lt.mp h.2⟩
theorem D4x{t s:Int}(ht:Sz t)(h:s<=1500):∃n:Nat,t*B8 s=(n:Int)/\n<10^2502:=by
 obtain⟨n,rfl,_,hn⟩:=ht.nat
 refine⟨n*10^s.toNat,rfl,?_⟩
 have a:10^s.toNat<=10^1502:=Nat.pow_le_pow_right (by decide) (by omega)
 calc n*10^s.toNat<=n*10^1502:=Nat.mul_le_mul_left n a
   _<10^1000*10^1502:=Nat.mul_lt_mul_of_pos_right hn (Nat.pow_pos (by decide))
   _=10^2502:=by rw[<-Nat.pow_add]
theorem G5q{n:Nat}(h:n<10^2502):Builtin.Int.intBits (n:Int)<=2^20:=B3x (k:=4*2502) (Nat.lt_of_lt_of_le h (B6r 2502)) (by decide)
theorem D3r{t:Int}(h:Sz t):Builtin.Int.intBits t<=2^20:=by
 obtain⟨n,rfl,_,hn⟩:=h.nat
 exact B3x (k:=4*1000) (Nat.lt_of_lt_of_le hn (B6r 1000)) (by decide)
theorem J1j{t s:Int}(ht:Sz t)(h:s<=1500):IntMulOk t (B8 s):=IntMulOk.of_bits (D3r ht) (D2j (by omega))
theorem V1p{b s:Int}(hb:Sz b)(h:s<=1500):(b*B8 s).natAbs.log2<9000:=by
 obtain⟨n,e,hn⟩:=D4x hb h
 rw[e]
 have:n<2^8340:=Nat.lt_of_lt_of_le hn (G5k 834)
 exact Nat.lt_trans (B5e (i:=(n:Int)) (k:=8340) (by rw[Int.natAbs_natCast];exact this) (by decide)) (by decide)
noncomputable def whI (t b s:Int):Int:=t*B8 s/(b*B8 (-s))
noncomputable def ptI (t b s:Int):Int:=A9n (t*B8 s-whI t b s*(b*B8 (-s))) (b*B8 (-s))
theorem U2f{t b s:Int}(hb:0<b):0<=t*B8 s-whI t b s*(b*B8 (-s))/\t*B8 s-whI t b s*(b*B8 (-s))<b*B8 (-s):=by
 have l:=Int.mul_pos hb (G9 (-s))
 have e:=Int.emod_add_mul_ediv (t*B8 s) (b*B8 (-s))
 have a:=Int.emod_nonneg (t*B8 s) (Int.ne_of_gt l)
 have c:=Int.emod_lt_of_pos (t*B8 s) l
 have e2:whI t b s*(b*B8 (-s))=b*B8 (-s)*(t*B8 s/(b*B8 (-s))):=Int.mul_comm _ _
 omega
theorem A0br{t b s:Int}(ht:Sz t)(hb:Sz b)(h1: -1500<=s)(h2:s<=1500):IntMulOk (whI t b s) (b*B8 (-s)):=by
 obtain⟨n,e,hn⟩:=D4x hb (s:= -s) (by omega)
 obtain⟨k,e',hk⟩:=D4x ht h2
 unfold whI
 rw[e,e']
 exact IntMulOk.of_bits (G5q (Nat.lt_of_le_of_lt (Nat.div_le_self k n) hk)) (G5q hn)
noncomputable abbrev A6n:Stmt:=(G7 (top 6) 0)
structure RatC(K:Frag)(mg:Str ->Option Value)(CR CE:Addr):Prop where
 g:mg "Ratio"=some (.ref CR)
 ge:mg "Exact"=some (.ref CE)
 cl:Cls K CR
 n_top:NoAttr K CR "top"
 n_bottom:NoAttr K CR "bottom"
 n_power:NoAttr K CR "power"
 ca:findIn K (.ref CR) "__class__"=some (some (.builtin "object.__class__"))
 sn:specialIn K (.builtin "object.__class__") "__get__"=some (some (.builtin "getset_descriptor.__get__"))
 tk:takesIn K (.builtin "object.__class__")=some true
 ob:mroIn K CR (.type "object")=some true
 up:kitOne K (.ref CR) (.ref CE)=some true
noncomputable def D4k (t b n:V):List (Str×V):=V6 "power" n (V6 "bottom" b (V6 "top" t []))
theorem C3v(t b n:V)(x:Str):(D4k t b n).lookup x=if x="power" then some n else if x="bottom" then some b else if x="top" then some t else none:=by
 unfold D4k
 rw[G3,G3,G3]
 rfl
theorem U0y(t b n:V):(D4k t b n).lookup ("top":Str)=some t:=by rw[C3v,if_neg (by decide+kernel),if_neg (by decide+kernel),if_pos rfl]
theorem C4c(t b n:V):(D4k t b n).lookup ("bottom":Str)=some b:=by rw[C3v,if_neg (by decide+kernel),if_pos rfl]
theorem D1s(t b n:V):(D4k t b n).lookup ("power":Str)=some n:=by rw[C3v,if_pos rfl]
theorem B6m(t b n:V):(D4k t b n).lookup ("first":Str)=none:=by rw[C3v,if_neg (by decide+kernel),if_neg (by decide+kernel),if_neg (by decide+kernel)]
theorem D1q(t b n:V):(D4k t b n).lookup ("at":Str)=none:=by rw[C3v,if_neg (by decide+kernel),if_neg (by decide+kernel),if_neg (by decide+kernel)]
noncomputable def RatAt (CR:Addr) (H:Hp) (x:Addr) (t b n:Int):Prop:=∃dx,H x=some (.ins CR dx (D4k (.int t) (.int b) (.int n)))
theorem RatAt.same{CR:Addr}{H H':Hp}{x:Addr}{t b n:Int}(h:RatAt CR H x t b n)(s:Same H H'):RatAt CR H' x t b n:=by
 obtain⟨dx,e⟩:=h
 exact⟨dx,s _ _ e⟩
section
variable{P:Program}{w:World}{K:Frag}{mg:Str ->Option Value}{base:Heap}
noncomputable def D4n (CR:Addr):Sp:=fun vs H Q _=>∃(p dx:Addr) (t b n:V),vs=[.ref p,t,b,n]/\H p=some (.ins CR dx [])/\∀H',H' p=some (.ins CR dx (D4k t b n)) ->Exc p H H' ->Q .non H'
theorem Y7y:FnScope ["self","top","bottom","power"] ["self","top","bottom","power"] (A3 A6n):=scK
theorem V2c{f CR CE:Addr}{dV:Value}(F:FunD K "__init__" "Ratio.__init__" A6n dV f fd)(R:RatC K mg CR CE):FnOk P w K mg base (CX1 P w) 1 f fd ["self","top","bottom","power"] (D4n CR):=by
 refine F.okE Y7y (fun vs H Q E h=>?_) (fun X cdv A outer s H vs Q E hX hr hx h=>?_)
 . obtain⟨p,dx,a,b,c,rfl,_⟩:=h
   rfl
 . subst hX
   obtain⟨p,dx,a,b,c,rfl,hp,k⟩:=h
   refine⟨_,(A6 (A0r (pv 0) (pv 1) rfl)
     (A6 (A0r (pv 0) (pv 2) rfl)
     (A8 (A0r (pv 0) (pv 3) rfl)))),?_⟩
   have l:∀(fs:List (Str×V)) (f:Str) (v:V) (n:Nat),fs.length<=n ->(V6 f v fs).length<=n+1:=fun fs f v n h=>Nat.le_trans (A2d f v fs) (Nat.succ_le_succ h)
   refine⟨_,rfl,_,rfl,p,CR,dx,[],rfl,hp,R.cl,R.n_top,(by show 0<1000;decide),?_⟩
   refine⟨_,rfl,_,rfl,p,CR,dx,_,rfl,B5,R.cl,R.n_bottom,Nat.lt_of_le_of_lt (l _ _ _ 0 (Nat.le_refl _)) (by decide),?_⟩
   refine⟨_,rfl,_,rfl,p,CR,dx,_,rfl,B5,R.cl,R.n_power,Nat.lt_of_le_of_lt (l _ _ _ 1 (l _ _ _ 0 (Nat.le_refl _))) (by decide),?_⟩
   refine k _ B5 fun b o e hb=>?_
   rw[D4 hb,D4 hb,D4 hb]
   exact e
noncomputable def G5s (CR:Addr):Sp:=fun vs H Q _=>∃x t b n,vs=[.ref x]/\RatAt CR H x t b n/\Sz t/\Sz b/\∀f H',Same H H' ->A0k t b (n-f) ->Q (.int f) H'
noncomputable def V0m (CR:Addr):Sp:=fun vs H Q _=>∃x t b n p,vs=[.ref x,.int p]/\RatAt CR H x t b n/\Sz t/\Sz b/\ -1500<=n-p/\n-p<=1500/\
 ∀q H',Same H H' ->H q=none ->H' q=some (.tup [.int (whI t b (n-p)),.int (ptI t b (n-p))]) ->Q (.ref q) H'
structure MakeR(P:Program)(w:World)(K:Frag)(mg:Str ->Option Value)(base:Heap)(CR fI:Addr)(fdI:FuncData)(d0:Value)(gP:List Value ->List Value ->List Value)(vP:List V ->List V ->List V):Prop where
 m:Mk K CR fI
 g:FnOk P w K mg base (CX1 P w) 1 fI fdI ["self","top","bottom","power"] (D4n CR)
 b3:Binds K fdI ["self","top","bottom","power"] []
 b2:Binds K fdI ["self","top","bottom","power"] [d0]
 r0:RelV (.int 0) d0
 kP:KBinds K fdI ["self","top","bottom","power"] ["power"] gP vP
 eP:∀x a b c,vP [x,a,b] [c]=[x,a,b,c]
structure RatM(P:Program)(w:World)(K:Frag)(mg:Str ->Option Value)(base:Heap)(CR f1 f2:Addr)(fd1 fd2:FuncData):Prop where
 m1:Meth K CR "first" f1
 g1:FnOk P w K mg base (CX1 P w) 4 f1 fd1 ["self"] (G5s CR)
 b1:Binds K fd1 ["self"] []
 m2:Meth K CR "at" f2
 g2:FnOk P w K mg base (CX1 P w) 3 f2 fd2 ["self","power"] (V0m CR)
 b2:Binds K fd2 ["self","power"] []
theorem V1r{CR x dx:Addr}{H:Hp}{Q:VK}{E:XK}{t b n:Int}(n1:H x=none)(n2:H dx=none)(ne:dx≠x)(k:∀H',Same H H' ->RatAt CR H' x t b n ->Q .non H'):
   D4n CR [.ref x,.int t,.int b,.int n] (upd (upd H dx (.own x)) x (.ins CR dx [])) Q E:=
 ⟨x,dx,_,_,_,rfl,B5,fun H' e s=>k H' (fun c o z=>s c o (by rw[D4 (G6 z n1),D4 (G6 z n2)];exact z) (G6 z n1)) ⟨dx,e⟩⟩
end
noncomputable abbrev A6w:Stmt:=(top 7)
section
variable{P:Program}{w:World}{K:Frag}{mg:Str ->Option Value}{base:Heap}
noncomputable def G5m:Sp:=fun vs H Q _=>∃l m:Int,vs=[.int (2*l),.int m]/\0<=l/\0<m/\Q (.int (A9n l m)) H
theorem V0v:FnScope ["size","middle"] ["size","middle"] (A3 A6w):=scK
theorem Y6s{m:Int}(hm:0<m):A9n 0 m=0:=by
 unfold A9n
 rw[decide_eq_false (by omega:¬(0:Int)<0),decide_eq_false (by omega:¬m<=2*0),decide_eq_false (by omega:¬m<2*0)]
 rfl
theorem Y7x{l m:Int}(hl:0<l)(h:2*l<m):A9n l m=1:=by
 unfold A9n
 rw[decide_eq_true hl,decide_eq_false (by omega:¬m<=2*l),decide_eq_false (by omega:¬m<2*l)]
 rfl
theorem Y7t{l m:Int}(hl:0<l)(h:2*l=m):A9n l m=2:=by
 unfold A9n
 rw[decide_eq_true hl,decide_eq_true (by omega:m<=2*l),decide_eq_false (by omega:¬m<2*l)]
 rfl
theorem Y6r{l m:Int}(hl:0<l)(h:m<2*l):A9n l m=3:=by
 unfold A9n
 rw[decide_eq_true hl,decide_eq_true (by omega:m<=2*l),decide_eq_true h]
 rfl
theorem U5g(D:Def K mg "part_of" ["size","middle"] A6w f fd):FnOk P w K mg base (CX1 P w) 1 f fd ["size","middle"] G5m:=by
 refine FnOk.up (D.F.ok V0v (fun vs H Q E h=>?_) (fun cdv A outer s H vs Q E hr h=>?_))
 . obtain⟨l,m,rfl,_⟩:=h
   rfl
 . obtain ⟨l,m,rfl,hl,hm,k⟩:=h
   refine⟨_,(A6 (G0 (D0 G4 (pv 0) A7 (C8 _)) (A8 (B7 A7)) D3)
     (A6 (G0 (D0 G5v (pv 0) (pv 1) (C8 _)) (A8 (B7 A7)) D3)
     (A8 (B7 (A0a (D0 G4 (pv 0) (pv 1) (C8 _)) A7 A7))))),?_⟩
   refine⟨_,rfl,rfl,_,rfl,U9 (fun h0=>?_) (fun h0=>?_)⟩
   . have e:l=0:=by
       have:2*l=0:=by injection h0
       omega
     subst e
     rw[Y6s hm] at k
     exact k
   . have hl':0<l:=by
       apply Classical.byContradiction
       intro z
       exact h0 (by rw[show l=0 by omega];rfl)
     refine⟨_,rfl,_,rfl,_,_,rfl,rfl,_,rfl,U9 (fun h1=>?_) (fun h1=>?_)⟩
     . rw[Y7x hl' h1] at k
       exact k
     . refine⟨_,rfl,_,rfl,rfl,_,rfl,U9 (fun h2=>?_) (fun h2=>?_)⟩
       . rw[Y7t hl' (by injection h2)] at k
         exact k
       . rw[Y6r hl' (by
           have:2*l≠m:=fun z=>h2 (by rw[z])
           omega)] at k
         exact k
end
noncomputable abbrev A9q:Stmt:=(top 8)
theorem J0a(k:Nat):10^(k*301029995/10^9)<=2^k:=by
 have hm:k*301029995/10^9*28738<=k*8651:=by
   have:k*301029995/10^9*10^9<=k*301029995:=Nat.div_mul_le_self _ _
   omega
 generalize k*301029995/10^9=m at hm
 have c:(10:Nat)^8651<=2^28738:=by decide+kernel
 have a:(10^m)^8651<=(2^k)^8651:=by
   calc (10^m)^8651=(10^8651)^m:=by rw[<-Nat.pow_mul, <-Nat.pow_mul,Nat.mul_comm]
     _<=(2^28738)^m:=Nat.pow_le_pow_left c m
     _=2^(m*28738):=by rw[<-Nat.pow_mul,Nat.mul_comm]
     _<=2^(k*8651):=Nat.pow_le_pow_right (by decide) hm
     _=(2^k)^8651:=by rw[<-Nat.pow_mul]
 exact(Nat.pow_le_pow_iff_left (by decide)).mp a
section
variable{P:Program}{w:World}{K:Frag}{mg:Str ->Option Value}{base:Heap}
noncomputable def U2n:Sp:=fun vs H Q _=>∃n:Nat,vs=[.int (n:Int)]/\1<=n/\n<10^3000/\∀L:Nat,10^L<=n ->n<10^(L+1) ->Q (.int (L:Int)) H
theorem scWLead:FnScope ["whole","lead","beyond"] ["whole"] (A3 A9q):=scK
theorem V0r(D:Def K mg "whole_lead" ["whole"] A9q f fd)(dA:Def K mg "ten_to" ["count"] Z9 f1 fd1)(dB:FnOk P w K mg base (CX1 P w) 2 f1 fd1 ["count"] A1u):FnOk P w K mg base (CX1 P w) 3 f fd ["whole"] U2n:=by
 refine FnOk.up (D.F.ok scWLead (fun vs H Q E h=>?_) (fun cdv A outer s H vs Q E hr h=>?_))
 . obtain⟨n,rfl,_⟩:=h
   rfl
 . obtain ⟨n,rfl,n1,n2,k⟩:=h
   have hx:G5 (A0f CX0 P w K mg base ["whole","lead","beyond"] "whole_lead" (A3 A9q) f cdv A outer s H E).nox EKF:=Y9
   refine⟨_,(A6 (D6 (D7 (i:=1) scWLead.nd rfl (Or.inl rfl) (C7 U6 (C7 V0 (C7 V1 (Z5g PySem.F.plainAttrs_int PySem.F.slot_int_bit_length PySem.F.type_int_bit_length C8d (pv 0)) A7) A7) (C7 J0r A7 A7))))
     (A6 (D6 (D7 (i:=2) scWLead.nd rfl (Or.inl rfl) (C6 dA dB hr hx (A1 (C7 Y3 (pv 1) A7) A5))))
     (A6 (D6 (C4t PassesOwn.never (D0 Z3s (pv 2) (pv 0) (C8 _)) (A6 (Z4f (i:=1) scWLead.nd rfl (Or.inl rfl) A7 Z6b)
     (A8 (D7 (i:=2) scWLead.nd rfl (Or.inl rfl) (C7 V0 (pv 2) A7))))))
     (A8 (B7 (pv 1)))))),?_⟩
   have mC:∀z n:Int, -(2^64)<n ->n<2^64 ->IntMulOk z n:=fun z n a b=>CMul.ok (.inr ⟨a,b⟩)
   have pw:Z5b 10 9:=⟨by decide,by decide,by decide⟩
   have l3:∀{L:Nat},10^L<=n ->L<3000:=fun hL=>(Nat.pow_lt_pow_iff_right (by decide:1<10)).mp (Nat.lt_of_le_of_lt hL n2)
   refine⟨fun σ H'=>H'=H/\∃L:Nat,10^L<=n/\σ=[some (.int (n:Int)),some (.int (L:Int)),none],?_,?_⟩
   . refine⟨_,rfl,rfl,_,rfl,rfl,_,_,rfl,rfl,_,_,rfl,rfl,mC _ _ (by decide) (by decide),_,_,rfl,rfl,pw,_,_,rfl,rfl,⟨by decide,by decide+kernel⟩,rfl,n.log2*301029995/10^9,?_,?_⟩
     . exact Nat.le_trans (J0a _) (Nat.log2_self_le (by omega))
     . have e:(Builtin.Int.intBits (n:Int):Nat)=n.log2+1:=by
         unfold Builtin.Int.intBits
         rw[if_neg (by simp;omega)]
         rfl
       show [some (V.int (n:Int)),some (V.int ((((Builtin.Int.intBits (n:Int):Nat):Int)-1)*301029995/(10^Int.toNat 9:Int))),none]=_
       rw[e,show((n.log2+1:Nat):Int)-1=(n.log2:Int) by omega]
       rfl
   rintro σ H' ⟨rfl,L0,hL0,rfl⟩
   refine⟨fun σ H2=>H2=H'/\∃L:Nat,10^L<=n/\σ=[some (.int (n:Int)),some (.int (L:Int)),some (.int ((10^(L+1):Nat):Int))],?_,?_⟩
   . have:=l3 hL0
     exact⟨_,rfl,_,_,rfl,rfl,L0+1,rfl,by omega,rfl,L0,hL0,rfl⟩
   rintro σ H2 ⟨rfl,L1,hL1,rfl⟩
   refine⟨fun σ H3=>H3=H2/\∃L:Nat,10^L<=n/\n<10^(L+1)/\σ=[some (.int (n:Int)),some (.int (L:Int)),some (.int ((10^(L+1):Nat):Int))],?_,?_⟩
   . refine C3f (fun σ H3=>H3=H2/\∃L:Nat,10^L<=n/\σ=[some (.int (n:Int)),some (.int (L:Int)),some (.int ((10^(L+1):Nat):Int))]) (fun σ _=>match σ with| [_,some (.int c),_]=>n-c.toNat|_=>0) ?_ ?_ ?_
     . exact⟨rfl,L1,hL1,rfl⟩
     . rintro σ H3 ⟨rfl,L,hL,rfl⟩
       refine⟨_,rfl,_,rfl,_,_,rfl,rfl,_,rfl,U9 (fun hle=>?_) (fun hgt=>?_)⟩
       . have hle:10^(L+1)<=n:=Int.ofNat_le.mp hle
         refine⟨_,rfl,_,_,rfl,rfl,_,rfl,_,_,rfl,rfl,mC _ _ (by decide) (by decide),⟨rfl,L+1,hle,?_⟩,?_⟩
         . show [some (V.int (n:Int)),some (V.int ((L:Int)+1)),some (V.int (((10^(L+1):Nat):Int)*10))]=_
           rw[show((10^(L+1):Nat):Int)*10=((10^(L+1+1):Nat):Int) by rw[Nat.pow_succ 10 (L+1)];rfl]
           rfl
         have lt:L+1<10^(L+1):=Nat.lt_pow_self (by decide)
         show n-((L:Int)+1).toNat<n-(L:Int).toNat
         omega
       . have hgt:¬10^(L+1)<=n:=fun z=>hgt (Int.ofNat_le.mpr z)
         exact⟨rfl,L,hL,by omega,rfl⟩
     . rintro σ H2 Q1 Q2 hQ ⟨v,e,v2,e4,i2,j2,e5,e6,b,e7,q⟩
       exact⟨v,e,v2,e4,i2,j2,e5,e6,b,e7,hQ _ _ q⟩
   rintro σ H3 ⟨rfl,L,h1,h2,rfl⟩
   exact⟨_,rfl,k L h1 h2⟩
end
noncomputable abbrev C3m:Stmt:=(G7 (top 6) 2)
noncomputable abbrev A3w:Stmt:=(G7 (top 6) 1)
section
variable{P:Program}{w:World}{K:Frag}{mg:Str ->Option Value}{base:Heap}
theorem scRAt:FnScope ["self","power","shift","top","bottom","whole"] ["self","power"] (A3 C3m):=scK
theorem Z4h{f f1 f2 CR CE:Addr}(F:Fun K "at" "Ratio.at" C3m f fd)(dA:Def K mg "ten_to" ["count"] Z9 f1 fd1)(dB:FnOk P w K mg base (CX1 P w) 2 f1 fd1 ["count"] A1u)
   (dC:Def K mg "part_of" ["size","middle"] A6w f2 fd2) (dD:FnOk P w K mg base (CX1 P w) 1 f2 fd2 ["size","middle"] G5m) (R:RatC K mg CR CE) (O:Own mg):FnOk P w K mg base (CX1 P w) 3 f fd ["self","power"] (V0m CR):=by
 refine FnOk.up (F.ok scRAt (fun vs H Q E h=>?_) (fun cdv A outer s H vs Q E hr h=>?_))
 . obtain⟨x,t,b,n,p,rfl,_⟩:=h
   rfl
 . obtain⟨x,t,b,n,p,rfl,⟨dx,e⟩,ht,hb,h1,h2,k⟩:=h
   have hx:G5 (A0f CX0 P w K mg base ["self","power","shift","top","bottom","whole"] "Ratio.at" (A3 C3m) f cdv A outer s H E).nox EKF:=Y9
   refine⟨_,(A6 (D7 (i:=2) scRAt.nd rfl (Or.inl rfl) (C7 V1 (D5 (pv 0) rfl) (pv 1)))
     (A6 (D7 (i:=3) scRAt.nd rfl (Or.inl rfl) (C7 V0 (D5 (pv 0) rfl) (C6 dA dB hr hx (A1 (J1 (A1k rfl) (by rfl) O.max_ boot_max (A1 (pv 2) (A1 A7 A5))) A5))))
     (A6 (D7 (i:=4) scRAt.nd rfl (Or.inl rfl) (C7 V0 (D5 (pv 0) rfl) (C6 dA dB hr hx (A1 (J1 (A1k rfl) (by rfl) O.max_ boot_max (A1 (D2v B7z (pv 2)) (A1 A7 A5))) A5))))
     (A6 (D7 (i:=5) scRAt.nd rfl (Or.inl rfl) (C7 U6 (pv 3) (pv 4)))
     (A8 (B7 (V3 (A1 (pv 5) (A1 (C6 dC dD hr hx (A1 (C7 V0 A7 (C7 V1 (pv 3) (C7 V0 (pv 5) (pv 4)))) (A1 (pv 4) A5))) A5))))))))),?_⟩
   have z2:2<=sizeLine:=D8 (by decide)
   have mC':∀z n:Int, -(2^64)<n ->n<2^64 ->IntMulOk n z:=fun z n a b=>CMul.ok (.inl ⟨a,b⟩)
   have hb0:0<b:=by have:=hb.1;omega
   refine⟨_,rfl,x,CR,dx,_,_,rfl,e,R.cl,R.n_power,D1s _ _ _,_,rfl,_,_,rfl,rfl,?_⟩
   refine⟨_,rfl,x,CR,dx,_,_,rfl,e,R.cl,R.n_top,U0y _ _ _,_,rfl,_,_,rfl,(n-p).toNat,congrArg (fun z=>[V.int z]) (maxT (n-p)),by omega,_,_,rfl,rfl,J1j ht h2,?_⟩
   refine⟨_,rfl,x,CR,dx,_,_,rfl,e,R.cl,R.n_bottom,C4c _ _ _,_,rfl,_,rfl,_,_,rfl,(-(n-p)).toNat,congrArg (fun z=>[V.int z]) (maxT (-(n-p))),by omega,_,_,rfl,rfl,J1j hb (by omega),?_⟩
   have lp:0<b*B8 (-(n-p)):=Int.mul_pos hb0 (G9 _)
   have ll:(b*B8 (-(n-p))).natAbs.log2<9000:=V1p hb (by omega)
   refine⟨_,rfl,_,rfl,_,_,rfl,rfl,⟨lp,ll⟩,?_⟩
   have lf:=U2f (t:=t) (s:=n-p) hb0
   refine⟨_,rfl,_,rfl,_,rfl,_,rfl,_,_,rfl,rfl,A0br ht hb h1 h2,_,_,rfl,rfl,_,_,rfl,rfl,mC' _ _ (by decide) (by decide),_,rfl,_,_,rfl,lf.1,lp,z2,fun q nq=>k q _ (Same.upd nq) nq B5⟩
end
theorem Z5r{t b L M u v:Nat}(h:L+u=M+v)(t2:t<10^(L+1))(b1:10^M<=b):t*10^u<10*(b*10^v):=by
 have p:0<10^u:=Nat.pow_pos (by decide)
 calc t*10^u<10^(L+1)*10^u:=Nat.mul_lt_mul_of_pos_right t2 p
   _=10*(10^M*10^v):=by rw[<-Nat.pow_add, <-Nat.pow_add, <-h,show L+1+u=(L+u)+1 by omega,Nat.pow_succ,Nat.mul_comm]
   _<=10*(b*10^v):=Nat.mul_le_mul_left 10 (Nat.mul_le_mul_right _ b1)
theorem Z4v{t b L M u v:Nat}(h:L+u=M+1+v)(t1:10^L<=t)(b2:b<10^(M+1)):b*10^v<=t*10^u:=by
 calc b*10^v<=10^(M+1)*10^v:=Nat.mul_le_mul_right _ (Nat.le_of_lt b2)
   _=10^L*10^u:=by rw[<-Nat.pow_add, <-Nat.pow_add,h]
   _<=t*10^u:=Nat.mul_le_mul_right _ t1
theorem D1r{t b L M:Nat}(t1:10^L<=t)(t2:t<10^(L+1))(b1:10^M<=b)(b2:b<10^(M+1))(h:(b:Int)*B8 (-((M:Int)-L))<=(t:Int)*B8 ((M:Int)-L)):A0k t b ((M:Int)-L):=by
 refine⟨h,?_⟩
 unfold B8
 have:=Z5r (t:=t) (b:=b) (L:=L) (M:=M) (u:=((M:Int)-L).toNat) (v:=(-((M:Int)-L)).toNat) (by omega) t2 b1
 exact Int.ofNat_lt.mpr this
theorem C4h{t b L M:Nat}(t1:10^L<=t)(t2:t<10^(L+1))(b1:10^M<=b)(b2:b<10^(M+1))(h:(t:Int)*B8 ((M:Int)-L)<(b:Int)*B8 (-((M:Int)-L))):A0k t b ((M:Int)-L+1):=by
 refine⟨?_,?_⟩
 . unfold B8
   have:=Z4v (t:=t) (b:=b) (L:=L) (M:=M) (u:=((M:Int)-L+1).toNat) (v:=(-((M:Int)-L+1)).toNat) (by omega) t1 b2
   exact Int.ofNat_le.mpr this
 . have hb:0<(b:Int):=by
     have:0<10^M:=Nat.pow_pos (by decide)
     omega
   generalize (M:Int)-L=s at h
   have c:=C4k (s:=s) (r:=s+1) (by omega)
   have e1:B8 (s+1-s)=10:=by rw[show s+1-s=1 by omega];rfl
   rw[e1] at c
   have l:=Int.mul_pos hb (G9 (-s))
   have l':=Int.mul_pos hb (G9 (-(s+1)))
   have e:(t:Int)*B8 (s+1)*((b:Int)*B8 (-s))=(t:Int)*B8 s*((b:Int)*B8 (-(s+1)))*10:=by
     calc (t:Int)*B8 (s+1)*((b:Int)*B8 (-s))=t*b*(B8 (s+1)*B8 (-s)):=by ac_rfl
       _=t*b*(B8 s*B8 (-(s+1))*10):=by rw[c]
       _=(t:Int)*B8 s*((b:Int)*B8 (-(s+1)))*10:=by ac_rfl
   have a:(t:Int)*B8 s*((b:Int)*B8 (-(s+1)))<(b:Int)*B8 (-s)*((b:Int)*B8 (-(s+1))):=Int.mul_lt_mul_of_pos_right h l'
   have a2:(t:Int)*B8 (s+1)*((b:Int)*B8 (-s))<10*((b:Int)*B8 (-(s+1)))*((b:Int)*B8 (-s)):=by
     rw[e,show 10*((b:Int)*B8 (-(s+1)))*((b:Int)*B8 (-s))=(b:Int)*B8 (-s)*((b:Int)*B8 (-(s+1)))*10 by ac_rfl]
     exact Int.mul_lt_mul_of_pos_right a (by decide)
   exact Int.lt_of_mul_lt_mul_right a2 (Int.le_of_lt l)
section
variable{P:Program}{w:World}{K:Frag}{mg:Str ->Option Value}{base:Heap}
theorem scRFirst:FnScope ["self","guess"] ["self"] (A3 A3w):=scK
theorem U4b{f f1 f2 CR CE:Addr}(F:Fun K "first" "Ratio.first" A3w f fd)(dA:Def K mg "whole_lead" ["whole"] A9q f1 fd1)(dB:FnOk P w K mg base (CX1 P w) 3 f1 fd1 ["whole"] U2n)
   (MA:Meth K CR "at" f2) (GA:FnOk P w K mg base (CX1 P w) 3 f2 fd2 ["self","power"] (V0m CR)) (BA:Binds K fd2 ["self","power"] []) (R:RatC K mg CR CE):FnOk P w K mg base (CX1 P w) 4 f fd ["self"] (G5s CR):=by
 refine FnOk.up (F.ok scRFirst (fun vs H Q E h=>?_) (fun cdv A outer s H vs Q E hr h=>?_))
 . obtain⟨x,t,b,n,rfl,_⟩:=h
   rfl
 . obtain⟨x,t,b,n,rfl,ra,ht,hb,k⟩:=h
   have hx:G5 (A0f CX0 P w K mg base ["self","guess"] "Ratio.first" (A3 A3w) f cdv A outer s H E).nox EKF:=Y9
   refine⟨_,(A6 (D7 (i:=1) scRFirst.nd rfl (Or.inl rfl) (C7 Y3 (C7 V1 (C6 dA dB hr hx (A1 (D5 (pv 0) rfl) A5)) (C6 dA dB hr hx (A1 (D5 (pv 0) rfl) A5))) (D5 (pv 0) rfl)))
     (A8 (B7 (A0a (D0 G5r (U2 G8 (C2f (pv 0) R.cl MA GA hr BA .nil hx (A1 (pv 1) A5)) A7 (fun _ _=>rfl)) A7 (C8 _)) (pv 1) (C7 V1 (pv 1) A7))))),?_⟩
   obtain⟨tn,rfl,ta,tb⟩:=ht.nat
   obtain⟨bn,rfl,ba,bb⟩:=hb.nat
   obtain⟨dx,e⟩:=id ra
   have p30:(10:Nat)^1000<10^3000:=Nat.pow_lt_pow_right (by decide) (by decide)
   have p30':∀{L m:Nat},10^L<=m ->m<10^1000 ->L<1000:=fun h1 h2=>(Nat.pow_lt_pow_iff_right (by decide:1<10)).mp (Nat.lt_of_le_of_lt h1 h2)
   refine⟨_,rfl,x,CR,dx,_,_,rfl,e,R.cl,R.n_top,U0y _ _ _,tn,rfl,ta,Nat.lt_trans tb p30,fun L L1 L2=>?_⟩
   refine⟨_,rfl,x,CR,dx,_,_,rfl,e,R.cl,R.n_bottom,C4c _ _ _,bn,rfl,ba,Nat.lt_trans bb p30,fun M' M1 M2=>?_⟩
   have l30:=p30' L1 tb
   have m30:=p30' M1 bb
   refine⟨_,_,rfl,rfl,_,rfl,x,CR,dx,_,_,rfl,e,R.cl,R.n_power,D1s _ _ _,_,_,rfl,rfl,?_⟩
   have es:n-((L:Int)-M'+n)=(M':Int)-L:=by omega
   refine⟨_,rfl,x,dx,_,rfl,e,D1q _ _ _,_,rfl,x,tn,bn,n,_,rfl,ra,ht,hb,by omega,by omega,fun q H1 s1 nq hq=>?_⟩
   rw[es] at hq
   refine⟨q,_,0,_,rfl,rfl,SqT.of hq,G2 (j:=0) rfl,_,_,rfl,rfl,_,rfl,?_⟩
   have lp:0<(bn:Int)*B8 (-((M':Int)-L)):=Int.mul_pos (by omega) (G9 _)
   refine U9 (fun hg=>?_) (fun hg=>?_)
   . have hle:(bn:Int)*B8 (-((M':Int)-L))<=(tn:Int)*B8 ((M':Int)-L):=by
       have:=(Int.le_ediv_iff_mul_le lp).mp (show(1:Int)<=(tn:Int)*B8 ((M':Int)-L)/((bn:Int)*B8 (-((M':Int)-L))) from hg)
       omega
     refine⟨_,rfl,k _ H1 s1 ?_⟩
     rw[es]
     exact D1r L1 L2 M1 M2 hle
   . have hlt:(tn:Int)*B8 ((M':Int)-L)<(bn:Int)*B8 (-((M':Int)-L)):=by
       apply Classical.byContradiction
       intro z
       exact hg ((Int.le_ediv_iff_mul_le lp).mpr (by omega))
     refine⟨_,rfl,_,_,rfl,rfl,k _ H1 s1 ?_⟩
     rw[show n-((L:Int)-M'+n-1)=(M':Int)-L+1 by omega]
     exact C4h L1 L2 M1 M2 hlt
end
inductive Wy where
 |down
 |up
 |floor
 |ceiling
 |halfUp
 |halfDown
 |halfEven
 |fiveUp
noncomputable def Wy.name:Wy ->Str
 | .down=>"down"
 | .up=>"up"
 | .floor=>"floor"
 | .ceiling=>"ceiling"
 | .halfUp=>"half up"
 | .halfDown=>"half down"
 | .halfEven=>"half even"
 | .fiveUp=>"five up"
noncomputable def Wy.cls:Wy ->Str
 | .down=>"Down"
 | .up=>"Up"
 | .floor=>"Floor"
 | .ceiling=>"Ceiling"
 | .halfUp=>"HalfUp"
 | .halfDown=>"HalfDown"
 | .halfEven=>"HalfEven"
 | .fiveUp=>"FiveUp"
theorem Wy.inj{a b:Wy}(h:a.name=b.name):a=b:=by
 cases a<;>cases b<;>first|rfl|exact absurd h (by decide+kernel)
structure WayC(K:Frag)(mg:Str ->Option Value)(x:Str)(C CW:Addr):Prop where
 g:mg x=some (.ref C)
 cl:Cls K C
 mk0:Mk0 K C
 ca:findIn K (.ref C) "__class__"=some (some (.builtin "object.__class__"))
 sn:specialIn K (.builtin "object.__class__") "__get__"=some (some (.builtin "getset_descriptor.__get__"))
 tk:takesIn K (.builtin "object.__class__")=some true
 ob:mroIn K C (.type "object")=some true
 up:kitOne K (.ref C) (.ref CW)=some true
section
variable{P:Program}{w:World}{K:Frag}{mg:Str ->Option Value}{base:Heap}
noncomputable def A6x (s:Str):Sp:=fun vs H Q _=>∃p,vs=[.ref p]/\Q (.str s) H
noncomputable def WayN (P:Program) (w:World) (K:Frag) (mg:Str ->Option Value) (base:Heap) (C:Addr) (s:Str):Prop:=Has P w K mg base C "name" 1 ["self"] (A6x s)
noncomputable abbrev sN0:Stmt:=(G7 (top 54) 0)
theorem scN0:FnScope ["self"] ["self"] (A3 sN0):=scK
theorem Z9w(F:Fun K "name" "Down.name" sN0 f fd):FnOk P w K mg base (CX1 P w) 1 f fd ["self"] (A6x "down"):=by
 refine FnOk.up (F.ok scN0 (fun vs H Q E h=>?_) (fun cdv A outer s H vs Q E hr h=>?_))
 . obtain⟨p,rfl,_⟩:=h
   rfl
 . obtain⟨p,rfl,k⟩:=h
   exact⟨_,A8 (B7 C9),k⟩
noncomputable abbrev sN1:Stmt:=(G7 (top 55) 0)
theorem scN1:FnScope ["self"] ["self"] (A3 sN1):=scK
theorem Z9t(F:Fun K "name" "Up.name" sN1 f fd):FnOk P w K mg base (CX1 P w) 1 f fd ["self"] (A6x "up"):=by
 refine FnOk.up (F.ok scN1 (fun vs H Q E h=>?_) (fun cdv A outer s H vs Q E hr h=>?_))
 . obtain⟨p,rfl,_⟩:=h
   rfl
 . obtain⟨p,rfl,k⟩:=h
   exact⟨_,A8 (B7 C9),k⟩
noncomputable abbrev sN2:Stmt:=(G7 (top 56) 0)
theorem scN2:FnScope ["self"] ["self"] (A3 sN2):=scK
theorem Z8v(F:Fun K "name" "Floor.name" sN2 f fd):FnOk P w K mg base (CX1 P w) 1 f fd ["self"] (A6x "floor"):=by
 refine FnOk.up (F.ok scN2 (fun vs H Q E h=>?_) (fun cdv A outer s H vs Q E hr h=>?_))
 . obtain⟨p,rfl,_⟩:=h
   rfl
 . obtain⟨p,rfl,k⟩:=h
   exact⟨_,A8 (B7 C9),k⟩
noncomputable abbrev sN3:Stmt:=(G7 (top 57) 0)
theorem scN3:FnScope ["self"] ["self"] (A3 sN3):=scK
theorem Z9n(F:Fun K "name" "Ceiling.name" sN3 f fd):FnOk P w K mg base (CX1 P w) 1 f fd ["self"] (A6x "ceiling"):=by
 refine FnOk.up (F.ok scN3 (fun vs H Q E h=>?_) (fun cdv A outer s H vs Q E hr h=>?_))
 . obtain⟨p,rfl,_⟩:=h
   rfl
 . obtain⟨p,rfl,k⟩:=h
   exact⟨_,A8 (B7 C9),k⟩
noncomputable abbrev sN4:Stmt:=(G7 (top 58) 0)
theorem scN4:FnScope ["self"] ["self"] (A3 sN4):=scK
theorem Z9q(F:Fun K "name" "HalfUp.name" sN4 f fd):FnOk P w K mg base (CX1 P w) 1 f fd ["self"] (A6x "half up"):=by
 refine FnOk.up (F.ok scN4 (fun vs H Q E h=>?_) (fun cdv A outer s H vs Q E hr h=>?_))
 . obtain⟨p,rfl,_⟩:=h
   rfl
 . obtain⟨p,rfl,k⟩:=h
   exact⟨_,A8 (B7 C9),k⟩
noncomputable abbrev sN5:Stmt:=(G7 (top 59) 0)
theorem scN5:FnScope ["self"] ["self"] (A3 sN5):=scK
theorem A0ac(F:Fun K "name" "HalfDown.name" sN5 f fd):FnOk P w K mg base (CX1 P w) 1 f fd ["self"] (A6x "half down"):=by
 refine FnOk.up (F.ok scN5 (fun vs H Q E h=>?_) (fun cdv A outer s H vs Q E hr h=>?_))
 . obtain⟨p,rfl,_⟩:=h
   rfl
 . obtain⟨p,rfl,k⟩:=h
   exact⟨_,A8 (B7 C9),k⟩
noncomputable abbrev sN6:Stmt:=(G7 (top 60) 0)
theorem scN6:FnScope ["self"] ["self"] (A3 sN6):=scK
theorem A0bq(F:Fun K "name" "HalfEven.name" sN6 f fd):FnOk P w K mg base (CX1 P w) 1 f fd ["self"] (A6x "half even"):=by
 refine FnOk.up (F.ok scN6 (fun vs H Q E h=>?_) (fun cdv A outer s H vs Q E hr h=>?_))
 . obtain⟨p,rfl,_⟩:=h
   rfl
 . obtain⟨p,rfl,k⟩:=h
   exact⟨_,A8 (B7 C9),k⟩
noncomputable abbrev sN7:Stmt:=(G7 (top 61) 0)
theorem scN7:FnScope ["self"] ["self"] (A3 sN7):=scK
theorem Z9h(F:Fun K "name" "FiveUp.name" sN7 f fd):FnOk P w K mg base (CX1 P w) 1 f fd ["self"] (A6x "five up"):=by
 refine FnOk.up (F.ok scN7 (fun vs H Q E h=>?_) (fun cdv A outer s H vs Q E hr h=>?_))
 . obtain⟨p,rfl,_⟩:=h
   rfl
 . obtain⟨p,rfl,k⟩:=h
   exact⟨_,A8 (B7 C9),k⟩
noncomputable def Z3w (K:Frag) (H:Hp) (v:V):Prop:=∃t b,TyE K H v t/\kitOne K t (.type "str")=some b/\(b=false\/∃z,v= .str z/\∀y:Wy,z≠y.name)
theorem A9v{C:Addr}{σ:L2.St}{H:Hp}{Q:VK}(k:∀p dx H',H p=none ->Same H H' ->H' p=some (.ins C dx []) ->Q (.ref p) H'):Z5s C σ H Q:=fun x dx n1 n2 ne=>
 k x dx _ n1 ((Same.upd n2).trans (Same.upd (by rw[D4 (Ne.symm ne)];exact n1))) B5
noncomputable abbrev A9r:Stmt:=(top 62)
noncomputable def D3y (K:Frag) (CB:Addr) (cw:Wy ->Addr):Sp:=fun vs H Q E=>∃v,vs=[v]/\((∃y:Wy,v= .str y.name/\∀p dx H',H p=none ->Same H H' ->H' p=some (.ins (cw y) dx []) ->Q (.ref p) H')\/(Z3w K H v/\E (.ref CB) none H))
theorem Y8e:FnScope ["name"] ["name"] (A3 A9r):=scK
theorem V0a{f CB CW:Addr}{cw:Wy ->Addr}(D:Def K mg "way_of" ["name"] A9r f fd)(O:Own mg)(T:Kit K)(B:Err K mg "BadContext" CB)(W:∀y:Wy,WayC K mg y.cls (cw y) CW):
   FnOk P w K mg base (CX1 P w) 1 f fd ["name"] (D3y K CB cw):=by
 refine D.F.okE Y8e (fun vs H Q E h=>?_) (fun X cdv A outer s H vs Q E hX hr hx h=>?_)
 . obtain⟨v,rfl,_⟩:=h
   rfl
 . subst hX
   obtain⟨v,rfl,h⟩:=h
   refine⟨_,(A6 (G0 (A1h (V4 (J0m O.isi (pv 0) (pty O.str_ boot_str)))) (A8 (A4h (by rfl) B.g B.q PySem.F.excBase_ValueError hr.hd hx (A1 C9 A5))) D3)
     (A6 (G0 (D0 G4 (pv 0) C9 (C8 _)) (A8 (B7 (A9y (W .down).mk0 rfl (W .down).g))) D3)
     (A6 (G0 (D0 G4 (pv 0) C9 (C8 _)) (A8 (B7 (A9y (W .up).mk0 rfl (W .up).g))) D3)
     (A6 (G0 (D0 G4 (pv 0) C9 (C8 _)) (A8 (B7 (A9y (W .floor).mk0 rfl (W .floor).g))) D3)
     (A6 (G0 (D0 G4 (pv 0) C9 (C8 _)) (A8 (B7 (A9y (W .ceiling).mk0 rfl (W .ceiling).g))) D3)
     (A6 (G0 (D0 G4 (pv 0) C9 (C8 _)) (A8 (B7 (A9y (W .halfUp).mk0 rfl (W .halfUp).g))) D3)
     (A6 (G0 (D0 G4 (pv 0) C9 (C8 _)) (A8 (B7 (A9y (W .halfDown).mk0 rfl (W .halfDown).g))) D3)
     (A6 (G0 (D0 G4 (pv 0) C9 (C8 _)) (A8 (B7 (A9y (W .halfEven).mk0 rfl (W .halfEven).g))) D3)
     (A6 (G0 (D0 G4 (pv 0) C9 (C8 _)) (A8 (B7 (A9y (W .fiveUp).mk0 rfl (W .fiveUp).g))) D3)
     (A8 (A4h (by rfl) B.g B.q PySem.F.excBase_ValueError hr.hd hx (A1 C9 A5)))))))))))),?_⟩
   have z1:1<=sizeLine:=D8 (by decide)
   rcases h with⟨y,rfl,k⟩|⟨⟨t,b,ty,kk,bad⟩,k⟩
   . refine⟨_,rfl,_,_,_,_,true,rfl,rfl,U2e _,T.str_str,_,rfl,Y5 ?_⟩
     refine⟨_,rfl,rfl,_,rfl,U9 (fun e=>?_) (fun n0=>?_)⟩
     . have q:y= .down:=Wy.inj (V.str.inj (e:V.str y.name=V.str (Wy.name .down)))
       subst q
       exact A9v k
     refine⟨_,rfl,rfl,_,rfl,U9 (fun e=>?_) (fun n1=>?_)⟩
     . have q:y= .up:=Wy.inj (V.str.inj (e:V.str y.name=V.str (Wy.name .up)))
       subst q
       exact A9v k
     refine⟨_,rfl,rfl,_,rfl,U9 (fun e=>?_) (fun n2=>?_)⟩
     . have q:y= .floor:=Wy.inj (V.str.inj (e:V.str y.name=V.str (Wy.name .floor)))
       subst q
       exact A9v k
     refine⟨_,rfl,rfl,_,rfl,U9 (fun e=>?_) (fun n3=>?_)⟩
     . have q:y= .ceiling:=Wy.inj (V.str.inj (e:V.str y.name=V.str (Wy.name .ceiling)))
       subst q
       exact A9v k
     refine⟨_,rfl,rfl,_,rfl,U9 (fun e=>?_) (fun n4=>?_)⟩
     . have q:y= .halfUp:=Wy.inj (V.str.inj (e:V.str y.name=V.str (Wy.name .halfUp)))
       subst q
       exact A9v k
     refine⟨_,rfl,rfl,_,rfl,U9 (fun e=>?_) (fun n5=>?_)⟩
     . have q:y= .halfDown:=Wy.inj (V.str.inj (e:V.str y.name=V.str (Wy.name .halfDown)))
       subst q
       exact A9v k
     refine⟨_,rfl,rfl,_,rfl,U9 (fun e=>?_) (fun n6=>?_)⟩
     . have q:y= .halfEven:=Wy.inj (V.str.inj (e:V.str y.name=V.str (Wy.name .halfEven)))
       subst q
       exact A9v k
     refine⟨_,rfl,rfl,_,rfl,U9 (fun e=>?_) (fun n7=>?_)⟩
     . have q:y= .fiveUp:=Wy.inj (V.str.inj (e:V.str y.name=V.str (Wy.name .fiveUp)))
       subst q
       exact A9v k
     cases y with
     |down=>exact absurd rfl n0
     |up=>exact absurd rfl n1
     |floor=>exact absurd rfl n2
     |ceiling=>exact absurd rfl n3
     |halfUp=>exact absurd rfl n4
     |halfDown=>exact absurd rfl n5
     |halfEven=>exact absurd rfl n6
     |fiveUp=>exact absurd rfl n7
   . refine⟨_,rfl,_,_,_,_,b,rfl,rfl,ty,kk,_,rfl,?_⟩
     cases b with
     |false=>exact Z1 ⟨z1,k⟩
     | true=>
       obtain⟨z,rfl,nz⟩:=bad.resolve_left (by decide)
       refine Y5 ?_
       refine⟨_,rfl,rfl,_,rfl,U9 (fun e=>absurd (V.str.inj e) (nz .down)) (fun n0=>?_)⟩
       refine⟨_,rfl,rfl,_,rfl,U9 (fun e=>absurd (V.str.inj e) (nz .up)) (fun n1=>?_)⟩
       refine⟨_,rfl,rfl,_,rfl,U9 (fun e=>absurd (V.str.inj e) (nz .floor)) (fun n2=>?_)⟩
       refine⟨_,rfl,rfl,_,rfl,U9 (fun e=>absurd (V.str.inj e) (nz .ceiling)) (fun n3=>?_)⟩
       refine⟨_,rfl,rfl,_,rfl,U9 (fun e=>absurd (V.str.inj e) (nz .halfUp)) (fun n4=>?_)⟩
       refine⟨_,rfl,rfl,_,rfl,U9 (fun e=>absurd (V.str.inj e) (nz .halfDown)) (fun n5=>?_)⟩
       refine⟨_,rfl,rfl,_,rfl,U9 (fun e=>absurd (V.str.inj e) (nz .halfEven)) (fun n6=>?_)⟩
       refine⟨_,rfl,rfl,_,rfl,U9 (fun e=>absurd (V.str.inj e) (nz .fiveUp)) (fun n7=>?_)⟩
       exact⟨z1,k⟩
end
noncomputable def sigS:List Str:=["void","split","burst","sunk","faint","off","cut"]
noncomputable def J1h:List V:=sigS.map V.str
structure SigK(K:Frag)(mg:Str ->Option Value)(aS:Addr):Prop where
 g:mg "SIGNALS"=some (.ref aS)
 ty:∃o,K.lookup aS=some o/\o.cls= .type "tuple"
 sq:∀H,SqT K H aS J1h
noncomputable abbrev B5d:Stmt:=(top 67)
section
variable{P:Program}{w:World}{K:Frag}{mg:Str ->Option Value}{base:Heap}
noncomputable def BadS (K:Frag) (H:Hp) (x:V):Prop:=∃t b,TyE K H x t/\kitOne K t (.type "str")=some b/\(b=false\/∃z,x= .str z/\z ∉ sigS)
noncomputable def V3c (K:Frag) (H:Hp) (v:V):Prop:=(∃t,TyE K H v t/\kitOne K t (.type "list")=some false)\/(∃(p:Addr) (zs:List Str) (x:V) (r:List V),v= .ref p/\H p=some (.lst (zs.map V.str++x::r))/\(∀z∈zs,z∈sigS)/\BadS K H x)
noncomputable def U1y (K:Frag) (CB:Addr):Sp:=fun vs H Q E=>∃v,vs=[v]/\((∃(p:Addr) (zs:List Str),v= .ref p/\H p=some (.lst (zs.map V.str))/\(∀z∈zs,z∈sigS)/\Q .non H)\/(V3c K H v/\E (.ref CB) none H))
theorem scNeedS:FnScope ["names","name"] ["names"] (A3 B5d):=scK
theorem V1a{f CB aS:Addr}(D:Def K mg "need_signals" ["names"] B5d f fd)(O:Own mg)(T:Kit K)(B:Err K mg "BadContext" CB)(SG:SigK K mg aS):FnOk P w K mg base (CX1 P w) 1 f fd ["names"] (U1y K CB):=by
 refine D.F.okE scNeedS (fun vs H Q E h=>?_) (fun X cdv A outer s H vs Q E hX hr hx h=>?_)
 . obtain⟨v,rfl,_⟩:=h
   rfl
 . subst hX
   obtain⟨v,rfl,h⟩:=h
   refine⟨_,(A6 (G0 (A1h (V4 (J0m O.isi (pv 0) (pty O.list_ boot_list)))) (A8 (A4h (by rfl) B.g B.q PySem.F.excBase_ValueError hr.hd hx (A1 C9 A5))) D3)
     (A8 (D4m PassesOwn.leaving rfl (C2z (pv 0)) (A0b (i:=1) scNeedS.nd rfl (Or.inl rfl)) (A8 (G0 (PW.pt (B4k (A1h (V4 (J0m O.isi (pv 1) (pty O.str_ boot_str)))) (A6s (D0 D4p (pv 1) (G5t SG.g) (by rfl))))) (A8 (A4h (by rfl) B.g B.q PySem.F.excBase_ValueError hr.hd hx (A1 C9 A5))) D3))))),?_⟩
   have z1:1<=sizeLine:=D8 (by decide)
   rcases h with⟨p,zs,rfl,hp,hz,k⟩|⟨(⟨t,ty,kk⟩|⟨p,zs,x,r,rfl,hp,hz,t,b,ty,kk,bad⟩),k⟩
   . refine⟨_,rfl,_,_,_,_,true,rfl,rfl,V0j hp,T.list_list,_,rfl,Y5 ?_⟩
     refine⟨_,rfl,p,rfl,⟨_,SqL.of hp⟩,A9m (xs:=zs.map V.str) (fun i σ H'=>H'=H/\∃v,σ=[some (.ref p),v]) ⟨rfl,none,rfl⟩ ?_ ?_ ?_⟩
     . rintro i σ H' _ ⟨rfl,_⟩
       exact SqL.of hp
     . rintro i x σ H' hi ⟨rfl,v,rfl⟩
       obtain⟨z,hzm,rfl⟩:=List.mem_map.mp (List.mem_of_getElem? hi)
       refine⟨_,rfl,_,_,_,_,true,rfl,rfl,U2e _,T.str_str,_,rfl,Y5 ?_⟩
       refine⟨_,rfl,aS,J1h,rfl,.inr (SG.sq _),rfl,A0m _,_,rfl,?_⟩
       have e:inV (.str z) J1h=true:=by
         show inV (.str z) (sigS.map V.str)=true
         rw[A3c]
         simpa using hz z hzm
       rw[e]
       exact Y5 ⟨rfl,_,rfl⟩
     . rintro σ H' ⟨rfl,v,rfl⟩
       exact k
   . exact⟨_,rfl,_,_,_,_,false,rfl,rfl,ty,kk,_,rfl,Z1 ⟨z1,k⟩⟩
   . refine ⟨_,rfl,_,_,_,_,true,rfl,rfl,V0j hp,T.list_list,_,rfl,Y5 ?_⟩
     refine⟨_,rfl,p,rfl,⟨_,SqL.of hp⟩,A9m (xs:=zs.map V.str++x::r) (fun i σ H'=>H'=H/\i<=zs.length/\∃v,σ=[some (.ref p),v]) ⟨rfl,Nat.zero_le _,none,rfl⟩ ?_ ?_ ?_⟩
     . rintro i σ H' _ ⟨rfl,_⟩
       exact SqL.of hp
     . rintro i y σ H' hi ⟨rfl,hl,v,rfl⟩
       by_cases hlt:i<zs.length
       . rw[List.getElem?_append_left (by simpa using hlt)] at hi
         obtain⟨z,hzm,rfl⟩:=List.mem_map.mp (List.mem_of_getElem? hi)
         refine⟨_,rfl,_,_,_,_,true,rfl,rfl,U2e _,T.str_str,_,rfl,Y5 ?_⟩
         refine⟨_,rfl,aS,J1h,rfl,.inr (SG.sq _),rfl,A0m _,_,rfl,?_⟩
         have e:inV (.str z) J1h=true:=by
           show inV (.str z) (sigS.map V.str)=true
           rw[A3c]
           simpa using hz z hzm
         rw[e]
         exact Y5 ⟨rfl,by omega,_,rfl⟩
       . have e:i=zs.length:=by omega
         subst e
         rw[List.getElem?_append_right (by simp)] at hi
         simp at hi
         subst hi
         refine⟨_,rfl,_,_,_,_,b,rfl,rfl,ty,kk,_,rfl,?_⟩
         cases b with
         |false=>exact Z1 (Z1 ⟨z1,k⟩)
         | true=>
           obtain⟨z,rfl,nz⟩:=bad.resolve_left (by decide)
           refine Y5 ⟨_,rfl,aS,J1h,rfl,.inr (SG.sq _),rfl,A0m _,_,rfl,?_⟩
           have e:inV (.str z) J1h=false:=by
             show inV (.str z) (sigS.map V.str)=false
             rw[A3c]
             simpa using nz
           rw[e]
           exact Z1 ⟨z1,k⟩
     . rintro σ H' ⟨rfl,hl,_⟩
       exfalso
       rw[List.length_append,List.length_map,List.length_cons] at hl
       omega
end
noncomputable abbrev B5b:Stmt:=(top 68)
section
variable{P:Program}{w:World}{K:Frag}{mg:Str ->Option Value}{base:Heap}
noncomputable def Y6 (zs:List Str):List Str:=sigS.filter fun z=>zs.contains z
noncomputable def U1h (K:Frag):Sp:=fun vs H Q _=>∃(p:Addr) (zs:List Str),vs=[.ref p]/\SqL K H p (zs.map V.str)/\∀l H',Same H H' ->H l=none ->H' l=some (.lst ((Y6 zs).map V.str)) ->Q (.ref l) H'
theorem Y8s:FnScope ["names"] ["names"] (A3 B5b):=scK
theorem V1w{f aS:Addr}(D:Def K mg "in_order" ["names"] B5b f fd)(SG:SigK K mg aS):FnOk P w K mg base (CX1 P w) 1 f fd ["names"] (U1h K):=by
 refine FnOk.up (D.F.ok Y8s (fun vs H Q E h=>?_) (fun cdv A outer s H vs Q E hr h=>?_))
 . obtain⟨p,zs,rfl,_⟩:=h
   rfl
 . obtain⟨p,zs,rfl,hp,k⟩:=h
   refine⟨_,(A8 (B7 (V1n (N:=["name"]) (F:=["names"]) (js:=[0]) (CompScopeF.of1 ⟨rfl,by decide+kernel,by decide+kernel,by decide+kernel,by decide+kernel⟩ (by rfl) (by rfl) ⟨_,by rfl⟩ (by rfl) (by rfl)) (.inl hr.hd) rfl (Z5e (G5t SG.g)) rfl (fun C s₀ H₀ ex pn h=>A0b (i:=0) (by decide+kernel:(["name","names"]:List Str).Nodup) rfl (Or.inl rfl)) (fun C s₀ H₀ ex pn h=>(D0 (G9z (K:=K) rfl) (pv 0) (pv 1) (by rfl))) (fun C s₀ H₀ ex pn h=>(pv 0))))),?_⟩
   refine V2r (zs:=sigS) (f:=fun z=>zs.contains z) (σf:=[some (.ref p)]) SG.sq (by decide) (fun z H' Qb sm q=>?_) (fun z H' Qv q=>⟨_,rfl,q⟩) (fun D H' sm nd e=>k D H' sm nd e) rfl
   refine⟨_,rfl,_,rfl,p,_,rfl,.inl (sm.seq hp),rfl,A0m _,_,rfl,?_⟩
   show Qb (inV (.str z) (zs.map V.str)) H'
   rw[A3c]
   exact q
end
structure CtxC(K:Frag)(mg:Str ->Option Value)(CC:Addr):Prop where
 g:mg "Context"=some (.ref CC)
 cl:Cls K CC
 n_room:NoAttr K CC "room"
 n_rule:NoAttr K CC "rule"
 n_least:NoAttr K CC "least"
 n_most:NoAttr K CC "most"
 n_risen:NoAttr K CC "risen"
 n_trapped:NoAttr K CC "trapped"
noncomputable def A4m (r s l m a b:V):List (Str×V):=V6 "trapped" b (V6 "risen" a (V6 "most" m (V6 "least" l (V6 "rule" s (V6 "room" r [])))))
theorem A5j(r s l m a b:V)(n:Str):(A4m r s l m a b).lookup n=if n="trapped" then some b else if n="risen" then some a else if n="most" then some m else if n="least" then some l else if n="rule" then some s else if n="room" then some r else none:=by
 unfold A4m
 rw[G3,G3,G3,G3,G3,G3]
 rfl
theorem A3v(r s l m a b:V):(A4m r s l m a b).lookup ("room":Str)=some r:=by rw[A5j,if_neg (by decide+kernel),if_neg (by decide+kernel),if_neg (by decide+kernel),if_neg (by decide+kernel),if_neg (by decide+kernel),if_pos rfl]
theorem V2w(r s l m a b:V):(A4m r s l m a b).lookup ("rule":Str)=some s:=by rw[A5j,if_neg (by decide+kernel),if_neg (by decide+kernel),if_neg (by decide+kernel),if_neg (by decide+kernel),if_pos rfl]
theorem D2s(r s l m a b:V):(A4m r s l m a b).lookup ("least":Str)=some l:=by rw[A5j,if_neg (by decide+kernel),if_neg (by decide+kernel),if_neg (by decide+kernel),if_pos rfl]
theorem C4f(r s l m a b:V):(A4m r s l m a b).lookup ("most":Str)=some m:=by rw[A5j,if_neg (by decide+kernel),if_neg (by decide+kernel),if_pos rfl]
theorem D1x(r s l m a b:V):(A4m r s l m a b).lookup ("risen":Str)=some a:=by rw[A5j,if_neg (by decide+kernel),if_pos rfl]
theorem G5n(r s l m a b:V):(A4m r s l m a b).lookup ("trapped":Str)=some b:=by rw[A5j,if_pos rfl]
theorem C3q(r s l m a b:V):(A4m r s l m a b).lookup ("way":Str)=none:=by rw[A5j,if_neg (by decide+kernel),if_neg (by decide+kernel),if_neg (by decide+kernel),if_neg (by decide+kernel),if_neg (by decide+kernel),if_neg (by decide+kernel)]
theorem A5k(r s l m a b:V):(A4m r s l m a b).lookup ("lowest":Str)=none:=by rw[A5j,if_neg (by decide+kernel),if_neg (by decide+kernel),if_neg (by decide+kernel),if_neg (by decide+kernel),if_neg (by decide+kernel),if_neg (by decide+kernel)]
theorem A3a(r s l m a b:V):(A4m r s l m a b).lookup ("flags":Str)=none:=by rw[A5j,if_neg (by decide+kernel),if_neg (by decide+kernel),if_neg (by decide+kernel),if_neg (by decide+kernel),if_neg (by decide+kernel),if_neg (by decide+kernel)]
theorem A1s(r s l m a b:V):(A4m r s l m a b).lookup ("raised":Str)=none:=by rw[A5j,if_neg (by decide+kernel),if_neg (by decide+kernel),if_neg (by decide+kernel),if_neg (by decide+kernel),if_neg (by decide+kernel),if_neg (by decide+kernel)]
structure CtxAt(CC:Addr)(H:Hp)(c:Addr)(r:Int)(y:Wy)(l m:Int)(a b:Addr)(xs ys:List V):Prop where
 ins:∃dx,H c=some (.ins CC dx (A4m (.int r) (.str y.name) (.int l) (.int m) (.ref a) (.ref b)))
 ha:H a=some (.lst xs)
 hb:H b=some (.lst ys)
theorem CtxAt.same{CC:Addr}{H H':Hp}{c:Addr}{r:Int}{y:Wy}{l m:Int}{a b:Addr}{xs ys:List V}(h:CtxAt CC H c r y l m a b xs ys)(e:Same H H'):CtxAt CC H' c r y l m a b xs ys:=by
 obtain⟨⟨dx,z⟩,z1,z2⟩:=h
 exact⟨⟨dx,e _ _ z⟩,e _ _ z1,e _ _ z2⟩
section
variable{P:Program}{w:World}{K:Frag}{mg:Str ->Option Value}{base:Heap}
noncomputable abbrev Y8:Stmt:=(G7 (top 65) 0)
noncomputable abbrev B3r:Stmt:=(G7 (top 65) 1)
noncomputable abbrev B3v:Stmt:=(G7 (top 65) 2)
noncomputable abbrev A3p:Stmt:=(G7 (top 65) 3)
noncomputable def J0e (l:Int) (v:V):Prop:=(v= .non/\l= -60)\/(v= .int l/\ -60<=l/\l<=0)
noncomputable def Z5u (K:Frag) (S:Hp ->Prop) (v1 v2 v3 v4:V):Prop:=(∀H',S H' ->C8e K H' 1 24 v1)\/(A5z 1 24 v1/\((∀H',S H' ->Z3w K H' v2)\/((∃y:Wy,v2= .str y.name)/\((v3≠ .non/\∀H',S H' ->C8e K H' (-60) 0 v3)\/((∃l,J0e l v3)/\∀H',S H' ->C8e K H' 0 60 v4)))))
theorem Exc.none{p a:Addr}{H H':Hp}{o:HO}(x:Exc p H H')(hp:H' p=some o)(n:H' a=none):H a=none:=by
 cases q:H a with
 |none=>rfl
 | some u=>
   have:=x a u q (fun e=>by rw[e,hp] at n;cases n)
   rw[n] at this
   cases this
noncomputable def B8m (K:Frag) (CC CB:Addr):Sp:=fun vs H Q E=>∃p dx v1 v2 v3 v4,vs=[.ref p,v1,v2,v3,v4]/\H p=some (.ins CC dx [])/\
 ((∃r y l m,v1= .int r/\1<=r/\r<=24/\v2= .str (Wy.name y)/\J0e l v3/\v4= .int m/\0<=m/\m<=60/\∀a b H',Exc p H H' ->H a=none ->H b=none ->CtxAt CC H' p r y l m a b [] [] ->Q .non H')\/
  (Z5u K (Exc p H) v1 v2 v3 v4/\∀H',Exc p H H' ->E (.ref CB) none H'))
theorem U5z:FnScope ["self","room","way","least","most"] ["self","room","way","least","most"] (A3 Y8):=scK
theorem V0f:B6s 1 24:=by unfold B6s;decide+kernel
theorem J0k:B6s (-60) 0:=by unfold B6s;decide+kernel
theorem V1z:B6s 0 60:=by unfold B6s;decide+kernel
theorem J1d{f fB fW CC CB CW:Addr}{dV:Value}{cw:Wy ->Addr}{fd fdB fdW:FuncData}(F:FunD K "__init__" "Context.__init__" Y8 dV f fd)(dA:Def K mg "bounded" ["thing","least","most"] A3y fB fdB)(dC:Def K mg "way_of" ["name"] A9r fW fdW)
   (dB:FnOk P w K mg base (CX1 P w) 2 fB fdB ["thing","least","most"] (D1z K CB)) (dD:FnOk P w K mg base (CX1 P w) 1 fW fdW ["name"] (D3y K CB cw)) (C:CtxC K mg CC)
   (W:∀y:Wy,WayC K mg y.cls (cw y) CW) (N:∀y:Wy,WayN P w K mg base (cw y) y.name):FnOk P w K mg base (CX1 P w) 3 f fd ["self","room","way","least","most"] (B8m K CC CB):=by
 refine F.okE U5z (fun vs H Q E h=>?_) (fun X cdv A outer s H vs Q E hX hr hx h=>?_)
 . obtain⟨p,dx,v1,v2,v3,v4,rfl,_⟩:=h
   rfl
 . subst hX
   obtain⟨p,dx,v1,v2,v3,v4,rfl,hp,h⟩:=h
   obtain⟨y,hy⟩:∃y:Wy,∀z:Wy,v2= .str z.name ->z=y:=by
     by_cases q:∃z:Wy,v2= .str z.name
     . obtain⟨z,rfl⟩:=q
       exact⟨z,fun u e=>Wy.inj (V.str.inj e.symm)⟩
     . exact⟨.down,fun z e=>absurd ⟨z,e⟩ q⟩
   obtain⟨fN,fdN,mN,gN,bN⟩:=N y
   refine⟨_,(A6 (A0r (pv 0) (C6 dA dB hr hx (A1 (pv 1) (A1 A7 (A1 A7 A5)))) rfl)
     (A6 (A0r (pv 0) (A1j (C6 dC dD hr hx (A1 (pv 2) A5)) (W y).cl mN gN hr bN .nil hx) rfl)
     (A6 (D6 (A0r (pv 0) (A0a (D0 Z5j (pv 3) V3a (C8 _)) (D2v B7z A7) (C6 dA dB hr hx (A1 (pv 3) (A1 (D2v B7z A7) (A1 A7 A5))))) rfl))
     (A6 (A0r (pv 0) (C6 dA dB hr hx (A1 (pv 4) (A1 A7 (A1 A7 A5)))) rfl)
     (A6 (A0r (pv 0) (U1 A5) rfl)
     (A8 (A0r (pv 0) (U1 A5) rfl))))))),?_⟩
   have lz:∀(fs:List (Str×V)) (f:Str) (v:V) (n:Nat),fs.length<=n ->(V6 f v fs).length<=n+1:=fun fs f v n h=>Nat.le_trans (A2d f v fs) (Nat.succ_le_succ h)
   have q0:(([]:List (Str×V))).length<=0:=Nat.le_refl _
   have z0:0<=sizeLine:=Nat.zero_le _
   rcases h with⟨r,y',l,m,rfl,r1,r2,rfl,hl,rfl,m1,m2,k⟩|⟨bad,k⟩
   . obtain rfl:=hy _ rfl
     refine⟨_,rfl,_,_,_,rfl,V0f,.inl ⟨⟨r,rfl,r1,r2⟩,?_⟩⟩
     refine⟨_,rfl,p,CC,dx,[],rfl,hp,C.cl,C.n_room,by show 0<1000;decide,?_⟩
     refine⟨_,rfl,_,rfl,.inl ⟨_,rfl,fun q dq H2 nq s2 eq=>⟨q,dq,[],rfl,eq,rfl,_,rfl,?_⟩⟩⟩
     have hp2:=s2 _ _ (B5 (H:=H) (a:=p) (o:= .ins CC dx (V6 "room" (.int r) [])))
     have x2:Exc p H H2:=(Exc.upd (H:=H) (o:= .ins CC dx (V6 "room" (.int r) []))).trans (.of s2)
     refine⟨_,rfl,p,CC,dx,_,rfl,hp2,C.cl,C.n_rule,Nat.lt_of_le_of_lt (lz _ _ _ 0 q0) (by decide),?_⟩
     refine⟨fun σ' H'=>σ'=[some (.ref p),some (.int r),some (.str y'.name),some v3,some (.int m)]/\Exc p H H'/\H' p=some (.ins CC dx (V6 "least" (.int l) (V6 "rule" (.str y'.name) (V6 "room" (.int r) [])))),?_,?_⟩
     . refine⟨_,rfl,rfl,_,rfl,?_⟩
       rcases hl with⟨rfl,rfl⟩|⟨rfl,l1,l2⟩
       . refine C4e rfl ⟨_,rfl,?_⟩
         exact⟨_,rfl,p,CC,dx,_,rfl,B5,C.cl,C.n_least,Nat.lt_of_le_of_lt (lz _ _ _ 1 (lz _ _ _ 0 q0)) (by decide),rfl,(x2.trans Exc.upd).trans Exc.upd,B5⟩
       . refine C3x (by intro z;cases z) ⟨_,rfl,_,rfl,_,_,_,rfl,J0k,.inl ⟨⟨l,rfl,l1,l2⟩,?_⟩⟩
         exact⟨_,rfl,p,CC,dx,_,rfl,B5,C.cl,C.n_least,Nat.lt_of_le_of_lt (lz _ _ _ 1 (lz _ _ _ 0 q0)) (by decide),rfl,(x2.trans Exc.upd).trans Exc.upd,B5⟩
     rintro σ' H4 ⟨rfl,x4,hp4⟩
     refine⟨_,rfl,_,_,_,rfl,V1z,.inl ⟨⟨m,rfl,m1,m2⟩,?_⟩⟩
     refine⟨_,rfl,p,CC,dx,_,rfl,hp4,C.cl,C.n_most,Nat.lt_of_le_of_lt (lz _ _ _ 2 (lz _ _ _ 1 (lz _ _ _ 0 q0))) (by decide),?_⟩
     refine⟨z0,fun a na=>?_⟩
     refine⟨_,rfl,p,CC,dx,_,rfl,Same.upd na _ _ B5,C.cl,C.n_risen,Nat.lt_of_le_of_lt (lz _ _ _ 3 (lz _ _ _ 2 (lz _ _ _ 1 (lz _ _ _ 0 q0)))) (by decide),?_⟩
     refine⟨z0,fun b nb=>?_⟩
     refine⟨_,rfl,p,CC,dx,_,rfl,Same.upd nb _ _ B5,C.cl,C.n_trapped,Nat.lt_of_le_of_lt (lz _ _ _ 4 (lz _ _ _ 3 (lz _ _ _ 2 (lz _ _ _ 1 (lz _ _ _ 0 q0))))) (by decide),?_⟩
     have x5:=x4.trans (Exc.upd (H:=H4) (o:= .ins CC dx (V6 "most" (.int m) (V6 "least" (.int l) (V6 "rule" (.str y'.name) (V6 "room" (.int r) []))))))
     have nap:a≠p:=fun e=>by rw[e,B5] at na;cases na
     have nbp:b≠p:=fun e=>by rw[e,B5] at nb;cases nb
     have x6:=(x5.trans (.of (Same.upd (o:= .lst []) na))).trans (Exc.upd (o:= .ins CC dx (V6 "risen" (.ref a) (V6 "most" (.int m) (V6 "least" (.int l) (V6 "rule" (.str y'.name) (V6 "room" (.int r) [])))))))
     have x7:=(x6.trans (.of (Same.upd (o:= .lst []) nb))).trans (Exc.upd (o:= .ins CC dx (A4m (.int r) (.str y'.name) (.int l) (.int m) (.ref a) (.ref b))))
     refine k a b _ x7 (x5.none B5 na) (x6.none B5 nb) ⟨⟨dx,B5⟩,?_,?_⟩
     . rw[D4 nap]
       refine Same.upd nb _ _ ?_
       rw[D4 nap]
       exact B5
     . rw[D4 nbp]
       exact B5
   . rcases bad with b1|⟨⟨r,rfl,r1,r2⟩,bad⟩
     . exact⟨_,rfl,_,_,_,rfl,V0f,.inr ⟨b1 _ (Exc.refl p H),k _ (Exc.refl p H)⟩⟩
     refine⟨_,rfl,_,_,_,rfl,V0f,.inl ⟨⟨r,rfl,r1,r2⟩,?_⟩⟩
     refine⟨_,rfl,p,CC,dx,[],rfl,hp,C.cl,C.n_room,by show 0<1000;decide,?_⟩
     have x1:Exc p H (upd H p (.ins CC dx (V6 "room" (.int r) []))):=Exc.upd
     rcases bad with b2|⟨⟨y',rfl⟩,bad⟩
     . exact⟨_,rfl,_,rfl,.inr ⟨b2 _ x1,k _ x1⟩⟩
     obtain rfl:=hy _ rfl
     refine⟨_,rfl,_,rfl,.inl ⟨_,rfl,fun q dq H2 nq s2 eq=>⟨q,dq,[],rfl,eq,rfl,_,rfl,?_⟩⟩⟩
     have hp2:=s2 _ _ (B5 (H:=H) (a:=p) (o:= .ins CC dx (V6 "room" (.int r) [])))
     have x2:Exc p H H2:=x1.trans (.of s2)
     refine⟨_,rfl,p,CC,dx,_,rfl,hp2,C.cl,C.n_rule,Nat.lt_of_le_of_lt (lz _ _ _ 0 q0) (by decide),?_⟩
     rcases bad with⟨n3,b3⟩|⟨⟨l,hl⟩,b4⟩
     . refine⟨fun _ _=>False,?_,fun _ _ z=>z.elim⟩
       refine⟨_,rfl,rfl,_,rfl,C3x n3 ?_⟩
       exact⟨_,rfl,_,rfl,_,_,_,rfl,J0k,.inr ⟨b3 _ (x2.trans Exc.upd),k _ (x2.trans Exc.upd)⟩⟩
     refine⟨fun σ' H'=>σ'=[some (.ref p),some (.int r),some (.str y'.name),some v3,some v4]/\Exc p H H',?_,?_⟩
     . refine⟨_,rfl,rfl,_,rfl,?_⟩
       rcases hl with⟨rfl,rfl⟩|⟨rfl,l1,l2⟩
       . refine C4e rfl ⟨_,rfl,?_⟩
         exact⟨_,rfl,p,CC,dx,_,rfl,B5,C.cl,C.n_least,Nat.lt_of_le_of_lt (lz _ _ _ 1 (lz _ _ _ 0 q0)) (by decide),rfl,(x2.trans Exc.upd).trans Exc.upd⟩
       . refine C3x (by intro z;cases z) ⟨_,rfl,_,rfl,_,_,_,rfl,J0k,.inl ⟨⟨l,rfl,l1,l2⟩,?_⟩⟩
         exact⟨_,rfl,p,CC,dx,_,rfl,B5,C.cl,C.n_least,Nat.lt_of_le_of_lt (lz _ _ _ 1 (lz _ _ _ 0 q0)) (by decide),rfl,(x2.trans Exc.upd).trans Exc.upd⟩
     rintro σ' H4 ⟨rfl,x4⟩
     exact⟨_,rfl,_,_,_,rfl,V1z,.inr ⟨b4 _ x4,k _ x4⟩⟩
end
section
variable{P:Program}{w:World}{K:Frag}{mg:Str ->Option Value}{base:Heap}
noncomputable def C3j (CC:Addr) (cw:Wy ->Addr):Sp:=fun vs H Q _=>∃c r y l m a b xs ys,vs=[.ref c]/\CtxAt CC H c r y l m a b xs ys/\∀p dx H',H p=none ->Same H H' ->H' p=some (.ins (cw y) dx []) ->Q (.ref p) H'
theorem V2f:FnScope ["self"] ["self"] (A3 B3r):=scK
theorem U5n{f fW CC CB:Addr}{cw:Wy ->Addr}{fd fdW:FuncData}(F:Fun K "way" "Context.way" B3r f fd)(dA:Def K mg "way_of" ["name"] A9r fW fdW)(dB:FnOk P w K mg base (CX1 P w) 1 fW fdW ["name"] (D3y K CB cw))(C:CtxC K mg CC):
   FnOk P w K mg base (CX1 P w) 2 f fd ["self"] (C3j CC cw):=by
 refine F.okE V2f (fun vs H Q E h=>?_) (fun X cdv A outer s H vs Q E hX hr hx h=>?_)
 . obtain⟨c,r,y,l,m,a,b,xs,ys,rfl,_⟩:=h
   rfl
 . subst hX
   obtain⟨c,r,y,l,m,a,b,xs,ys,rfl,⟨⟨dx,e⟩,_,_⟩,k⟩:=h
   refine⟨_,(A8 (B7 (C6 dA dB hr hx (A1 (D5 (pv 0) rfl) A5)))),?_⟩
   exact⟨_,rfl,c,CC,dx,_,_,rfl,e,C.cl,C.n_rule,V2w _ _ _ _ _ _,_,rfl,.inl ⟨y,rfl,k⟩⟩
noncomputable def C3s (CC:Addr):Sp:=fun vs H Q _=>∃c r y l m a b xs ys,vs=[.ref c]/\CtxAt CC H c r y l m a b xs ys/\Q (.int (l-r+1)) H
theorem V0b:FnScope ["self"] ["self"] (A3 B3v):=scK
theorem U4q{f CC:Addr}(F:Fun K "lowest" "Context.lowest" B3v f fd)(C:CtxC K mg CC):FnOk P w K mg base (CX1 P w) 1 f fd ["self"] (C3s CC):=by
 refine FnOk.up (F.ok V0b (fun vs H Q E h=>?_) (fun cdv A outer s H vs Q E hr h=>?_))
 . obtain⟨c,r,y,l,m,a,b,xs,ys,rfl,_⟩:=h
   rfl
 . obtain⟨c,r,y,l,m,a,b,xs,ys,rfl,⟨⟨dx,e⟩,_,_⟩,k⟩:=h
   refine⟨_,(A8 (B7 (C7 Y3 (C7 V1 (D5 (pv 0) rfl) (D5 (pv 0) rfl)) A7))),?_⟩
   exact⟨_,rfl,c,CC,dx,_,_,rfl,e,C.cl,C.n_least,D2s _ _ _ _ _ _,_,rfl,c,CC,dx,_,_,rfl,e,C.cl,C.n_room,A3v _ _ _ _ _ _,_,_,rfl,rfl,_,_,rfl,rfl,k⟩
noncomputable def A6p (CC:Addr):Sp:=fun vs H Q _=>∃c r y l m a b xs ys,vs=[.ref c]/\CtxAt CC H c r y l m a b xs ys/\∀p,H p=none ->Q (.ref p) (upd H p (.lst xs))
theorem G9t:FnScope ["self"] ["self"] (A3 A3p):=scK
theorem G6m{f CC:Addr}(F:Fun K "flags" "Context.flags" A3p f fd)(C:CtxC K mg CC)(O:Own mg):FnOk P w K mg base (CX1 P w) 1 f fd ["self"] (A6p CC):=by
 refine FnOk.up (F.ok G9t (fun vs H Q E h=>?_) (fun cdv A outer s H vs Q E hr h=>?_))
 . obtain⟨c,r,y,l,m,a,b,xs,ys,rfl,_⟩:=h
   rfl
 . obtain⟨c,r,y,l,m,a,b,xs,ys,rfl,⟨⟨dx,e⟩,ha,_⟩,k⟩:=h
   refine⟨_,(A8 (B7 (A5y D5e (by rfl) O.list_ boot_list (A1 (D5 (pv 0) rfl) A5)))),?_⟩
   exact⟨_,rfl,c,CC,dx,_,_,rfl,e,C.cl,C.n_risen,D1x _ _ _ _ _ _,a,xs,rfl,.inl (SqL.of ha),k⟩
structure MakeC(P:Program)(w:World)(K:Frag)(mg:Str ->Option Value)(base:Heap)(CC CB fI:Addr)(fdI:FuncData):Prop where
 m:Mk K CC fI
 g:FnOk P w K mg base (CX1 P w) 3 fI fdI ["self","room","way","least","most"] (B8m K CC CB)
theorem Y6z{C x dx:Addr}{H H':Hp}(n1:H x=none)(n2:H dx=none)(ne:dx≠x)(e:Exc x (upd (upd H dx (.own x)) x (.ins C dx [])) H'):Same H H':=fun b o h=>
 e b o (by rw[D4 (G6 h n1),D4 (G6 h n2)];exact h) (G6 h n1)
theorem A0az{CC CB x dx:Addr}{H:Hp}{Q:VK}{E:XK}{v1 v2 v3 v4:V}{r:Int}{y:Wy}{l m:Int}(n1:H x=none)(n2:H dx=none)(ne:dx≠x)(h1:v1= .int r)(r1:1<=r)(r2:r<=24)(h2:v2= .str y.name)(h3:J0e l v3)(h4:v4= .int m)(m1:0<=m)(m2:m<=60)
   (k:∀a b H',Same H H' ->CtxAt CC H' x r y l m a b [] [] ->Q .non H'):B8m K CC CB [.ref x,v1,v2,v3,v4] (upd (upd H dx (.own x)) x (.ins CC dx [])) Q E:=
 ⟨x,dx,v1,v2,v3,v4,rfl,B5,.inl ⟨r,y,l,m,h1,r1,r2,h2,h3,h4,m1,m2,fun a b H' e _ _ c=>k a b H' (Y6z n1 n2 ne e) c⟩⟩
end
noncomputable abbrev B3u:Stmt:=(G7 (top 15) 0)
section
variable{P:Program}{w:World}{K:Frag}{mg:Str ->Option Value}{base:Heap}
theorem V2e:FnScope ["self","signal"] ["self","signal"] (A3 B3u):=scK
theorem U3y{f CT fI:Addr}(F:Fun K "__init__" "Trapped.__init__" B3u f fd)(XI:ExcI K CT fI)(hn:findIn K (.ref CT) "signal"=some none):FnOk P w K mg base CX0 1 f fd ["self","signal"] (D4h CT "signal"):=by
 refine F.ok V2e (fun vs H Q E h=>?_) (fun cdv A outer s H vs Q E hr h=>?_)
 . obtain⟨e,t,v,rfl,_⟩:=h
   rfl
 . obtain⟨e,t,v,rfl,he,k⟩:=h
   refine⟨_,(A8 (Y7s XI hn (pv 0) (pv 1) rfl)),?_⟩
   exact⟨_,rfl,_,rfl,e,t,rfl,he,fun d nd ne=>k d nd ne⟩
end
noncomputable abbrev A1m:Stmt:=(G7 (top 65) 7)
theorem V2u(r s l m a b:V):(A4m r s l m a b).length=6:=rfl
theorem J1k(r s l m a b v:V):V6 "risen" v (A4m r s l m a b)=A4m r s l m v b:=rfl
section
variable{P:Program}{w:World}{K:Frag}{mg:Str ->Option Value}{base:Heap}
noncomputable def hit (ys zs:List Str):Option Str:=ys.find? fun t=>zs.contains t
noncomputable def C3t (K:Frag) (CC CB CT:Addr):Sp:=fun vs H Q E=>∃c r y l m a b,∃(xs ys:List Str) (v:V),vs=[.ref c,v]/\CtxAt CC H c r y l m a b (xs.map V.str) (ys.map V.str)/\xs.length+100<=1000/\
 ((∃ (p:Addr) (zs:List Str),v= .ref p/\H p=some (.lst (zs.map V.str))/\zs.length<=100/\(∀z∈zs,z∈sigS)/\
     (hit ys zs=none ->∀a' H',Exc c H H' ->H a'=none ->CtxAt CC H' c r y l m a' b ((Y6 (xs++zs)).map V.str) (ys.map V.str) ->Q .non H')/\
     (∀t,hit ys zs=some t ->∀a' d H',Exc c H H' ->H a'=none ->CtxAt CC H' c r y l m a' b ((Y6 (xs++zs)).map V.str) (ys.map V.str) ->H d=none ->H' d=some (.xd [("signal",.str t)]) ->E (.ref CT) (some d) H'))\/
  (V3c K H v/\E (.ref CB) none H))
theorem scRaised:FnScope ["self","names","name"] ["self","names"] (A3 A1m):=scK
theorem U3q{f f1 f2 fX CC CB CT:Addr}{fd fd1 fd2 fdX:FuncData}(F:Fun K "raised" "Context.raised" A1m f fd)(dA:Def K mg "need_signals" ["names"] B5d f1 fd1)(dB:FnOk P w K mg base (CX1 P w) 1 f1 fd1 ["names"] (U1y K CB))
   (dC:Def K mg "in_order" ["names"] B5b f2 fd2) (dD:FnOk P w K mg base (CX1 P w) 1 f2 fd2 ["names"] (U1h K)) (C:CtxC K mg CC)
   (gT:mg "Trapped"=some (.ref CT)) (XI:ExcI K CT fX) (GX:FnOk P w K mg base CX0 1 fX fdX ["self","signal"] (D4h CT "signal")) (BX:Binds K fdX ["self","signal"] []):FnOk P w K mg base (CX1 P w) 3 f fd ["self","names"] (C3t K CC CB CT):=by
 refine F.okE scRaised (fun vs H Q E h=>?_) (fun X cdv A outer s H vs Q E hX hr hx h=>?_)
 . obtain⟨c,r,y,l,m,a,b,xs,ys,v,rfl,_⟩:=h
   rfl
 . subst hX
   obtain⟨c,r,y,l,m,a,b,xs,ys,v,rfl,⟨⟨dx,e⟩,ha,hb⟩,lx,h⟩:=h
   refine⟨_,(A6 (V5 (C6 dA dB hr hx (A1 (pv 1) A5)))
     (A6 (A0r (pv 0) (C6 dC dD hr hx (A1 (C7 D4r (D5 (pv 0) rfl) (pv 1)) A5)) rfl)
     (A8 (D4m PassesOwn.leaving rfl (C2z (D5 (pv 0) rfl)) (A0b (i:=2) scRaised.nd rfl (Or.inl rfl)) (A8 (G0 (D0 A5x (pv 2) (pv 1) (by rfl)) (A8 (U3z gT XI GX BX hr hx (A1 (pv 2) A5))) D3)))))),?_⟩
   rcases h with⟨p,zs,rfl,hp,lz,hz,k1,k2⟩|⟨bad,k⟩
   . refine⟨_,rfl,_,rfl,.inl ⟨p,zs,rfl,hp,hz,?_⟩⟩
     refine⟨_,rfl,c,CC,dx,_,_,rfl,e,C.cl,C.n_risen,D1x _ _ _ _ _ _,_,rfl,a,p,_,_,rfl,rfl,ha,hp,D8 (by rw[List.length_map,List.length_map];omega),fun q nq=>?_⟩
     have u1:=Same.upd (o:= .lst (xs.map V.str++zs.map V.str)) nq
     refine⟨q,xs++zs,rfl,SqL.of (by rw[B5,List.map_append]),fun a' H1 s1 n1 e1=>?_⟩
     have s2:=u1.trans s1
     refine⟨_,rfl,c,CC,dx,_,rfl,s2 _ _ e,C.cl,C.n_risen,by rw[V2u];decide,?_⟩
     rw[J1k]
     have nbc:b≠c:=U2b hb e (by intro z;cases z)
     have npc:p≠c:=U2b hp e (by intro z;cases z)
     have nac:a'≠c:=U2b e1 (s2 _ _ e) (by intro z;cases z)
     have x2:Exc c H (upd H1 c (.ins CC dx (A4m (.int r) (.str y.name) (.int l) (.int m) (.ref a') (.ref b)))):=(Exc.of s2).trans Exc.upd
     have hb2:(upd H1 c (.ins CC dx (A4m (.int r) (.str y.name) (.int l) (.int m) (.ref a') (.ref b)))) b=some (.lst (ys.map V.str)):=by rw[D4 nbc];exact s2 _ _ hb
     have hp2:(upd H1 c (.ins CC dx (A4m (.int r) (.str y.name) (.int l) (.int m) (.ref a') (.ref b)))) p=some (.lst (zs.map V.str)):=by rw[D4 npc];exact s2 _ _ hp
     have ct:CtxAt CC (upd H1 c (.ins CC dx (A4m (.int r) (.str y.name) (.int l) (.int m) (.ref a') (.ref b)))) c r y l m a' b ((Y6 (xs++zs)).map V.str) (ys.map V.str):=⟨⟨dx,B5⟩,by rw[D4 nac];exact e1,hb2⟩
     refine⟨_,rfl,c,CC,dx,_,_,rfl,B5,C.cl,C.n_trapped,G5n _ _ _ _ _ _,b,rfl,⟨_,SqL.of hb2⟩,?_⟩
     generalize upd H1 c (.ins CC dx (A4m (.int r) (.str y.name) (.int l) (.int m) (.ref a') (.ref b)))=H3 at x2 hb2 hp2 ct ⊢
     refine A9m (xs:=ys.map V.str) (fun i σ H'=>H'=H3/\(∀t∈ys.take i,zs.contains t=false)/\∃v,σ=[some (.ref c),some (.ref p),v]) ⟨rfl,by simp,none,rfl⟩ ?_ ?_ ?_
     . rintro i σ H' _ ⟨rfl,_⟩
       exact SqL.of hb2
     . rintro i x σ H' hi ⟨rfl,ht,v,rfl⟩
       rw[List.getElem?_map] at hi
       obtain⟨t,hti,rfl⟩:=Option.map_eq_some_iff.mp hi
       refine⟨_,rfl,_,rfl,p,_,rfl,.inl (SqL.of hp2),rfl,A0m _,_,rfl,?_⟩
       have hlt:i<ys.length:=(List.getElem?_eq_some_iff.mp hti).1
       have et:ys.take (i+1)=ys.take i++ [t]:=by
         rw[List.take_succ_eq_append_getElem hlt,(List.getElem?_eq_some_iff.mp hti).2]
       cases hc:zs.contains t with
       | false=>
         rw[show(if false=true then !inV (V.str t) (zs.map V.str) else inV (V.str t) (zs.map V.str))=false by rw[if_neg Bool.false_ne_true,A3c,hc]]
         refine Y5 ⟨rfl,fun t' h'=>?_,_,rfl⟩
         rw[et] at h'
         rcases List.mem_append.mp h' with h'|h'
         . exact ht t' h'
         . rw[List.mem_singleton.mp h'];exact hc
       | true=>
         rw[show(if false=true then !inV (V.str t) (zs.map V.str) else inV (V.str t) (zs.map V.str))=true by rw[if_neg Bool.false_ne_true,A3c,hc]]
         obtain⟨dx',hc3⟩:=ct.ins
         refine Z1 ⟨_,rfl,_,rfl,fun d H4 s4 nd e4=>?_⟩
         refine k2 t ?_ a' d H4 (x2.trans (.of s4)) ((u1.free n1)) (ct.same s4) (x2.none hc3 nd) e4
         unfold hit
         rw[List.find?_eq_some_iff_append]
         refine⟨hc,ys.take i,ys.drop (i+1),?_,fun t' h'=>by rw[ht t' h'];rfl⟩
         have:=List.take_append_drop (i+1) ys
         rw[et] at this
         rw[List.append_assoc] at this
         exact this.symm
     . rintro σ H' ⟨rfl,ht,v,rfl⟩
       refine k1 ?_ a' _ x2 (u1.free n1) ct
       unfold hit
       rw[List.find?_eq_none]
       rw[List.length_map,List.take_length] at ht
       intro t hm
       rw[ht t hm]
       exact Bool.false_ne_true
   . exact⟨_,rfl,_,rfl,.inr ⟨bad,k⟩⟩
end
noncomputable def Wy.goes (y:Wy) (s last part:Int):Bool:=match y with
 | .down=>false
 | .up=>true
 | .floor=>decide (V.int s=V.int 1)
 | .ceiling=>decide (V.int s=V.int 0)
 | .halfUp=>decide (part>=2)
 | .halfDown=>decide (V.int part=V.int 3)
 | .halfEven=>if decide (V.int part=V.int 3)=true then true else if decide (V.int part=V.int 2)=true then decide (V.int (last % 2)=V.int 1) else false
 | .fiveUp=>inV (.int last) [.int 0,.int 5]
noncomputable def Wy.toEnd (y:Wy) (s:Int):Bool:=match y with
 | .down=>false
 | .up=>true
 | .floor=>decide (V.int s=V.int 1)
 | .ceiling=>decide (V.int s=V.int 0)
 | .halfUp=>true
 | .halfDown=>true
 | .halfEven=>true
 | .fiveUp=>false
section
variable{P:Program}{w:World}{K:Frag}{mg:Str ->Option Value}{base:Heap}
noncomputable def A6q (y:Wy):Sp:=fun vs H Q _=>∃p s l t,vs=[.ref p,.int s,.int l,.int t]/\∀H',Same H H' ->Q (.bl (y.goes s l t)) H'
noncomputable def A2z (y:Wy):Sp:=fun vs H Q _=>∃p s,vs=[.ref p,.int s]/\∀H',Same H H' ->Q (.bl (y.toEnd s)) H'
noncomputable def Z9y (P:Program) (w:World) (K:Frag) (mg:Str ->Option Value) (base:Heap) (C:Addr) (y:Wy):Prop:=Has P w K mg base C "goes_up" 1 ["self","sign","last","part"] (A6q y)
noncomputable def WayE (P:Program) (w:World) (K:Frag) (mg:Str ->Option Value) (base:Heap) (C:Addr) (y:Wy):Prop:=Has P w K mg base C "to_end" 1 ["self","sign"] (A2z y)
noncomputable abbrev sU0:Stmt:=(G7 (top 54) 1)
theorem scU0:FnScope ["self","sign","last","part"] ["self","sign","last","part"] (A3 sU0):=scK
theorem Z9d(F:Fun K "goes_up" "Down.goes_up" sU0 f fd):FnOk P w K mg base (CX1 P w) 1 f fd ["self","sign","last","part"] (A6q .down):=by
 refine FnOk.up (F.ok scU0 (fun vs H Q E h=>?_) (fun cdv A outer s H vs Q E hr h=>?_))
 . obtain⟨p,z,l,t,rfl,_⟩:=h
   rfl
 . obtain⟨p,z,l,t,rfl,k⟩:=h
   refine⟨_,(A8 (B7 A2y)),?_⟩
   exact k H (Same.refl H)
noncomputable abbrev sT0:Stmt:=(G7 (top 54) 2)
theorem scT0:FnScope ["self","sign"] ["self","sign"] (A3 sT0):=scK
theorem Z8z(F:Fun K "to_end" "Down.to_end" sT0 f fd):FnOk P w K mg base (CX1 P w) 1 f fd ["self","sign"] (A2z .down):=by
 refine FnOk.up (F.ok scT0 (fun vs H Q E h=>?_) (fun cdv A outer s H vs Q E hr h=>?_))
 . obtain⟨p,z,rfl,_⟩:=h
   rfl
 . obtain⟨p,z,rfl,k⟩:=h
   refine⟨_,(A8 (B7 A2y)),?_⟩
   exact k H (Same.refl H)
noncomputable abbrev sU1:Stmt:=(G7 (top 55) 1)
theorem scU1:FnScope ["self","sign","last","part"] ["self","sign","last","part"] (A3 sU1):=scK
theorem A0at(F:Fun K "goes_up" "Up.goes_up" sU1 f fd):FnOk P w K mg base (CX1 P w) 1 f fd ["self","sign","last","part"] (A6q .up):=by
 refine FnOk.up (F.ok scU1 (fun vs H Q E h=>?_) (fun cdv A outer s H vs Q E hr h=>?_))
 . obtain⟨p,z,l,t,rfl,_⟩:=h
   rfl
 . obtain⟨p,z,l,t,rfl,k⟩:=h
   refine⟨_,(A8 (B7 A2y)),?_⟩
   exact k H (Same.refl H)
noncomputable abbrev sT1:Stmt:=(G7 (top 55) 2)
theorem scT1:FnScope ["self","sign"] ["self","sign"] (A3 sT1):=scK
theorem Z9c(F:Fun K "to_end" "Up.to_end" sT1 f fd):FnOk P w K mg base (CX1 P w) 1 f fd ["self","sign"] (A2z .up):=by
 refine FnOk.up (F.ok scT1 (fun vs H Q E h=>?_) (fun cdv A outer s H vs Q E hr h=>?_))
 . obtain⟨p,z,rfl,_⟩:=h
   rfl
 . obtain⟨p,z,rfl,k⟩:=h
   refine⟨_,(A8 (B7 A2y)),?_⟩
   exact k H (Same.refl H)
noncomputable abbrev sU2:Stmt:=(G7 (top 56) 1)
theorem scU2:FnScope ["self","sign","last","part"] ["self","sign","last","part"] (A3 sU2):=scK
theorem A0an(F:Fun K "goes_up" "Floor.goes_up" sU2 f fd):FnOk P w K mg base (CX1 P w) 1 f fd ["self","sign","last","part"] (A6q .floor):=by
 refine FnOk.up (F.ok scU2 (fun vs H Q E h=>?_) (fun cdv A outer s H vs Q E hr h=>?_))
 . obtain⟨p,z,l,t,rfl,_⟩:=h
   rfl
 . obtain⟨p,z,l,t,rfl,k⟩:=h
   refine⟨_,(A8 (B7 (J0 G4 (pv 1) A7 (C8 _)))),?_⟩
   exact⟨_,rfl,rfl,k H (Same.refl H)⟩
noncomputable abbrev sT2:Stmt:=(G7 (top 56) 2)
theorem scT2:FnScope ["self","sign"] ["self","sign"] (A3 sT2):=scK
theorem A0ah(F:Fun K "to_end" "Floor.to_end" sT2 f fd):FnOk P w K mg base (CX1 P w) 1 f fd ["self","sign"] (A2z .floor):=by
 refine FnOk.up (F.ok scT2 (fun vs H Q E h=>?_) (fun cdv A outer s H vs Q E hr h=>?_))
 . obtain⟨p,z,rfl,_⟩:=h
   rfl
 . obtain⟨p,z,rfl,k⟩:=h
   refine⟨_,(A8 (B7 (J0 G4 (pv 1) A7 (C8 _)))),?_⟩
   exact⟨_,rfl,rfl,k H (Same.refl H)⟩
noncomputable abbrev sU3:Stmt:=(G7 (top 57) 1)
theorem scU3:FnScope ["self","sign","last","part"] ["self","sign","last","part"] (A3 sU3):=scK
theorem A0av(F:Fun K "goes_up" "Ceiling.goes_up" sU3 f fd):FnOk P w K mg base (CX1 P w) 1 f fd ["self","sign","last","part"] (A6q .ceiling):=by
 refine FnOk.up (F.ok scU3 (fun vs H Q E h=>?_) (fun cdv A outer s H vs Q E hr h=>?_))
 . obtain⟨p,z,l,t,rfl,_⟩:=h
   rfl
 . obtain⟨p,z,l,t,rfl,k⟩:=h
   refine⟨_,(A8 (B7 (J0 G4 (pv 1) A7 (C8 _)))),?_⟩
   exact⟨_,rfl,rfl,k H (Same.refl H)⟩
noncomputable abbrev sT3:Stmt:=(G7 (top 57) 2)
theorem scT3:FnScope ["self","sign"] ["self","sign"] (A3 sT3):=scK
theorem Z9b(F:Fun K "to_end" "Ceiling.to_end" sT3 f fd):FnOk P w K mg base (CX1 P w) 1 f fd ["self","sign"] (A2z .ceiling):=by
 refine FnOk.up (F.ok scT3 (fun vs H Q E h=>?_) (fun cdv A outer s H vs Q E hr h=>?_))
 . obtain⟨p,z,rfl,_⟩:=h
   rfl
 . obtain⟨p,z,rfl,k⟩:=h
   refine⟨_,(A8 (B7 (J0 G4 (pv 1) A7 (C8 _)))),?_⟩
   exact⟨_,rfl,rfl,k H (Same.refl H)⟩
noncomputable abbrev sU4:Stmt:=(G7 (top 58) 1)
theorem scU4:FnScope ["self","sign","last","part"] ["self","sign","last","part"] (A3 sU4):=scK
theorem Z9s(F:Fun K "goes_up" "HalfUp.goes_up" sU4 f fd):FnOk P w K mg base (CX1 P w) 1 f fd ["self","sign","last","part"] (A6q .halfUp):=by
 refine FnOk.up (F.ok scU4 (fun vs H Q E h=>?_) (fun cdv A outer s H vs Q E hr h=>?_))
 . obtain⟨p,z,l,t,rfl,_⟩:=h
   rfl
 . obtain⟨p,z,l,t,rfl,k⟩:=h
   refine⟨_,(A8 (B7 (J0 C3h (pv 3) A7 (C8 _)))),?_⟩
   exact⟨_,rfl,_,_,rfl,rfl,k H (Same.refl H)⟩
noncomputable abbrev sT4:Stmt:=(G7 (top 58) 2)
theorem scT4:FnScope ["self","sign"] ["self","sign"] (A3 sT4):=scK
theorem Z9j(F:Fun K "to_end" "HalfUp.to_end" sT4 f fd):FnOk P w K mg base (CX1 P w) 1 f fd ["self","sign"] (A2z .halfUp):=by
 refine FnOk.up (F.ok scT4 (fun vs H Q E h=>?_) (fun cdv A outer s H vs Q E hr h=>?_))
 . obtain⟨p,z,rfl,_⟩:=h
   rfl
 . obtain⟨p,z,rfl,k⟩:=h
   refine⟨_,(A8 (B7 A2y)),?_⟩
   exact k H (Same.refl H)
noncomputable abbrev sU5:Stmt:=(G7 (top 59) 1)
theorem scU5:FnScope ["self","sign","last","part"] ["self","sign","last","part"] (A3 sU5):=scK
theorem Z9k(F:Fun K "goes_up" "HalfDown.goes_up" sU5 f fd):FnOk P w K mg base (CX1 P w) 1 f fd ["self","sign","last","part"] (A6q .halfDown):=by
 refine FnOk.up (F.ok scU5 (fun vs H Q E h=>?_) (fun cdv A outer s H vs Q E hr h=>?_))
 . obtain⟨p,z,l,t,rfl,_⟩:=h
   rfl
 . obtain⟨p,z,l,t,rfl,k⟩:=h
   refine⟨_,(A8 (B7 (J0 G4 (pv 3) A7 (C8 _)))),?_⟩
   exact⟨_,rfl,rfl,k H (Same.refl H)⟩
noncomputable abbrev sT5:Stmt:=(G7 (top 59) 2)
theorem scT5:FnScope ["self","sign"] ["self","sign"] (A3 sT5):=scK
theorem Z9e(F:Fun K "to_end" "HalfDown.to_end" sT5 f fd):FnOk P w K mg base (CX1 P w) 1 f fd ["self","sign"] (A2z .halfDown):=by
 refine FnOk.up (F.ok scT5 (fun vs H Q E h=>?_) (fun cdv A outer s H vs Q E hr h=>?_))
 . obtain⟨p,z,rfl,_⟩:=h
   rfl
 . obtain⟨p,z,rfl,k⟩:=h
   refine⟨_,(A8 (B7 A2y)),?_⟩
   exact k H (Same.refl H)
noncomputable abbrev sU6:Stmt:=(G7 (top 60) 1)
theorem scU6:FnScope ["self","sign","last","part"] ["self","sign","last","part"] (A3 sU6):=scK
theorem Z9m(F:Fun K "goes_up" "HalfEven.goes_up" sU6 f fd):FnOk P w K mg base (CX1 P w) 1 f fd ["self","sign","last","part"] (A6q .halfEven):=by
 refine FnOk.up (F.ok scU6 (fun vs H Q E h=>?_) (fun cdv A outer s H vs Q E hr h=>?_))
 . obtain⟨p,z,l,t,rfl,_⟩:=h
   rfl
 . obtain⟨p,z,l,t,rfl,k⟩:=h
   refine⟨_,(A8 (B7 (V2t (J0 G4 (pv 3) A7 (C8 _)) (A5h (A6r (J0 G4 (pv 3) A7 (C8 _)) (A5h (J0 G4 (C7 U4 (pv 2) A7) A7 (C8 _)))))))),?_⟩
   have k:=k H (Same.refl H)
   unfold Wy.goes at k
   refine⟨_,rfl,rfl,_,rfl,?_⟩
   cases e:decide (V.int t=V.int 3) with
   |true=>rw[e] at k;exact Z1 k
   | false=>
     rw[e] at k
     refine Y5 ⟨_,rfl,rfl,_,rfl,?_⟩
     cases e2:decide (V.int t=V.int 2) with
     |true=>rw[e2] at k;exact Z1 ⟨_,rfl,_,_,rfl,rfl,(by decide:(0:Int)<2),rfl,k⟩
     |false=>rw[e2] at k;exact Y5 k
noncomputable abbrev sT6:Stmt:=(G7 (top 60) 2)
theorem scT6:FnScope ["self","sign"] ["self","sign"] (A3 sT6):=scK
theorem A0bp(F:Fun K "to_end" "HalfEven.to_end" sT6 f fd):FnOk P w K mg base (CX1 P w) 1 f fd ["self","sign"] (A2z .halfEven):=by
 refine FnOk.up (F.ok scT6 (fun vs H Q E h=>?_) (fun cdv A outer s H vs Q E hr h=>?_))
 . obtain⟨p,z,rfl,_⟩:=h
   rfl
 . obtain⟨p,z,rfl,k⟩:=h
   refine⟨_,(A8 (B7 A2y)),?_⟩
   exact k H (Same.refl H)
noncomputable abbrev sU7:Stmt:=(G7 (top 61) 1)
theorem scU7:FnScope ["self","sign","last","part"] ["self","sign","last","part"] (A3 sU7):=scK
theorem A0ax(F:Fun K "goes_up" "FiveUp.goes_up" sU7 f fd):FnOk P w K mg base (CX1 P w) 1 f fd ["self","sign","last","part"] (A6q .fiveUp):=by
 refine FnOk.up (F.ok scU7 (fun vs H Q E h=>?_) (fun cdv A outer s H vs Q E hr h=>?_))
 . obtain⟨p,z,l,t,rfl,_⟩:=h
   rfl
 . obtain⟨p,z,l,t,rfl,k⟩:=h
   refine⟨_,(A8 (B7 (J0 A5x (pv 2) (V3 (A1 A7 (A1 A7 A5))) (by rfl)))),?_⟩
   exact⟨_,rfl,D8 (by decide),fun q nq=>⟨q,_,rfl,.inr (SqT.of B5),rfl,rfl,k _ (Same.upd nq)⟩⟩
noncomputable abbrev sT7:Stmt:=(G7 (top 61) 2)
theorem scT7:FnScope ["self","sign"] ["self","sign"] (A3 sT7):=scK
theorem A0be(F:Fun K "to_end" "FiveUp.to_end" sT7 f fd):FnOk P w K mg base (CX1 P w) 1 f fd ["self","sign"] (A2z .fiveUp):=by
 refine FnOk.up (F.ok scT7 (fun vs H Q E h=>?_) (fun cdv A outer s H vs Q E hr h=>?_))
 . obtain⟨p,z,rfl,_⟩:=h
   rfl
 . obtain⟨p,z,rfl,k⟩:=h
   refine⟨_,(A8 (B7 A2y)),?_⟩
   exact k H (Same.refl H)
end
noncomputable abbrev A4r:Stmt:=(top 32)
noncomputable abbrev A2c:Stmt:=(top 33)
noncomputable abbrev Z3:Stmt:=(top 34)
noncomputable abbrev A4q:Stmt:=(top 35)
noncomputable abbrev A4p:Stmt:=(top 36)
noncomputable abbrev B0b:Stmt:=(top 37)
noncomputable abbrev A9p:Stmt:=(top 38)
noncomputable abbrev A4b:Stmt:=(top 39)
noncomputable abbrev A3x:Stmt:=(top 40)
noncomputable abbrev Z5:Stmt:=(top 41)
structure Cv where
 r:Int
 y:Wy
 l:Int
 m:Int
structure Cv.Ok(c:Cv):Prop where
 r1:1<=c.r
 r2:c.r<=24
 l1: -60<=c.l
 l2:c.l<=0
 m1:0<=c.m
 m2:c.m<=60
noncomputable def A1y (ideal:Int):Nat ->Int ->Int ->Int×Int
 |0,f,p=>(f,p)
 |n+1,f,p=>if f % 10=0 then A1y ideal n (f/10) (p+1) else(f,p)
noncomputable def A1e (ideal f p:Int):Int×Int:=A1y ideal (ideal-p).toNat f p
theorem J0c{ideal f p:Int}(h:p<ideal)(z:f % 10=0):A1e ideal f p=A1e ideal (f/10) (p+1):=by
 unfold A1e
 obtain⟨n,hn⟩:∃n,(ideal-p).toNat=n+1:=⟨(ideal-p).toNat-1,by omega⟩
 rw[hn,show(ideal-(p+1)).toNat=n by omega]
 show(if f % 10=0 then A1y ideal n (f/10) (p+1) else(f,p))=_
 rw[if_pos z]
theorem J1g{ideal f p:Int}(h:¬(p<ideal/\f % 10=0)):A1e ideal f p=(f,p):=by
 unfold A1e
 by_cases q:p<ideal
 . obtain⟨n,hn⟩:∃n,(ideal-p).toNat=n+1:=⟨(ideal-p).toNat-1,by omega⟩
   rw[hn]
   show(if f % 10=0 then A1y ideal n (f/10) (p+1) else(f,p))=_
   rw[if_neg fun z=>h ⟨q,z⟩]
 . rw[show(ideal-p).toNat=0 by omega]
   rfl
noncomputable def U4c (f:Int):Int:=((Str.ofString (toString f)).length:Nat)
noncomputable def upI (y:Wy) (s wh pt:Int):Int:=if(if pt=0 then false else y.goes s (wh % 10) pt)=true then wh+1 else wh
noncomputable def G6h (r f q:Int):Int×Int:=if f=B8 r then(f/10,q+1) else(f,q)
noncomputable def A3s (c:Cv) (s wh pt q ideal:Int):Int×Int:=if pt=0 then A1e ideal wh q else G6h c.r (upI c.y s wh pt) q
noncomputable def B3s (m f p:Int):Bool:=if f=0 then false else decide (p+U4c f-1>m)
noncomputable def C4s (c:Cv) (s:Int):Nm:=if c.y.toEnd s=true then⟨.end_,s,0,0⟩ else⟨.plain,s,B8 c.r-1,c.m-c.r+1⟩
noncomputable def A4c (pt:Int) (cut:Bool):List Str:=if pt=0 then(if cut=true then ["cut"] else []) else ["off","cut"]
noncomputable def A4t (l L pt:Int):List Str:=if L>=l then [] else if pt=0 then ["faint"] else ["sunk","faint"]
noncomputable def C2x (c:Cv) (s wh pt L q ideal:Int):Nm×List Str:=
 if B3s c.m (A3s c s wh pt q ideal).1 (A3s c s wh pt q ideal).2=true then(C4s c s,["burst","off","cut"])
 else(⟨.plain,s,(A3s c s wh pt q ideal).1,(A3s c s wh pt q ideal).2⟩,A4c pt (decide ((A3s c s wh pt q ideal).2>ideal))++A4t c.l L pt)
noncomputable def A4n (a b:Int):Int:=if b>a then b else a
noncomputable def Y7 (a b:Int):Int:=if b<a then b else a
noncomputable def CtxV (CC:Addr) (H:Hp) (c:Addr) (v:Cv) (a b:Addr) (xs ys:List Str):Prop:=CtxAt CC H c v.r v.y v.l v.m a b (xs.map V.str) (ys.map V.str)
theorem CtxV.same{CC:Addr}{H H':Hp}{c:Addr}{v:Cv}{a b:Addr}{xs ys:List Str}(h:CtxV CC H c v a b xs ys)(e:Same H H'):CtxV CC H' c v a b xs ys:=CtxAt.same h e
theorem C3w{CN:Addr}{H:Hp}{Q:VK}{E:XK}{k s f p:V}(h:∀n H',H n=none ->Same H H' ->NumAt CN H' n k s f p ->Q (.ref n) H'):
   ∀x dx,H x=none ->H dx=none ->dx≠x ->D4f CN (.ref x::([k,s,f,p]++ [])) (upd (upd H dx (.own x)) x (.ins CN dx [])) (fun v H2=>v= .non/\Q (.ref x) H2) E:=by
 intro x dx nx nd ne
 refine⟨x,dx,k,s,f,p,rfl,B5,fun H' e kp=>⟨rfl,h x H' nx (fun b o z=>?_) ⟨dx,e⟩⟩⟩
 refine kp b o ?_ (G6 z nx)
 rw[D4 (G6 z nx),D4 (G6 z nd)]
 exact z
section
variable{P:Program}{w:World}{K:Frag}{mg:Str ->Option Value}{base:Heap}
structure CtxM(P:Program)(w:World)(K:Frag)(mg:Str ->Option Value)(base:Heap)(CC CB CT CW:Addr)(cw:Wy ->Addr):Prop where
 c:CtxC K mg CC
 way:Has P w K mg base CC "way" 2 ["self"] (C3j CC cw)
 low:Has P w K mg base CC "lowest" 1 ["self"] (C3s CC)
 raised:Has P w K mg base CC "raised" 3 ["self","names"] (C3t K CC CB CT)
 wc:∀y:Wy,WayC K mg y.cls (cw y) CW
 u:∀y:Wy,Z9y P w K mg base (cw y) y
 e:∀y:Wy,WayE P w K mg base (cw y) y
noncomputable def D1p (CN:Addr):Sp:=fun vs H Q _=>∃i s f p:Int,vs=[.int i,.int s,.int f,.int p]/\∀n H',H n=none ->Same H H' ->NumIs CN H' n ⟨.plain,s,(A1e i f p).1,(A1e i f p).2⟩ ->Q (.ref n) H'
theorem scNearest:FnScope ["ideal","sign","figures","power"] ["ideal","sign","figures","power"] (A3 A2c):=scK
theorem G9n{f fI CN:Addr}{fd fdI:FuncData}(D:Def K mg "nearest_to" ["ideal","sign","figures","power"] A2c f fd)(N:Num K mg CN)(M:MakeN P w K mg base CN fI fdI):FnOk P w K mg base (CX1 P w) 3 f fd ["ideal","sign","figures","power"] (D1p CN):=by
 refine FnOk.up (D.F.ok scNearest (fun vs H Q E h=>?_) (fun cdv A outer s H vs Q E hr h=>?_))
 . obtain⟨i,s,f,p,rfl,_⟩:=h
   rfl
 . obtain⟨i,sg,fg,pw,rfl,k⟩:=h
   have hx:G5 (A0f CX0 P w K mg base ["ideal","sign","figures","power"] "nearest_to" (A3 A2c) f cdv A outer s H E).nox EKF:=Y9
   refine⟨_,(A6 (C4t PassesOwn.never (PW.pt (B8j (D0 G5v (pv 3) (pv 0) (C8 _)) (B6j (D0 G4 (C7 U4 (pv 2) A7) A7 (C8 _))))) (A6 (D7 (i:=2) scNearest.nd rfl (Or.inl rfl) (C7 U6 (pv 2) A7))
     (A8 (D7 (i:=3) scNearest.nd rfl (Or.inl rfl) (C7 Y3 (pv 3) A7)))))
     (A8 (B7 (A5v M.m (FnOk.up M.g) hr N.g M.b .nil hx (A1 C9 (A1 (pv 1) (A1 (pv 2) (A1 (pv 3) A5)))))))),?_⟩
   have d10:(0:Int)<10/\(10:Int).natAbs.log2<9000:=⟨by decide,by decide+kernel⟩
   refine C3f (fun σ H2=>H2=H/\∃f p:Int,A1e i f p=A1e i fg pw/\σ=[some (.int i),some (.int sg),some (.int f),some (.int p)]) (fun σ _=>match σ with| [_,_,_,some (.int p)]=>(i-p).toNat|_=>0) ?_ ?_ ?_
   . exact⟨rfl,fg,pw,rfl,rfl⟩
   . rintro σ H2 ⟨rfl,f,p,e,rfl⟩
     have stop:¬(p<i/\f % 10=0) ->∀n H',H2 n=none ->Same H2 H' ->NumAt CN H' n (.str "plain") (.int sg) (.int f) (.int p) ->Q (.ref n) H':=fun h n H' nn sm num=>by
       refine k n H' nn sm ?_
       rw[<-e,J1g h]
       exact num
     refine⟨_,rfl,_,rfl,_,_,rfl,rfl,_,rfl,U9 (fun h1=>?_) (fun h1=>Y5 ⟨_,rfl,_,rfl,_,rfl,C3w (stop fun q=>h1 q.1)⟩)⟩
     refine⟨_,rfl,_,_,rfl,rfl,d10.1,rfl,_,rfl,U9 (fun h2=>?_) (fun h2=>⟨_,rfl,_,rfl,_,rfl,C3w (stop fun q=>h2 (congrArg V.int q.2))⟩)⟩
     have h1:p<i:=h1
     have h2:f % 10=0:=by injection h2
     refine⟨_,rfl,_,_,rfl,rfl,d10,_,rfl,_,_,rfl,rfl,⟨rfl,f/10,p+1,(J0c h1 h2).symm.trans e,rfl⟩,?_⟩
     show(i-(p+1)).toNat<(i-p).toNat
     omega
   . rintro σ H2 Q1 Q2 hQ ⟨v,e,v2,e2,a,b,e3,e4,c,e5,q⟩
     refine⟨v,e,v2,e2,a,b,e3,e4,c,e5,?_⟩
     cases c with
     |false=>exact Y5 (hQ _ _ (by simpa using q))
     | true=>
       have q:_:=q
       rw[if_pos rfl] at q ⊢
       obtain⟨v3,e6,a2,b2,e7,e8,e9,e10,e11,e12,q⟩:=q
       exact⟨v3,e6,a2,b2,e7,e8,e9,e10,e11,e12,hQ _ _ q⟩
noncomputable def C2g (CC:Addr):Sp:=fun vs H Q _=>∃c v a b xs ys p,∃s wh pt:Int,vs=[.ref c,.int s,.ref p]/\CtxV CC H c v a b xs ys/\H p=some (.tup [.int wh,.int pt])/\∀H',Same H H' ->Q (.int (upI v.y s wh pt)) H'
theorem G6n:FnScope ["context","sign","pair"] ["context","sign","pair"] (A3 Z3):=scK
theorem D4e{f CC CB CT CW:Addr}{cw:Wy ->Addr}(D:Def K mg "neighbour" ["context","sign","pair"] Z3 f fd)(C:CtxM P w K mg base CC CB CT CW cw):FnOk P w K mg base (CX1 P w) 3 f fd ["context","sign","pair"] (C2g CC):=by
 refine FnOk.up (D.F.ok G6n (fun vs H Q E h=>?_) (fun cdv A outer s H vs Q E hr h=>?_))
 . obtain⟨c,v,a,b,xs,ys,p,sg,wh,pt,rfl,_⟩:=h
   rfl
 . obtain⟨c,v,a,b,xs,ys,p,sg,wh,pt,rfl,hc,hp,k⟩:=h
   have hx:G5 (A0f CX0 P w K mg base ["context","sign","pair"] "neighbour" (A3 Z3) f cdv A outer s H E).nox EKF:=Y9
   obtain⟨fW,fdW,mW,gW,bW⟩:=C.way
   obtain⟨fU,fdU,mU,gU,bU⟩:=C.u v.y
   refine⟨_,(A6 (G0 (PW.pt (B8j (D0 B4n (U2 G8 (pv 2) A7 (fun _ _=>rfl)) A7 (C8 _)) (B6j (V4 (C2f (A1j (pv 0) C.c.cl mW gW hr bW .nil hx) (C.wc v.y).cl mU gU hr bU .nil hx (A1 (pv 1) (A1 (C7 U4 (U2 G8 (pv 2) A7 (fun _ _=>rfl)) A7) (A1 (U2 G8 (pv 2) A7 (fun _ _=>rfl)) A5)))))))) (A8 (B7 (C7 Y3 (U2 G8 (pv 2) A7 (fun _ _=>rfl)) A7))) D3)
     (A8 (B7 (U2 G8 (pv 2) A7 (fun _ _=>rfl))))),?_⟩
   obtain⟨⟨dx,e⟩,_,_⟩:=id hc
   unfold upI at k
   refine⟨_,rfl,p,_,_,_,rfl,rfl,SqT.of hp,G2 (j:=1) rfl,rfl,_,rfl,?_⟩
   by_cases h0:pt=0
   . subst h0
     rw[if_pos rfl,if_neg Bool.false_ne_true] at k
     exact U2d rfl (Y5 ⟨_,rfl,p,_,_,_,rfl,rfl,SqT.of hp,G2 (j:=0) rfl,k H (Same.refl H)⟩)
   . rw[if_neg h0] at k
     rw[decide_eq_false (fun q=>h0 (by injection q):¬V.int pt=V.int 0)]
     refine Z1 ⟨_,rfl,c,dx,_,rfl,e,C3q _ _ _ _ _ _,c,v.r,v.y,v.l,v.m,a,b,_,_,rfl,hc,fun q dq H1 nq s1 eq=>?_⟩
     refine⟨q,dq,_,rfl,eq,rfl,_,rfl,_,rfl,p,_,_,_,rfl,rfl,SqT.of (s1 _ _ hp),G2 (j:=0) rfl,_,_,rfl,rfl,(by decide:(0:Int)<10),_,rfl,p,_,_,_,rfl,rfl,SqT.of (s1 _ _ hp),G2 (j:=1) rfl,q,sg,wh % 10,pt,rfl,fun H2 s2=>⟨_,rfl,?_⟩⟩
     have s3:=s1.trans s2
     cases g:v.y.goes sg (wh % 10) pt with
     | true=>
       rw[g,if_pos rfl] at k
       exact Z1 ⟨_,rfl,p,_,_,_,rfl,rfl,SqT.of (s3 _ _ hp),G2 (j:=0) rfl,_,_,rfl,rfl,k H2 s3⟩
     | false=>
       rw[g,if_neg Bool.false_ne_true] at k
       exact Y5 ⟨_,rfl,p,_,_,_,rfl,rfl,SqT.of (s3 _ _ hp),G2 (j:=0) rfl,k H2 s3⟩
noncomputable def G6r (CN CC:Addr):Sp:=fun vs H Q _=>∃c v a b xs ys,∃s f q:Int,vs=[.ref c,.int s,.int f,.int q]/\CtxV CC H c v a b xs ys/\v.Ok/\∀n H',H n=none ->Same H H' ->NumIs CN H' n ⟨.plain,s,(G6h v.r f q).1,(G6h v.r f q).2⟩ ->Q (.ref n) H'
theorem V2b:FnScope ["context","sign","figures","power"] ["context","sign","figures","power"] (A3 A4q):=scK
theorem U5k{f f1 fI CN CC CB CT CW:Addr}{cw:Wy ->Addr}{fd fd1 fdI:FuncData}(D:Def K mg "within_room" ["context","sign","figures","power"] A4q f fd)(dA:Def K mg "ten_to" ["count"] Z9 f1 fd1)(dB:FnOk P w K mg base (CX1 P w) 2 f1 fd1 ["count"] A1u)(C:CtxM P w K mg base CC CB CT CW cw)(N:Num K mg CN)(M:MakeN P w K mg base CN fI fdI):
   FnOk P w K mg base (CX1 P w) 3 f fd ["context","sign","figures","power"] (G6r CN CC):=by
 refine FnOk.up (D.F.ok V2b (fun vs H Q E h=>?_) (fun cdv A outer s H vs Q E hr h=>?_))
 . obtain⟨c,v,a,b,xs,ys,sg,f,q,rfl,_⟩:=h
   rfl
 . obtain⟨c,v,a,b,xs,ys,sg,fg,q,rfl,hc,ok,k⟩:=h
   have hx:G5 (A0f CX0 P w K mg base ["context","sign","figures","power"] "within_room" (A3 A4q) f cdv A outer s H E).nox EKF:=Y9
   refine⟨_,(A6 (G0 (D0 G4 (pv 2) (C6 dA dB hr hx (A1 (D5 (pv 0) rfl) A5)) (C8 _)) (A8 (B7 (A5v M.m (FnOk.up M.g) hr N.g M.b .nil hx (A1 C9 (A1 (pv 1) (A1 (C7 U6 (pv 2) A7) (A1 (C7 Y3 (pv 3) A7) A5))))))) D3)
     (A8 (B7 (A5v M.m (FnOk.up M.g) hr N.g M.b .nil hx (A1 C9 (A1 (pv 1) (A1 (pv 2) (A1 (pv 3) A5)))))))),?_⟩
   have d10:(0:Int)<10/\(10:Int).natAbs.log2<9000:=⟨by decide,by decide+kernel⟩
   obtain⟨⟨dx,e⟩,_,_⟩:=id hc
   have r1:=ok.r1;have r2:=ok.r2
   refine⟨_,rfl,_,rfl,c,CC,dx,_,_,rfl,e,C.c.cl,C.c.n_room,A3v _ _ _ _ _ _,v.r.toNat,(by rw[Int.toNat_of_nonneg (by omega)];rfl),by omega,rfl,_,rfl,?_⟩
   unfold G6h at k
   refine U9 (fun h=>?_) (fun h=>?_)
   . have h:fg=B8 v.r:=by injection h
     rw[if_pos h] at k
     exact⟨_,rfl,_,rfl,_,_,rfl,rfl,d10,_,rfl,_,_,rfl,rfl,C3w k⟩
   . have h:¬fg=B8 v.r:=fun z=>h (congrArg V.int z)
     rw[if_neg h] at k
     exact⟨_,rfl,_,rfl,_,rfl,C3w k⟩
noncomputable def G5z (CN CC:Addr):Sp:=fun vs H Q _=>∃c v a b xs ys n x,vs=[.ref c,.ref n]/\CtxV CC H c v a b xs ys/\NumIs CN H n x/\x.f.natAbs<2^300/\Q (.bl (B3s v.m x.f x.p)) H
theorem V0t:FnScope ["context","number"] ["context","number"] (A3 A4p):=scK
theorem U3p{f f1 CN CC CB CT CW:Addr}{cw:Wy ->Addr}(D:Def K mg "is_beyond" ["context","number"] A4p f fd)(dA:Def K mg "lead_of" ["number"] C3g f1 fd1)(dB:FnOk P w K mg base (CX1 P w) 1 f1 fd1 ["number"] (V1e CN))(C:CtxM P w K mg base CC CB CT CW cw)(N:Num K mg CN):
   FnOk P w K mg base (CX1 P w) 2 f fd ["context","number"] (G5z CN CC):=by
 refine FnOk.up (D.F.ok V0t (fun vs H Q E h=>?_) (fun cdv A outer s H vs Q E hr h=>?_))
 . obtain⟨c,v,a,b,xs,ys,n,x,rfl,_⟩:=h
   rfl
 . obtain⟨c,v,a,b,xs,ys,n,x,rfl,hc,hn,hf,k⟩:=h
   have hx:G5 (A0f CX0 P w K mg base ["context","number"] "is_beyond" (A3 A4p) f cdv A outer s H E).nox EKF:=Y9
   refine⟨_,(A8 (B7 (A6r (J0 B4n (D5 (pv 1) rfl) A7 (C8 _)) (A5h (J0 G5r (C6 dA dB hr hx (A1 (pv 1) A5)) (D5 (pv 0) rfl) (C8 _)))))),?_⟩
   obtain⟨⟨dx,e⟩,_,_⟩:=id hc
   obtain⟨dn,en⟩:=id hn
   unfold B3s at k
   refine⟨_,rfl,n,CN,dn,_,_,rfl,en,N.cl,N.n3,C2s _ _ _ _,rfl,_,rfl,?_⟩
   by_cases h0:x.f=0
   . rw[if_pos h0] at k
     rw[decide_eq_true (congrArg V.int h0)]
     exact Y5 k
   . rw[if_neg h0] at k
     rw[decide_eq_false (fun q=>h0 (by injection q):¬V.int x.f=V.int 0)]
     exact Z1 ⟨_,rfl,n,_,_,_,_,rfl,hn,hf,_,rfl,c,CC,dx,_,_,rfl,e,C.c.cl,C.c.n_most,C4f _ _ _ _ _ _,_,_,rfl,rfl,k⟩
noncomputable def U1j (CN CC:Addr):Sp:=fun vs H Q _=>∃c v a b xs ys,∃s:Int,vs=[.ref c,.int s]/\CtxV CC H c v a b xs ys/\v.Ok/\∀n H',H n=none ->Same H H' ->NumIs CN H' n ⟨.plain,s,B8 v.r-1,v.m-v.r+1⟩ ->Q (.ref n) H'
theorem Y7f:FnScope ["context","sign"] ["context","sign"] (A3 A9p):=scK
theorem V0k{f f1 fI CN CC CB CT CW:Addr}{cw:Wy ->Addr}{fd fd1 fdI:FuncData}(D:Def K mg "nines" ["context","sign"] A9p f fd)(dA:Def K mg "ten_to" ["count"] Z9 f1 fd1)(dB:FnOk P w K mg base (CX1 P w) 2 f1 fd1 ["count"] A1u)(C:CtxM P w K mg base CC CB CT CW cw)(N:Num K mg CN)(M:MakeN P w K mg base CN fI fdI):
   FnOk P w K mg base (CX1 P w) 3 f fd ["context","sign"] (U1j CN CC):=by
 refine FnOk.up (D.F.ok Y7f (fun vs H Q E h=>?_) (fun cdv A outer s H vs Q E hr h=>?_))
 . obtain⟨c,v,a,b,xs,ys,sg,rfl,_⟩:=h
   rfl
 . obtain⟨c,v,a,b,xs,ys,sg,rfl,hc,ok,k⟩:=h
   have hx:G5 (A0f CX0 P w K mg base ["context","sign"] "nines" (A3 A9p) f cdv A outer s H E).nox EKF:=Y9
   refine⟨_,(A8 (B7 (A5v M.m (FnOk.up M.g) hr N.g M.b .nil hx (A1 C9 (A1 (pv 1) (A1 (C7 V1 (C6 dA dB hr hx (A1 (D5 (pv 0) rfl) A5)) A7) (A1 (C7 Y3 (C7 V1 (D5 (pv 0) rfl) (D5 (pv 0) rfl)) A7) A5))))))),?_⟩
   obtain⟨⟨dx,e⟩,_,_⟩:=id hc
   have r1:=ok.r1;have r2:=ok.r2
   exact⟨_,rfl,_,rfl,c,CC,dx,_,_,rfl,e,C.c.cl,C.c.n_room,A3v _ _ _ _ _ _,v.r.toNat,(by rw[Int.toNat_of_nonneg (by omega)];rfl),by omega,_,_,rfl,rfl,_,rfl,c,CC,dx,_,_,rfl,e,C.c.cl,C.c.n_most,C4f _ _ _ _ _ _,_,rfl,c,CC,dx,_,_,rfl,e,C.c.cl,C.c.n_room,A3v _ _ _ _ _ _,_,_,rfl,rfl,_,_,rfl,rfl,C3w k⟩
noncomputable def U1e (CN CC:Addr):Sp:=fun vs H Q _=>∃c v a b xs ys,∃s:Int,vs=[.ref c,.int s]/\CtxV CC H c v a b xs ys/\v.Ok/\0<=s/\s<=1/\∀n H',Same H H' ->NumIs CN H' n (C4s v s) ->Q (.ref n) H'
theorem Y9h:FnScope ["context","sign"] ["context","sign"] (A3 B0b):=scK
theorem U9z{f f1 f2 CN CN' CC CB CT CW:Addr}{cw:Wy ->Addr}(D:Def K mg "burst" ["context","sign"] B0b f fd)(dA:Def K mg "nines" ["context","sign"] A9p f1 fd1)(dB:FnOk P w K mg base (CX1 P w) 3 f1 fd1 ["context","sign"] (U1j CN CC))(dC:Def K mg "end" ["sign"] C8a f2 fd2)(dD:FnOk P w K mg base (CX1 P w) 3 f2 fd2 ["sign"] (G5w K CN CN'))(C:CtxM P w K mg base CC CB CT CW cw):
   FnOk P w K mg base (CX1 P w) 4 f fd ["context","sign"] (U1e CN CC):=by
 refine FnOk.up (D.F.ok Y9h (fun vs H Q E h=>?_) (fun cdv A outer s H vs Q E hr h=>?_))
 . obtain⟨c,v,a,b,xs,ys,sg,rfl,_⟩:=h
   rfl
 . obtain⟨c,v,a,b,xs,ys,sg,rfl,hc,ok,s0,s1,k⟩:=h
   have hx:G5 (A0f CX0 P w K mg base ["context","sign"] "burst" (A3 B0b) f cdv A outer s H E).nox EKF:=Y9
   obtain⟨fW,fdW,mW,gW,bW⟩:=C.way
   obtain⟨fU,fdU,mU,gU,bU⟩:=C.e v.y
   refine⟨_,(A8 (B7 (A0a (V4 (C2f (A1j (pv 0) C.c.cl mW gW hr bW .nil hx) (C.wc v.y).cl mU gU hr bU .nil hx (A1 (pv 1) A5))) (C6 dC dD hr hx (A1 (pv 1) A5)) (C6 dA dB hr hx (A1 (pv 0) (A1 (pv 1) A5)))))),?_⟩
   obtain⟨⟨dx,e⟩,_,_⟩:=id hc
   unfold C4s at k
   refine⟨_,rfl,c,dx,_,rfl,e,C3q _ _ _ _ _ _,c,v.r,v.y,v.l,v.m,a,b,_,_,rfl,hc,fun q dq H1 nq t1 eq=>?_⟩
   refine⟨q,dq,_,rfl,eq,rfl,_,rfl,q,sg,rfl,fun H2 t2=>⟨_,rfl,?_⟩⟩
   have t3:=t1.trans t2
   cases g:v.y.toEnd sg with
   | true=>
     rw[g,if_pos rfl] at k
     exact Z1 ⟨_,rfl,_,rfl,.inl ⟨⟨sg,rfl,s0,s1⟩,fun n H' _ sm num=>k n H' (t3.trans sm) num⟩⟩
   | false=>
     rw[g,if_neg Bool.false_ne_true] at k
     exact Y5 ⟨_,rfl,_,rfl,c,v,a,b,xs,ys,sg,rfl,hc.same t3,ok,fun n H' _ sm num=>k n H' (t3.trans sm) num⟩
noncomputable def D2d:Sp:=fun vs H Q _=>∃(pt:Int) (cut:Bool),vs=[.int pt,.bl cut]/\∀l,H l=none ->Q (.ref l) (upd H l (.lst ((A4c pt cut).map V.str)))
theorem U5t:FnScope ["part","is_cut"] ["part","is_cut"] (A3 A4b):=scK
theorem J1m(D:Def K mg "signals_of_rest" ["part","is_cut"] A4b f fd):FnOk P w K mg base (CX1 P w) 1 f fd ["part","is_cut"] D2d:=by
 refine FnOk.up (D.F.ok U5t (fun vs H Q E h=>?_) (fun cdv A outer s H vs Q E hr h=>?_))
 . obtain⟨pt,cut,rfl,_⟩:=h
   rfl
 . obtain⟨pt,cut,rfl,k⟩:=h
   refine⟨_,(A6 (G0 (D0 B4n (pv 0) A7 (C8 _)) (A8 (B7 (U1 (A1 C9 (A1 C9 A5))))) D3)
     (A8 (B7 (A0a (V4 (pv 1)) (U1 (A1 C9 A5)) (U1 A5))))),?_⟩
   unfold A4c at k
   refine⟨_,rfl,rfl,_,rfl,?_⟩
   by_cases h0:pt=0
   . subst h0
     rw[if_pos rfl] at k
     refine U2d rfl ⟨_,rfl,_,rfl,?_⟩
     cases cut with
     |true=>exact Z1 ⟨D8 (by decide),k⟩
     |false=>exact Y5 ⟨D8 (by decide),k⟩
   . rw[if_neg h0] at k
     rw[decide_eq_false (fun q=>h0 (by injection q):¬V.int pt=V.int 0)]
     exact Z1 ⟨D8 (by decide),k⟩
noncomputable def D2a (CC:Addr):Sp:=fun vs H Q _=>∃c v a b xs ys,∃L pt:Int,vs=[.ref c,.int L,.int pt]/\CtxV CC H c v a b xs ys/\∀l,H l=none ->Q (.ref l) (upd H l (.lst ((A4t v.l L pt).map V.str)))
theorem U4p:FnScope ["context","lead","part"] ["context","lead","part"] (A3 A3x):=scK
theorem G9m{f CC CB CT CW:Addr}{cw:Wy ->Addr}(D:Def K mg "signals_of_lead" ["context","lead","part"] A3x f fd)(C:CtxM P w K mg base CC CB CT CW cw):FnOk P w K mg base (CX1 P w) 1 f fd ["context","lead","part"] (D2a CC):=by
 refine FnOk.up (D.F.ok U4p (fun vs H Q E h=>?_) (fun cdv A outer s H vs Q E hr h=>?_))
 . obtain⟨c,v,a,b,xs,ys,L,pt,rfl,_⟩:=h
   rfl
 . obtain⟨c,v,a,b,xs,ys,L,pt,rfl,hc,k⟩:=h
   refine⟨_,(A6 (G0 (D0 C3h (pv 1) (D5 (pv 0) rfl) (C8 _)) (A8 (B7 (U1 A5))) D3)
     (A8 (B7 (A0a (D0 G4 (pv 2) A7 (C8 _)) (U1 (A1 C9 A5)) (U1 (A1 C9 (A1 C9 A5))))))),?_⟩
   obtain⟨⟨dx,e⟩,_,_⟩:=id hc
   unfold A4t at k
   refine⟨_,rfl,_,rfl,c,CC,dx,_,_,rfl,e,C.c.cl,C.c.n_least,D2s _ _ _ _ _ _,_,_,rfl,rfl,_,rfl,U9 (fun h=>?_) (fun h=>?_)⟩
   . rw[if_pos h] at k
     exact⟨D8 (by decide),k⟩
   . rw[if_neg h] at k
     refine⟨_,rfl,rfl,_,rfl,U9 (fun h=>?_) (fun h=>?_)⟩
     . rw[if_pos (by injection h)] at k
       exact⟨D8 (by decide),k⟩
     . rw[if_neg fun q=>h (congrArg V.int q)] at k
       exact⟨D8 (by decide),k⟩
noncomputable def A3u (CN CC:Addr):Sp:=fun vs H Q _=>∃c v a b xs ys,∃s i:Int,vs=[.ref c,.int s,.int i]/\CtxV CC H c v a b xs ys/\∀n H',H n=none ->Same H H' ->NumIs CN H' n ⟨.plain,s,0,Y7 (A4n i (v.l-v.r+1)) v.m⟩ ->Q (.ref n) H'
theorem V0p:FnScope ["context","sign","ideal"] ["context","sign","ideal"] (A3 Z5):=scK
theorem U4z{f fI CN CC CB CT CW:Addr}{cw:Wy ->Addr}{fd fdI:FuncData}(D:Def K mg "nought" ["context","sign","ideal"] Z5 f fd)(C:CtxM P w K mg base CC CB CT CW cw)(N:Num K mg CN)(M:MakeN P w K mg base CN fI fdI)(O:Own mg):FnOk P w K mg base (CX1 P w) 3 f fd ["context","sign","ideal"] (A3u CN CC):=by
 refine FnOk.up (D.F.ok V0p (fun vs H Q E h=>?_) (fun cdv A outer s H vs Q E hr h=>?_))
 . obtain⟨c,v,a,b,xs,ys,sg,i,rfl,_⟩:=h
   rfl
 . obtain⟨c,v,a,b,xs,ys,sg,i,rfl,hc,k⟩:=h
   have hx:G5 (A0f CX0 P w K mg base ["context","sign","ideal"] "nought" (A3 Z5) f cdv A outer s H E).nox EKF:=Y9
   obtain⟨fL,fdL,mL,gL,bL⟩:=C.low
   refine⟨_,(A8 (B7 (A5v M.m (FnOk.up M.g) hr N.g M.b .nil hx (A1 C9 (A1 (pv 1) (A1 A7 (A1 (J1 (A6a rfl) (by rfl) O.min_ boot_min (A1 (J1 (A1k rfl) (by rfl) O.max_ boot_max (A1 (pv 2) (A1 (A1j (pv 0) C.c.cl mL gL hr bL .nil hx) A5))) (A1 (D5 (pv 0) rfl) A5))) A5))))))),?_⟩
   obtain⟨⟨dx,e⟩,_,_⟩:=id hc
   exact⟨_,rfl,_,rfl,_,rfl,c,dx,_,rfl,e,A5k _ _ _ _ _ _,c,v.r,v.y,v.l,v.m,a,b,_,_,rfl,hc,_,_,rfl,_,rfl,c,CC,dx,_,_,rfl,e,C.c.cl,C.c.n_most,C4f _ _ _ _ _ _,_,_,rfl,C3w k⟩
end
noncomputable abbrev Z4:Stmt:=(top 31)
noncomputable abbrev A2b:Stmt:=(top 44)
theorem C3r(i:Int):∀(n:Nat) (f p:Int),0<=f ->0<=(A1y i n f p).1/\(A1y i n f p).1<=f
 |0,f,p,h=>⟨h,Int.le_refl _⟩
 | n +1,f,p,h=>by
   show 0<=(if f % 10=0 then A1y i n (f/10) (p+1) else(f,p)).1/\(if f % 10=0 then A1y i n (f/10) (p+1) else(f,p)).1<=f
   by_cases z:f % 10=0
   . rw[if_pos z]
     have:=C3r i n (f/10) (p+1) (by omega)
     omega
   . rw[if_neg z]
     exact⟨h,Int.le_refl _⟩
theorem V2q{t b u1 v1 u2 v2 d:Nat}(h:t*10^u1<10*(b*10^v1))(e:u2+v1<=u1+v2+d):t*10^u2<10^(d+1)*(b*10^v2):=by
 have p:0<10^v1:=Nat.pow_pos (by decide)
 apply Nat.lt_of_mul_lt_mul_right (a:=10^v1)
 calc t*10^u2*10^v1=t*10^(u2+v1):=by rw[Nat.mul_assoc, <-Nat.pow_add]
   _<=t*10^(u1+v2+d):=Nat.mul_le_mul_left t (Nat.pow_le_pow_right (by decide) e)
   _=t*10^u1*(10^v2*10^d):=by rw[Nat.mul_assoc, <-Nat.pow_add, <-Nat.pow_add,Nat.add_assoc]
   _<10*(b*10^v1)*(10^v2*10^d):=Nat.mul_lt_mul_of_pos_right h (Nat.mul_pos (Nat.pow_pos (by decide)) (Nat.pow_pos (by decide)))
   _=10^(d+1)*(b*10^v2)*10^v1:=by rw[Nat.pow_succ];ac_rfl
theorem U1p{t b s1 s2 r:Int}(ht:Sz t)(hb:Sz b)(h:A0k t b s1)(hr:1<=r)(e:s2<=s1+(r-1)):0<=whI t b s2/\whI t b s2<B8 r:=by
 obtain⟨tn,rfl,_,_⟩:=ht.nat
 obtain⟨bn,rfl,b1,_⟩:=hb.nat
 have lp:0<(bn:Int)*B8 (-s2):=Int.mul_pos (by omega) (G9 _)
 refine⟨Int.ediv_nonneg (Int.mul_nonneg (by omega) (Int.le_of_lt (G9 _))) (Int.le_of_lt lp),?_⟩
 refine Int.ediv_lt_of_lt_mul lp ?_
 have a:tn*10^s1.toNat<10*(bn*10^(-s1).toNat):=Int.ofNat_lt.mp h.2
 have c:=V2q (u2:=s2.toNat) (v2:=(-s2).toNat) (d:=(r-1).toNat) a (by
   have x1:=Int.toNat_sub_toNat_neg s1
   have x2:=Int.toNat_sub_toNat_neg s2
   have x3:=Int.toNat_of_nonneg (show 0<=r-1 by omega)
   clear a lp h
   generalize s1.toNat=A at*
   generalize (-s1).toNat=B at*
   generalize s2.toNat=C at*
   generalize (-s2).toNat=D at*
   generalize (r-1).toNat=E at*
   omega)
 rw[show(r-1).toNat+1=r.toNat by omega] at c
 exact Int.ofNat_lt.mpr c
theorem U1q{r:Int}(h:r<=24):B8 r<=10^24:=by
 unfold B8
 have:10^r.toNat<=10^24:=Nat.pow_le_pow_right (by decide) (by omega)
 exact Int.ofNat_le.mpr this
theorem J1c{c:Cv}{s wh pt q i:Int}(ok:c.Ok)(h0:0<=wh)(h1:wh<B8 c.r):(A3s c s wh pt q i).1.natAbs<2^300:=by
 have t:=U1q ok.r2
 have big:((10^24:Nat):Int)=10^24:=by decide+kernel
 have lt:∀z:Int,0<=z ->z<=10^24 ->z.natAbs<2^300:=fun z a b=>Nat.lt_of_le_of_lt (show z.natAbs<=10^24 by omega) (by decide+kernel)
 unfold A3s
 split
 . have:=C3r i (i-q).toNat wh q h0
   exact lt _ this.1 (by unfold A1e;omega)
 . have hu:0<=upI c.y s wh pt/\upI c.y s wh pt<=B8 c.r:=by
     have e:upI c.y s wh pt=wh+1\/upI c.y s wh pt=wh:=by
       unfold upI
       generalize (if pt=0 then false else c.y.goes s (wh % 10) pt)=g
       cases g with
       |true=>exact .inl rfl
       |false=>exact .inr rfl
     omega
   generalize upI c.y s wh pt=u at hu
   unfold G6h
   split
   . exact lt (u/10) (by omega) (by omega)
   . exact lt u (by omega) (by omega)
section
variable{P:Program}{w:World}{K:Frag}{mg:Str ->Option Value}{base:Heap}
noncomputable def G5p (CC CR:Addr):Sp:=fun vs H Q _=>∃c v a b xs ys x,∃t bo n L:Int,vs=[.ref c,.ref x]/\CtxV CC H c v a b xs ys/\RatAt CR H x t bo n/\Sz t/\Sz bo/\A0k t bo (n-L)/\∀H',Same H H' ->Q (.int (A4n (L-v.r+1) (v.l-v.r+1))) H'
theorem V1v:FnScope ["context","exact"] ["context","exact"] (A3 A4r):=scK
theorem U5q{f CC CB CT CW CR CE g1 g2:Addr}{cw:Wy ->Addr}(D:Def K mg "finest_power" ["context","exact"] A4r f fd)(C:CtxM P w K mg base CC CB CT CW cw)(RM:RatM P w K mg base CR g1 g2 gd1 gd2)(R:RatC K mg CR CE)(O:Own mg):FnOk P w K mg base (CX1 P w) 5 f fd ["context","exact"] (G5p CC CR):=by
 refine FnOk.up (D.F.ok V1v (fun vs H Q E h=>?_) (fun cdv A outer s H vs Q E hr h=>?_))
 . obtain⟨c,v,a,b,xs,ys,x,t,bo,n,L,rfl,_⟩:=h
   rfl
 . obtain⟨c,v,a,b,xs,ys,x,t,bo,n,L,rfl,hc,ra,ht,hb,hL,k⟩:=h
   have hx:G5 (A0f CX0 P w K mg base ["context","exact"] "finest_power" (A3 A4r) f cdv A outer s H E).nox EKF:=Y9
   obtain⟨fL,fdL,mL,gL,bL⟩:=C.low
   refine⟨_,(A8 (B7 (J1 (A1k rfl) (by rfl) O.max_ boot_max (A1 (C7 Y3 (C7 V1 (A1j (pv 1) R.cl RM.m1 RM.g1 hr RM.b1 .nil hx) (D5 (pv 0) rfl)) A7) (A1 (A1j (pv 0) C.c.cl mL gL hr bL .nil hx) A5))))),?_⟩
   obtain⟨dr,er⟩:=id ra
   refine⟨_,rfl,x,dr,_,rfl,er,B6m _ _ _,x,t,bo,n,rfl,ra,ht,hb,fun f H1 s1 ld=>?_⟩
   have ef:f=L:=by
     have:=U1f (show 0<bo by have:=hb.1;omega) ld hL
     omega
   subst ef
   have hc1:=hc.same s1
   obtain⟨⟨dx,e⟩,_,_⟩:=id hc1
   exact⟨_,rfl,c,CC,dx,_,_,rfl,e,C.c.cl,C.c.n_room,A3v _ _ _ _ _ _,_,_,rfl,rfl,_,_,rfl,rfl,_,rfl,c,dx,_,rfl,e,A5k _ _ _ _ _ _,c,v.r,v.y,v.l,v.m,a,b,_,_,rfl,hc1,_,_,rfl,k H1 s1⟩
noncomputable def Cv.fin (v:Cv) (L:Int):Int:=A4n (L-v.r+1) (v.l-v.r+1)
noncomputable def Z6 (v:Cv) (s t bo n L i:Int):Nm×List Str:=C2x v s (whI t bo (n-v.fin L)) (ptI t bo (n-v.fin L)) L (v.fin L) i
noncomputable def Ends2 (CN CC CT:Addr) (H:Hp) (c:Addr) (v:Cv) (b:Addr) (xs ys:List Str) (res:Nm×List Str) (Q:VK) (E:XK):Prop:=
 (hit ys res.2=none ->∀m a' H',Exc c H H' ->CtxV CC H' c v a' b (Y6 (xs++res.2)) ys ->NumIs CN H' m res.1 ->Q (.ref m) H')/\
 (∀z,hit ys res.2=some z ->∀a' d H',Exc c H H' ->CtxV CC H' c v a' b (Y6 (xs++res.2)) ys ->H' d=some (.xd [("signal",.str z)]) ->E (.ref CT) (some d) H')
noncomputable def A3n (CN CC CT CR:Addr):Sp:=fun vs H Q E=>∃c v a b xs ys x,∃t bo n L s i:Int,vs=[.ref c,.int s,.ref x,.int i]/\CtxV CC H c v a b xs ys/\v.Ok/\xs.length<=900/\RatAt CR H x t bo n/\Sz t/\Sz bo/\A0k t bo (n-L)/\ -1500<=n-v.fin L/\n-v.fin L<=1500/\0<=s/\s<=1/\
 Ends2 CN CC CT H c v b xs ys (Z6 v s t bo n L i) Q E
theorem scSettled:FnScope ["context","sign","exact","ideal","finest","pair","number","names"] ["context","sign","exact","ideal"] (A3 Z4):=scK
theorem U5u:∀z∈(["burst","off","cut"]:List Str),z∈sigS:=by decide+kernel
theorem V3b{pt:Int}{cut:Bool}{l L:Int}:∀z∈A4c pt cut++A4t l L pt,z∈sigS:=by
 have r:∀z∈A4c pt cut,z∈sigS:=by
   unfold A4c
   split
   . split
     . decide+kernel
     . decide+kernel
   . decide+kernel
 have d:∀z∈A4t l L pt,z∈sigS:=by
   unfold A4t
   split
   . decide+kernel
   . split
     . decide+kernel
     . decide+kernel
 intro z hz
 rcases List.mem_append.mp hz with h|h
 . exact r z h
 . exact d z h
theorem U9s{pt:Int}{cut:Bool}{l L:Int}:(A4c pt cut++A4t l L pt).length<=4:=by
 have r:(A4c pt cut).length<=2:=by
   unfold A4c
   split
   . split<;>decide
   . decide
 have d:(A4t l L pt).length<=2:=by
   unfold A4t
   split
   . decide
   . split<;>decide
 rw[List.length_append]
 omega
theorem J0q{f f1 f2 f3 f4 f5 f6 f7 f8 CN CC CB CT CW CR CE g1 g2:Addr}{cw:Wy ->Addr}(D:Def K mg "settled" ["context","sign","exact","ideal"] Z4 f fd)
   (dA:Def K mg "finest_power" ["context","exact"] A4r f1 fd1) (dB:FnOk P w K mg base (CX1 P w) 5 f1 fd1 ["context","exact"] (G5p CC CR)) (dC:Def K mg "nearest_to" ["ideal","sign","figures","power"] A2c f2 fd2) (dD:FnOk P w K mg base (CX1 P w) 3 f2 fd2 ["ideal","sign","figures","power"] (D1p CN))
   (dE:Def K mg "neighbour" ["context","sign","pair"] Z3 f3 fd3) (dF:FnOk P w K mg base (CX1 P w) 3 f3 fd3 ["context","sign","pair"] (C2g CC)) (dG:Def K mg "within_room" ["context","sign","figures","power"] A4q f4 fd4) (dH:FnOk P w K mg base (CX1 P w) 3 f4 fd4 ["context","sign","figures","power"] (G6r CN CC))
   (dJ:Def K mg "is_beyond" ["context","number"] A4p f5 fd5) (dL:FnOk P w K mg base (CX1 P w) 2 f5 fd5 ["context","number"] (G5z CN CC)) (dM:Def K mg "burst" ["context","sign"] B0b f6 fd6) (dN:FnOk P w K mg base (CX1 P w) 4 f6 fd6 ["context","sign"] (U1e CN CC))
   (dP:Def K mg "signals_of_rest" ["part","is_cut"] A4b f7 fd7) (dQ:FnOk P w K mg base (CX1 P w) 1 f7 fd7 ["part","is_cut"] D2d) (dS:Def K mg "signals_of_lead" ["context","lead","part"] A3x f8 fd8) (dU:FnOk P w K mg base (CX1 P w) 1 f8 fd8 ["context","lead","part"] (D2a CC))
   (C:CtxM P w K mg base CC CB CT CW cw) (RM:RatM P w K mg base CR g1 g2 gd1 gd2) (R:RatC K mg CR CE) (N:Num K mg CN):FnOk P w K mg base (CX1 P w) 6 f fd ["context","sign","exact","ideal"] (A3n CN CC CT CR):=by
 refine D.F.okE scSettled (fun vs H Q E h=>?_) (fun X cdv A outer s H vs Q E hX hr hx h=>?_)
 . obtain⟨c,v,a,b,xs,ys,x,t,bo,n,L,sg,i,rfl,_⟩:=h
   rfl
 . subst hX
   obtain⟨c,v,a,b,xs,ys,x,t,bo,n,L,sg,i,rfl,hc,ok,lx,ra,ht,hb,hL,q0,q1,s0,s1,k⟩:=h
   obtain⟨fR,fdR,mR,gR,bR⟩:=C.raised
   refine⟨_,(A6 (D6 (D7 (i:=4) scSettled.nd rfl (Or.inl rfl) (C6 dA dB hr hx (A1 (pv 0) (A1 (pv 2) A5)))))
     (A6 (D6 (D7 (i:=5) scSettled.nd rfl (Or.inl rfl) (C2f (pv 2) R.cl RM.m2 RM.g2 hr RM.b2 .nil hx (A1 (pv 4) A5))))
     (A6 (D6 (G0 (D0 G4 (U2 G8 (pv 5) A7 (fun _ _=>rfl)) A7 (C8 _)) (A8 (D7 (i:=6) scSettled.nd rfl (Or.inl rfl) (C6 dC dD hr hx (A1 (pv 3) (A1 (pv 1) (A1 (U2 G8 (pv 5) A7 (fun _ _=>rfl)) (A1 (pv 4) A5))))))) (A8 (D7 (i:=6) scSettled.nd rfl (Or.inl rfl) (C6 dG dH hr hx (A1 (pv 0) (A1 (pv 1) (A1 (C6 dE dF hr hx (A1 (pv 0) (A1 (pv 1) (A1 (pv 5) A5)))) (A1 (pv 4) A5)))))))))
     (A6 (D6 (G0 (V4 (C6 dJ dL hr hx (A1 (pv 0) (A1 (pv 6) A5)))) (A6 (V5 (C2f (pv 0) C.c.cl mR gR hr bR .nil hx (A1 (U1 (A1 C9 (A1 C9 (A1 C9 A5)))) A5)))
     (A8 (B7 (C6 dM dN hr hx (A1 (pv 0) (A1 (pv 1) A5)))))) D3))
     (A6 (D6 (D7 (i:=7) scSettled.nd rfl (Or.inl rfl) (C6 dP dQ hr hx (A1 (U2 G8 (pv 5) A7 (fun _ _=>rfl)) (A1 (J0 G5r (D5 (pv 6) rfl) (pv 3) (C8 _)) A5)))))
     (A6 (D6 (V5 (C2f (pv 0) C.c.cl mR gR hr bR .nil hx (A1 (C7 D4r (pv 7) (C6 dS dU hr hx (A1 (pv 0) (A1 (A1j (pv 2) R.cl RM.m1 RM.g1 hr RM.b1 .nil hx) (A1 (U2 G8 (pv 5) A7 (fun _ _=>rfl)) A5))))) A5))))
     (A8 (B7 (pv 6))))))))),?_⟩
   have b0:0<bo:=by have:=hb.1;omega
   have wr:=U1p (s2:=n-v.fin L) ht hb hL ok.r1 (by
     unfold Cv.fin A4n
     split<;>omega)
   unfold Z6 C2x at k
   refine⟨fun σ' H'=>Same H H'/\σ'=[some (.ref c),some (.int sg),some (.ref x),some (.int i),some (.int (v.fin L)),none,none,none],?_,?_⟩
   . exact⟨_,rfl,_,rfl,c,v,a,b,xs,ys,x,t,bo,n,L,rfl,hc,ra,ht,hb,hL,fun H' s'=>⟨s',rfl⟩⟩
   rintro σ' H1 ⟨t1,rfl⟩
   have hc1:=hc.same t1
   have ra1:=ra.same t1
   generalize v.fin L=q at*
   generalize hwh:whI t bo (n-q)=wh at*
   generalize hpt:ptI t bo (n-q)=pt at*
   refine⟨fun σ' H'=>∃p,Same H1 H'/\H' p=some (.tup [.int wh,.int pt])/\σ'=[some (.ref c),some (.int sg),some (.ref x),some (.int i),some (.int q),some (.ref p),none,none],?_,?_⟩
   . obtain⟨dr,er⟩:=id ra1
     refine⟨_,rfl,x,dr,_,rfl,er,D1q _ _ _,_,rfl,x,t,bo,n,q,rfl,ra1,ht,hb,q0,q1,fun p H' s' np ep=>⟨p,s',?_,rfl⟩⟩
     rw[hwh,hpt] at ep
     exact ep
   rintro σ' H2 ⟨p,t2,hp,rfl⟩
   have hc2:=hc1.same t2
   have sm:=J1c (s:=sg) (pt:=pt) (q:=q) (i:=i) ok wr.1 wr.2
   refine⟨fun σ' H'=>∃m,Same H2 H'/\H2 m=none/\NumIs CN H' m ⟨.plain,sg,(A3s v sg wh pt q i).1,(A3s v sg wh pt q i).2⟩/\σ'=[some (.ref c),some (.int sg),some (.ref x),some (.int i),some (.int q),some (.ref p),some (.ref m),none],?_,?_⟩
   . refine⟨_,rfl,p,_,_,_,rfl,rfl,SqT.of hp,G2 (j:=1) rfl,rfl,_,rfl,U9 (fun h=>?_) (fun h=>?_)⟩
     . have h:pt=0:=by injection h
       refine⟨_,rfl,_,rfl,_,rfl,p,_,_,_,rfl,rfl,SqT.of hp,G2 (j:=0) rfl,_,rfl,i,sg,wh,q,rfl,fun m H' nm s' num=>⟨m,s',nm,?_,rfl⟩⟩
       unfold A3s
       rw[if_pos h]
       exact num
     . have h:¬pt=0:=fun z=>h (congrArg V.int z)
       refine⟨_,rfl,_,rfl,_,rfl,_,rfl,_,rfl,c,v,a,b,xs,ys,p,sg,wh,pt,rfl,hc2,hp,fun H3 s3=>?_⟩
       refine⟨_,rfl,c,v,a,b,xs,ys,sg,_,q,rfl,hc2.same s3,ok,fun m H' nm s' num=>⟨m,s3.trans s',s3.free nm,?_,rfl⟩⟩
       unfold A3s
       rw[if_neg h]
       exact num
   rintro σ' H3 ⟨m,t3,nm,num,rfl⟩
   have hc3:=hc2.same t3
   have tA:=(t1.trans t2).trans t3
   have nmc:m≠c:=fun z=>by
     obtain⟨⟨dx,e⟩,_,_⟩:=hc2
     rw[z,e] at nm
     cases nm
   obtain⟨⟨dx,e3⟩,_,_⟩:=id hc3
   generalize hf:(A3s v sg wh pt q i).1=fg at*
   generalize hg:(A3s v sg wh pt q i).2=pw at*
   refine⟨fun σ' H'=>H'=H3/\B3s v.m fg pw=false/\σ'=[some (.ref c),some (.int sg),some (.ref x),some (.int i),some (.int q),some (.ref p),some (.ref m),none],?_,?_⟩
   . refine⟨_,rfl,_,rfl,c,v,a,b,xs,ys,m,_,rfl,hc3,num,sm,_,rfl,?_⟩
     cases e:B3s v.m fg pw with
     |false=>exact Y5 ⟨rfl,rfl,rfl⟩
     | true=>
       rw[e,if_pos rfl] at k
       refine Z1 ⟨_,rfl,c,dx,_,rfl,e3,A1s _ _ _ _ _ _,D8 (by decide),fun l nl=>?_⟩
       have u:=Same.upd (o:= .lst [.str "burst",.str "off",.str "cut"]) nl
       refine⟨c,v.r,v.y,v.l,v.m,a,b,xs,ys,.ref l,rfl,hc3.same u,by omega,.inl ⟨l,["burst","off","cut"],rfl,B5,by decide,U5u,fun hn a' H4 x4 na ct=>?_,fun z hz a' d H4 x4 na ct nd ed=>?_⟩⟩
       . refine⟨_,rfl,_,rfl,c,v,a',b,_,ys,sg,rfl,ct,ok,s0,s1,fun m' H5 s5 num5=>k.1 hn m' a' H5 (((Exc.of (tA.trans u)).trans x4).trans (.of s5)) (CtxV.same ct s5) num5⟩
       . exact k.2 z hz a' d H4 ((Exc.of (tA.trans u)).trans x4) ct ed
   rintro σ' H4 ⟨rfl,e,rfl⟩
   rw[e,if_neg Bool.false_ne_true] at k
   refine⟨fun σ' H'=>∃l,Same H4 H'/\H' l=some (.lst ((A4c pt (decide (pw>i))).map V.str))/\σ'=[some (.ref c),some (.int sg),some (.ref x),some (.int i),some (.int q),some (.ref p),some (.ref m),some (.ref l)],?_,?_⟩
   . obtain⟨dn,en⟩:=id num
     exact⟨_,rfl,p,_,_,_,rfl,rfl,SqT.of (t3 _ _ hp),G2 (j:=1) rfl,_,rfl,m,CN,dn,_,_,rfl,en,N.cl,N.n4,B5c _ _ _ _,_,rfl,_,_,rfl,rfl,pt,_,rfl,fun l nl=>⟨l,Same.upd nl,B5,rfl⟩⟩
   rintro σ' H5 ⟨l,t5,hl,rfl⟩
   refine⟨fun σ' H'=>hit ys (A4c pt (decide (pw>i))++A4t v.l L pt)=none/\∃a',Exc c H H'/\CtxV CC H' c v a' b (Y6 (xs++(A4c pt (decide (pw>i))++A4t v.l L pt))) ys/\NumIs CN H' m ⟨.plain,sg,fg,pw⟩/\σ'=[some (.ref c),some (.int sg),some (.ref x),some (.int i),some (.int q),some (.ref p),some (.ref m),some (.ref l)],?_,?_⟩
   . have ra5:=((ra1.same t2).same t3).same t5
     obtain⟨dr,er⟩:=id ra5
     have hc5:=hc3.same t5
     refine⟨_,rfl,c,dx,_,rfl,t5 _ _ e3,A1s _ _ _ _ _ _,_,rfl,_,rfl,_,rfl,x,dr,_,rfl,er,B6m _ _ _,x,t,bo,n,rfl,ra5,ht,hb,fun f H6 t6 ld=>?_⟩
     have ef:f=L:=by
       have:=U1f b0 ld hL
       omega
     subst ef
     refine⟨_,rfl,p,_,_,_,rfl,rfl,SqT.of ((t5.trans t6) _ _ (t3 _ _ hp)),G2 (j:=1) rfl,c,v,a,b,xs,ys,f,pt,rfl,hc5.same t6,fun l2 nl2=>?_⟩
     have u2:=Same.upd (o:= .lst ((A4t v.l f pt).map V.str)) nl2
     have rl:=U9s (pt:=pt) (cut:=decide (pw>i)) (l:=v.l) (L:=f)
     rw[List.length_append] at rl
     refine⟨l,l2,_,_,rfl,rfl,(t6.trans u2) _ _ hl,B5,D8 (by rw[List.length_map,List.length_map];omega),fun l3 nl3=>?_⟩
     have u3:=Same.upd (o:= .lst ((A4c pt (decide (pw>i))).map V.str++(A4t v.l f pt).map V.str)) nl3
     have tB:=(t6.trans u2).trans u3
     have num7:=(num.same t5).same tB
     obtain⟨dn7,en7⟩:=id num7
     have keep:∀{H':Hp},Exc c _ H' ->NumIs CN H' m ⟨.plain,sg,fg,pw⟩:=fun x7=>⟨dn7,x7 _ _ en7 nmc⟩
     refine⟨c,v.r,v.y,v.l,v.m,a,b,xs,ys,.ref l3,rfl,(hc5.same tB),by omega,.inl ⟨l3,A4c pt (decide (pw>i))++A4t v.l f pt,rfl,by rw[B5,List.map_append],by rw[List.length_append];omega,V3b,fun hn a' H8 x8 na ct=>?_,fun z hz a' d H8 x8 na ct nd ed=>?_⟩⟩
     . exact⟨hn,a',(Exc.of (tA.trans (t5.trans tB))).trans x8,ct,keep x8,rfl⟩
     . exact k.2 z hz a' d H8 ((Exc.of (tA.trans (t5.trans tB))).trans x8) ct ed
   rintro σ' H6 ⟨hn,a',x6,ct,num6,rfl⟩
   exact⟨_,rfl,k.1 hn m a' H6 x6 ct num6⟩
noncomputable def A3t (v:Cv) (x:Nm) (L:Int):Nm×List Str:=match x.k with
 | .plain=>if x.f=0 then(⟨.plain,x.s,0,Y7 (A4n x.p (v.l-v.r+1)) v.m⟩,[]) else Z6 v x.s x.f 1 x.p L x.p
 |_=>(x,[])
end
noncomputable abbrev A0c:Stmt:=(top 24)
noncomputable abbrev A2u:Stmt:=(top 25)
section
variable{P:Program}{w:World}{K:Frag}{mg:Str ->Option Value}{base:Heap}
noncomputable def A3z (K:Frag) (CN CB:Addr):Sp:=fun vs H Q E=>∃l ns,vs=[.ref l]/\(∀p∈(ns:List (Addr×Nm)),NumIs CN H p.1 p.2)/\
 ((H l=some (.lst (ns.map fun p=>V.ref p.1))/\Q .non H)\/(∃v r,H l=some (.lst ((ns.map fun p=>V.ref p.1)++v::r))/\NotNum K CN H v/\E (.ref CB) none H))
theorem scNeedNs:FnScope ["things","thing"] ["things"] (A3 A0c):=scK
theorem U4s{f f1 CN CB:Addr}(D:Def K mg "need_numbers" ["things"] A0c f fd)(dA:Def K mg "need_number" ["thing"] A6v f1 fd1)(dB:FnOk P w K mg base (CX1 P w) 1 f1 fd1 ["thing"] (D4z K CN CB)):FnOk P w K mg base (CX1 P w) 2 f fd ["things"] (A3z K CN CB):=by
 refine D.F.okE scNeedNs (fun vs H Q E h=>?_) (fun X cdv A outer s H vs Q E hX hr hx h=>?_)
 . obtain⟨l,ns,rfl,_⟩:=h
   rfl
 . subst hX
   obtain⟨l,ns,rfl,hn,h⟩:=h
   refine⟨_,(A8 (D4m PassesOwn.leaving rfl (C2z (pv 0)) (A0b (i:=1) scNeedNs.nd rfl (Or.inl rfl)) (A8 (V5 (C6 dA dB hr hx (A1 (pv 1) A5)))))),?_⟩
   rcases h with⟨hl,k⟩|⟨v,r,hl,nv,k⟩
   . refine⟨_,rfl,l,rfl,⟨_,SqL.of hl⟩,A9m (xs:=ns.map fun p=>V.ref p.1) (fun i σ H'=>H'=H/\∃v,σ=[some (.ref l),v]) ⟨rfl,none,rfl⟩ ?_ ?_ ?_⟩
     . rintro i σ H' _ ⟨rfl,_⟩
       exact SqL.of hl
     . rintro i x σ H' hi ⟨rfl,v,rfl⟩
       obtain⟨p,hp,rfl⟩:=List.mem_map.mp (List.mem_of_getElem? hi)
       exact⟨_,rfl,_,rfl,.inl ⟨p.1,_,_,_,_,rfl,hn p hp,rfl,_,rfl⟩⟩
     . rintro σ H' ⟨rfl,v,rfl⟩
       exact k
   . refine⟨_,rfl,l,rfl,⟨_,SqL.of hl⟩,A9m (xs:=(ns.map fun p=>V.ref p.1)++v::r) (fun i σ H'=>H'=H/\i<=ns.length/\∃v,σ=[some (.ref l),v]) ⟨rfl,Nat.zero_le _,none,rfl⟩ ?_ ?_ ?_⟩
     . rintro i σ H' _ ⟨rfl,_⟩
       exact SqL.of hl
     . rintro i x σ H' hi ⟨rfl,hle,u,rfl⟩
       by_cases hlt:i<ns.length
       . rw[List.getElem?_append_left (by simpa using hlt)] at hi
         obtain⟨p,hp,rfl⟩:=List.mem_map.mp (List.mem_of_getElem? hi)
         exact⟨_,rfl,_,rfl,.inl ⟨p.1,_,_,_,_,rfl,hn p hp,rfl,by omega,_,rfl⟩⟩
       . have e:i=ns.length:=by omega
         subst e
         rw[List.getElem?_append_right (by simp)] at hi
         simp at hi
         subst hi
         exact⟨_,rfl,_,rfl,.inr ⟨nv,k⟩⟩
     . rintro σ H' ⟨rfl,hle,_⟩
       exfalso
       rw[List.length_append,List.length_map,List.length_cons] at hle
       omega
noncomputable def A6u (CN:Addr):Sp:=fun vs H Q _=>∃l ns z,vs=[.ref l,.str z]/\NumsAt CN H l ns/\ns.length<=1000/\∀H',Same H H' ->Q (.bl (ns.any fun p=>decide (p.2.k.str=z))) H'
theorem Y8c:FnScope ["numbers","kind"] ["numbers","kind"] (A3 A2u):=scK
theorem Z4q(ns:List (Addr×Nm))(z:Str):(ns.map fun p=>decide (p.2.k.str=z)).any id=ns.any fun p=>decide (p.2.k.str=z):=by rw[List.any_map];rfl
theorem dec_str{a b:Str}:decide (V.str a=V.str b)=decide (a=b):=by
 by_cases h:a=b
 . rw[decide_eq_true h,decide_eq_true (congrArg V.str h)]
 . rw[decide_eq_false h,decide_eq_false fun q=>h (by injection q)]
theorem V1h{f CN:Addr}(D:Def K mg "some_of_kind" ["numbers","kind"] A2u f fd)(O:Own mg)(N:Num K mg CN):FnOk P w K mg base (CX1 P w) 1 f fd ["numbers","kind"] (A6u CN):=by
 refine FnOk.up (D.F.ok Y8c (fun vs H Q E h=>?_) (fun cdv A outer s H vs Q E hr h=>?_))
 . obtain⟨l,ns,z,rfl,_⟩:=h
   rfl
 . obtain⟨l,ns,z,rfl,⟨hl,hn⟩,hz,k⟩:=h
   refine⟨_,(A8 (B7 (J1 (V2h hr.hd) (by rfl) O.any_ boot_any (A1 (U5a (N:=["number"]) (F:=["kind"]) (js:=[1]) (CompScopeF.of1 ⟨rfl,by decide+kernel,by decide+kernel,by decide+kernel,by decide+kernel⟩ (by rfl) (by rfl) ⟨_,by rfl⟩ (by rfl) (by rfl)) (.inl hr.hd) rfl (C2z (pv 0)) rfl (fun C s₀ H₀ ex pn h=>A0b (i:=0) (by decide+kernel:(["number","kind"]:List Str).Nodup) rfl (Or.inl rfl)) (fun C s₀ H₀ ex pn h=>(J0 G4 (Y7v (K:=K) rfl (pv 0) rfl) (pv 1) (C8 _)))) A5)))),?_⟩
   refine⟨_,rfl,l,rfl,⟨_,SqL.of hl⟩,U5m (J:=Itl K l) (n:=ns.length) (fun i y _=>∃p,ns[i]?=some p/\y= .bl (decide (p.2.k.str=z))) hz (fun _ _ _ _ _ _ h _ _=>h) (fun i H2 Qy hi sm hy=>⟨⟨_,V.ref ns[i].1,SqL.of (sm _ _ hl),by simp[hi]⟩,fun x H3 yl=>?_⟩) (fun H2 sm=>⟨_,SqL.of (sm _ _ hl),by simp⟩) (fun D H' ys sm nD eD hlen hR=>?_)⟩
   . obtain⟨rfl,yl⟩:=yl
     have ex:x=V.ref ns[i].1:=by
       have:=yl _ (SqL.of (sm _ _ hl))
       simp[hi] at this
       exact this.symm
     subst ex
     obtain⟨dx,e⟩:=(hn _ (List.getElem_mem hi)).same sm
     refine⟨_,rfl,ns[i].1,CN,dx,_,_,rfl,e,N.cl,N.n1,B7u _ _ _ _,_,rfl,rfl,hy _ _ (Same.refl _) ⟨ns[i],by simp[hi],?_⟩⟩
     rw[dec_str]
   . have ey:ys=(ns.map fun p=>decide (p.2.k.str=z)).map V.bl:=by
       apply List.ext_getElem?
       intro i
       by_cases hi:i<ns.length
       . obtain⟨p,hp,hy⟩:=hR i ys[i] (by simp[hlen,hi])
         rw[List.getElem?_eq_getElem (by omega),hy]
         simp[hp]
       . rw[List.getElem?_eq_none (by omega),List.getElem?_eq_none (by simp;omega)]
     subst ey
     refine⟨D,_,rfl,SqL.of eD,?_⟩
     rw[Z4q]
     exact k H' sm
end
section
variable{P:Program}{w:World}{K:Frag}{mg:Str ->Option Value}{base:Heap}
theorem C3n{v:Cv}{L n:Int}(ok:v.Ok)(h1: -1000<=n-L)(h2:n-L<=1000)(n1: -400<=n)(n2:n<=400): -1500<=n-v.fin L/\n-v.fin L<=1500:=by
 have:=ok.r1;have:=ok.r2;have:=ok.l1;have:=ok.l2
 unfold Cv.fin A4n
 split<;>omega
theorem B5f{t b s:Int}(ht:Sz t)(hb:Sz b)(h:A0k t b s): -1000<=s/\s<=1000:=by
 have e:=G9 1000
 refine⟨?_,?_⟩
 . apply Classical.byContradiction
   intro hs
   have z:B8 s=1:=by unfold B8;rw[show s.toNat=0 by omega];rfl
   have g:B8 1000<=B8 (-s):=Z7 (by omega)
   have a:=h.1
   rw[z,Int.mul_one] at a
   have:1*B8 (-s)<=b*B8 (-s):=Int.mul_le_mul_of_nonneg_right hb.1 (Int.le_of_lt (G9 _))
   have:=ht.2
   omega
 . apply Classical.byContradiction
   intro hs
   have z:B8 (-s)=1:=by unfold B8;rw[show(-s).toNat=0 by omega];rfl
   have g:B8 1001<=B8 s:=Z7 (by omega)
   have e1:B8 1001=10*B8 1000:=by
     unfold B8
     rw[show(1001:Int).toNat=(1000:Int).toNat+1 by decide,Nat.pow_succ,Nat.mul_comm]
     rfl
   have a:=h.2
   rw[z,Int.mul_one] at a
   have:1*B8 s<=t*B8 s:=Int.mul_le_mul_of_nonneg_right ht.1 (Int.le_of_lt (G9 _))
   have:=hb.2
   omega
theorem B8c:Sz 1:=⟨by decide,by
 have:B8 1<=B8 1000:=Z7 (by decide)
 have e:B8 1=10:=rfl
 omega⟩
theorem C4j{f:Int}(h0:0<=f)(h:f≠0)(h1:f<=10^60-1):Sz f:=by
 refine⟨by omega,?_⟩
 have:B8 60<=B8 1000:=Z7 (by decide)
 have e:B8 60=10^60:=by decide+kernel
 omega
end
theorem D3q(n:Nat)(h:1<=n):∃L:Nat,10^L<=n/\n<10^(L+1):=by
 induction n using Nat.strongRecOn with
 | ind n ih=>
   by_cases h10:n<10
   . exact⟨0,by simpa using h,by simpa using h10⟩
   . obtain⟨L,a,b⟩:=ih (n/10) (by omega) (by omega)
     refine⟨L+1,?_,?_⟩
     . rw[Nat.pow_succ];omega
     . rw[Nat.pow_succ];omega
theorem Y7g{n j:Nat}(h1:n<10^(j+1))(h2:10^j<=n):U4c (n:Int)=(j:Int)+1:=by
 unfold U4c
 have e:(Str.ofString (toString (n:Int))).length=(Nat.toDigits 10 n).length:=by
   have:=congrArg List.length (KIN.signs_num n)
   rw[List.length_map] at this
   rw[<-this];rfl
 rw[e]
 have a:(Nat.toDigits 10 n).length<=j+1:=digits10_le (by omega) h1
 have b:j+1<=(Nat.toDigits 10 n).length:=digits10_ge h2
 omega
theorem A0ag{c A B:Prop} [Decidable c] (h:¬c) (a:A):if(!decide c)=true then A else B:=by rw[decide_eq_false h];exact Z1 a
noncomputable def SzL (t:Int):Prop:=1<=t/\t<B8 500
theorem SzL.nat{t:Int}(h:SzL t):∃n:Nat,t=(n:Int)/\1<=n/\n<10^500:=by
 obtain⟨n,rfl⟩:=Int.eq_ofNat_of_zero_le (show 0<=t by have:=h.1;omega)
 exact⟨n,rfl,Int.ofNat_le.mp h.1,Int.ofNat_lt.mp h.2⟩
theorem SzL.sz{t:Int}(h:SzL t):Sz t:=⟨h.1,Int.lt_of_lt_of_le h.2 (Z7 (by decide))⟩
theorem SzL.log{t:Int}(h:SzL t):t.natAbs.log2<1920:=by
 obtain⟨n,rfl,_,hn⟩:=h.nat
 have:n<2^1670:=Nat.lt_of_lt_of_le (Nat.lt_of_lt_of_le hn (Nat.pow_le_pow_right (by decide) (by decide:500<=3*167))) (G5k 167)
 exact Nat.lt_trans (B5e (i:=(n:Int)) (k:=1670) (by rw[Int.natAbs_natCast];exact this) (by decide)) (by decide)
noncomputable abbrev A0t:Stmt:=(top 26)
noncomputable abbrev A9s:Stmt:=(top 42)
noncomputable abbrev B5g:Stmt:=(top 43)
noncomputable abbrev B4p:Stmt:=(top 49)
noncomputable abbrev B4m:Stmt:=(top 50)
deriving instance DecidableEq for Kd
noncomputable def Z8 (a b:Int):Int:=if a=b then 0 else 1
theorem B8d(a b:Int):0<=Z8 a b/\Z8 a b<=1:=by
 unfold Z8
 split<;>decide
noncomputable def A9j:Nm:=⟨.none,0,0,0⟩
noncomputable def C2v (v:Cv) (s i:Int):Nm:=⟨.plain,s,0,Y7 (A4n i (v.l-v.r+1)) v.m⟩
noncomputable def Y7b (v:Cv) (x1 x2:Nm) (i:Int):Nm×List Str:=
 if x1.k= .end_ then(if x2.k= .end_ then(A9j,["void"]) else(⟨.end_,Z8 x1.s x2.s,0,0⟩,[]))
 else if x2.k= .end_ then(C2v v (Z8 x1.s x2.s) i,[]) else if x1.f=0 then(A9j,["void"]) else(⟨.end_,Z8 x1.s x2.s,0,0⟩,["split"])
noncomputable def V9 (x1 x2:Nm):Prop:=x1.k= .plain/\x2.k= .plain/\x2.f≠0
instance(x1 x2:Nm):Decidable (V9 x1 x2):=by unfold V9;exact inferInstance
noncomputable def Two (CN:Addr) (H:Hp) (n1 n2:Addr) (x1 x2:Nm):Prop:=NumIs CN H n1 x1/\NumIs CN H n2 x2
theorem Two.same{CN:Addr}{H H':Hp}{n1 n2:Addr}{x1 x2:Nm}(h:Two CN H n1 n2 x1 x2)(e:Same H H'):Two CN H' n1 n2 x1 x2:=⟨h.1.same e,h.2.same e⟩
theorem A5t{CN:Addr}{H:Hp}{l n1 n2:Addr}{x1 x2:Nm}(h:Two CN H n1 n2 x1 x2)(hl:H l=some (.lst [.ref n1,.ref n2])):NumsAt CN H l [(n1,x1),(n2,x2)]:=⟨hl,List.forall_mem_cons.2 ⟨h.1,List.forall_mem_cons.2 ⟨h.2,by simp⟩⟩⟩
theorem Ends2.same{CN CC CT:Addr}{H H1:Hp}{c:Addr}{v:Cv}{b:Addr}{xs ys:List Str}{res:Nm×List Str}{Q:VK}{E:XK}(k:Ends2 CN CC CT H c v b xs ys res Q E)(s:Same H H1):Ends2 CN CC CT H1 c v b xs ys res Q E:=
 ⟨fun hn m a' H' x=>k.1 hn m a' H' ((Exc.of s).trans x),fun z hz a' d H' x=>k.2 z hz a' d H' ((Exc.of s).trans x)⟩
theorem Y8x(tr:List Str):hit tr []=none:=by
 unfold hit
 rw[List.find?_eq_none]
 simp
theorem Ends2.calm{CN CC CT:Addr}{H H1:Hp}{c n a:Addr}{v:Cv}{b:Addr}{xs ys:List Str}{x:Nm}{Q:VK}{E:XK}(k:Ends2 CN CC CT H c v b xs ys (x,[]) Q E)(ox:Y6 xs=xs)(s:Same H H1)(hc:CtxV CC H c v a b xs ys)(hn:NumIs CN H1 n x):Q (.ref n) H1:=
 k.1 (Y8x _) n a H1 (Exc.of s) (by show CtxV CC H1 c v a b (Y6 (xs++ [])) ys;rw[List.append_nil,ox];exact hc.same s) hn
section
variable{P:Program}{w:World}{K:Frag}{mg:Str ->Option Value}{base:Heap}
noncomputable def A5w (CN:Addr):Sp:=fun vs H Q _=>∃n1 n2 x1 x2,vs=[.ref n1,.ref n2]/\Two CN H n1 n2 x1 x2/\Q (.int (Z8 x1.s x2.s)) H
theorem V0e:FnScope ["one","other"] ["one","other"] (A3 A0t):=scK
theorem U5h{f CN:Addr}(D:Def K mg "unlike_sign" ["one","other"] A0t f fd)(N:Num K mg CN):FnOk P w K mg base (CX1 P w) 1 f fd ["one","other"] (A5w CN):=by
 refine D.F.okE V0e (fun vs H Q E h=>?_) (fun X cdv A outer s H vs Q E hX hr hx h=>?_)
 . obtain⟨n1,n2,x1,x2,rfl,_⟩:=h
   rfl
 . subst hX
   obtain⟨n1,n2,x1,x2,rfl,⟨⟨d1,e1⟩,⟨d2,e2⟩⟩,k⟩:=h
   refine⟨_,(A8 (B7 (A0a (D0 B4n (D5 (pv 0) rfl) (D5 (pv 1) rfl) (C8 _)) A7 A7))),?_⟩
   refine⟨_,rfl,n1,CN,d1,_,_,rfl,e1,N.cl,N.n2,D4v _ _ _ _,_,rfl,n2,CN,d2,_,_,rfl,e2,N.cl,N.n2,D4v _ _ _ _,rfl,_,rfl,?_⟩
   unfold Z8 at k
   by_cases h:x1.s=x2.s
   . rw[if_pos h] at k
     exact U2d (congrArg V.int h) k
   . rw[if_neg h] at k
     rw[decide_eq_false (fun z=>h (by injection z):¬V.int x1.s=V.int x2.s)]
     exact Z1 k
noncomputable def B8f (CN CC CT:Addr):Sp:=fun vs H Q E=>∃c v a b xs ys,vs=[.ref c]/\CtxV CC H c v a b xs ys/\xs.length<=900/\Ends2 CN CC CT H c v b xs ys (A9j,["void"]) Q E
theorem Z5p:FnScope ["context"] ["context"] (A3 A9s):=scK
theorem Y7h{f f1 CN CC CB CT CW:Addr}{cw:Wy ->Addr}(D:Def K mg "void" ["context"] A9s f fd)(dA:Def K mg "nothing" [] V8 f1 fd1)(dB:FnOk P w K mg base (CX1 P w) 3 f1 fd1 [] (Z2 CN))(C:CtxM P w K mg base CC CB CT CW cw):FnOk P w K mg base (CX1 P w) 4 f fd ["context"] (B8f CN CC CT):=by
 refine D.F.okE Z5p (fun vs H Q E h=>?_) (fun X cdv A outer s H vs Q E hX hr hx h=>?_)
 . obtain⟨c,v,a,b,xs,ys,rfl,_⟩:=h
   rfl
 . subst hX
   obtain⟨c,v,a,b,xs,ys,rfl,hc,lx,k⟩:=h
   obtain⟨fR,fdR,mR,gR,bR⟩:=C.raised
   refine⟨_,(A6 (V5 (C2f (pv 0) C.c.cl mR gR hr bR .nil hx (A1 (U1 (A1 C9 A5)) A5)))
     (A8 (B7 (A5m dA dB hr hx)))),?_⟩
   have z1:1<=sizeLine:=D8 (by decide)
   obtain⟨dx,e⟩:=hc.ins
   refine⟨_,rfl,c,dx,_,rfl,e,A1s _ _ _ _ _ _,z1,fun p np=>?_⟩
   have u:=Same.upd (o:= .lst [.str "void"]) np
   refine⟨c,v.r,v.y,v.l,v.m,a,b,xs,ys,_,rfl,hc.same u,by omega,.inl ⟨p,["void"],rfl,B5,by decide,by decide+kernel,fun hn a' H' x na ct=>?_,fun t ht a' d H' x na ct nd ed=>?_⟩⟩
   . exact⟨rfl,fun n H2 nn s2 num=>k.1 hn n a' H2 ((Exc.of u).trans (x.trans (Exc.of s2))) (CtxAt.same ct s2) num⟩
   . exact k.2 t ht a' d H' ((Exc.of u).trans x) ct ed
noncomputable def U1t (CN CC CT:Addr):Sp:=fun vs H Q E=>∃c v a b xs ys,∃sg:Int,vs=[.ref c,.int sg]/\CtxV CC H c v a b xs ys/\xs.length<=900/\0<=sg/\sg<=1/\Ends2 CN CC CT H c v b xs ys (⟨.end_,sg,0,0⟩,["split"]) Q E
theorem Y9d:FnScope ["context","sign"] ["context","sign"] (A3 B5g):=scK
theorem V1d{f f1 CN CC CB CB' CT CW:Addr}{cw:Wy ->Addr}(D:Def K mg "split_to_end" ["context","sign"] B5g f fd)(dA:Def K mg "end" ["sign"] C8a f1 fd1)(dB:FnOk P w K mg base (CX1 P w) 3 f1 fd1 ["sign"] (G5w K CN CB'))(C:CtxM P w K mg base CC CB CT CW cw):FnOk P w K mg base (CX1 P w) 4 f fd ["context","sign"] (U1t CN CC CT):=by
 refine D.F.okE Y9d (fun vs H Q E h=>?_) (fun X cdv A outer s H vs Q E hX hr hx h=>?_)
 . obtain⟨c,v,a,b,xs,ys,sg,rfl,_⟩:=h
   rfl
 . subst hX
   obtain⟨c,v,a,b,xs,ys,sg,rfl,hc,lx,s0,s1,k⟩:=h
   obtain⟨fR,fdR,mR,gR,bR⟩:=C.raised
   refine⟨_,(A6 (V5 (C2f (pv 0) C.c.cl mR gR hr bR .nil hx (A1 (U1 (A1 C9 A5)) A5)))
     (A8 (B7 (C6 dA dB hr hx (A1 (pv 1) A5))))),?_⟩
   have z1:1<=sizeLine:=D8 (by decide)
   obtain⟨dx,e⟩:=hc.ins
   refine⟨_,rfl,c,dx,_,rfl,e,A1s _ _ _ _ _ _,z1,fun p np=>?_⟩
   have u:=Same.upd (o:= .lst [.str "split"]) np
   refine⟨c,v.r,v.y,v.l,v.m,a,b,xs,ys,_,rfl,hc.same u,by omega,.inl ⟨p,["split"],rfl,B5,by decide,by decide+kernel,fun hn a' H' x na ct=>?_,fun t ht a' d H' x na ct nd ed=>?_⟩⟩
   . exact⟨_,rfl,_,rfl,.inl ⟨⟨sg,rfl,s0,s1⟩,fun n H2 nn s2 num=>k.1 hn n a' H2 ((Exc.of u).trans (x.trans (Exc.of s2))) (CtxAt.same ct s2) num⟩⟩
   . exact k.2 t ht a' d H' ((Exc.of u).trans x) ct ed
noncomputable def C3k (CN:Addr):Sp:=fun vs H Q _=>∃n1 n2 x1 x2,vs=[.ref n1,.ref n2]/\Two CN H n1 n2 x1 x2/\Q (.bl (decide (V9 x1 x2))) H
theorem Z4e:FnScope ["one","other"] ["one","other"] (A3 B4p):=scK
theorem C2u{f CN:Addr}(D:Def K mg "has_plain_quotient" ["one","other"] B4p f fd)(N:Num K mg CN):FnOk P w K mg base (CX1 P w) 1 f fd ["one","other"] (C3k CN):=by
 refine D.F.okE Z4e (fun vs H Q E h=>?_) (fun X cdv A outer s H vs Q E hX hr hx h=>?_)
 . obtain⟨n1,n2,x1,x2,rfl,_⟩:=h
   rfl
 . subst hX
   obtain⟨n1,n2,x1,x2,rfl,⟨⟨d1,e1⟩,⟨d2,e2⟩⟩,k⟩:=h
   refine⟨_,(A8 (B7 (A6r (J0 G4 (D5 (pv 0) rfl) C9 (C8 _)) (A6r (J0 G4 (D5 (pv 1) rfl) C9 (C8 _)) (A5h (J0 B4n (D5 (pv 1) rfl) A7 (C8 _))))))),?_⟩
   refine⟨_,rfl,n1,CN,d1,_,_,rfl,e1,N.cl,N.n1,B7u _ _ _ _,rfl,_,rfl,U9 (fun h=>?_) (fun h=>?_)⟩
   . have h1:x1.k= .plain:=eqS (b:= .plain) h
     refine⟨_,rfl,n2,CN,d2,_,_,rfl,e2,N.cl,N.n1,B7u _ _ _ _,rfl,_,rfl,U9 (fun h'=>?_) (fun h'=>?_)⟩
     . have h2:x2.k= .plain:=eqS (b:= .plain) h'
       refine⟨_,rfl,n2,CN,d2,_,_,rfl,e2,N.cl,N.n3,C2s _ _ _ _,rfl,?_⟩
       by_cases hf:x2.f=0
       . rw[decide_eq_false (fun z=>z.2.2 hf:¬V9 x1 x2)] at k
         rw[decide_eq_true (congrArg V.int hf)]
         exact k
       . have hp:V9 x1 x2:=⟨h1,h2,hf⟩
         rw[decide_eq_true hp] at k
         rw[decide_eq_false (fun z=>hf (V.int.inj z):¬V.int x2.f=V.int 0)]
         exact k
     . rw[decide_eq_false (fun z=>h' (by rw[z.2.1];rfl):¬V9 x1 x2)] at k
       exact k
   . rw[decide_eq_false (fun z=>h (by rw[z.1];rfl):¬V9 x1 x2)] at k
     exact k
noncomputable def C3y (CN CC CT:Addr):Sp:=fun vs H Q E=>∃c v a b xs ys n1 n2 x1 x2,∃i:Int,vs=[.ref c,.ref n1,.ref n2,.int i]/\CtxV CC H c v a b xs ys/\v.Ok/\xs.length<=900/\Y6 xs=xs/\Two CN H n1 n2 x1 x2/\Ends2 CN CC CT H c v b xs ys (Y7b v x1 x2 i) Q E
theorem scOddQ:FnScope ["context","one","other","ideal","sign"] ["context","one","other","ideal"] (A3 B4m):=scK
theorem Y8g{f f1 f2 f3 f4 f5 CN CC CB' CT:Addr}(D:Def K mg "odd_quotient" ["context","one","other","ideal"] B4m f fd)(dC:Def K mg "unlike_sign" ["one","other"] A0t f1 fd1)(dD:FnOk P w K mg base (CX1 P w) 1 f1 fd1 ["one","other"] (A5w CN))
   (dA:Def K mg "void" ["context"] A9s f2 fd2) (dB:FnOk P w K mg base (CX1 P w) 4 f2 fd2 ["context"] (B8f CN CC CT)) (dE:Def K mg "end" ["sign"] C8a f3 fd3) (dF:FnOk P w K mg base (CX1 P w) 3 f3 fd3 ["sign"] (G5w K CN CB'))
   (dG:Def K mg "nought" ["context","sign","ideal"] Z5 f4 fd4) (dH:FnOk P w K mg base (CX1 P w) 3 f4 fd4 ["context","sign","ideal"] (A3u CN CC)) (dJ:Def K mg "split_to_end" ["context","sign"] B5g f5 fd5) (dL:FnOk P w K mg base (CX1 P w) 4 f5 fd5 ["context","sign"] (U1t CN CC CT)) (N:Num K mg CN):
   FnOk P w K mg base (CX1 P w) 5 f fd ["context","one","other","ideal"] (C3y CN CC CT):=by
 refine D.F.okE scOddQ (fun vs H Q E h=>?_) (fun X cdv A outer s H vs Q E hX hr hx h=>?_)
 . obtain⟨c,v,a,b,xs,ys,n1,n2,x1,x2,i,rfl,_⟩:=h
   rfl
 . subst hX
   obtain⟨c,v,a,b,xs,ys,n1,n2,x1,x2,i,rfl,hc,ok,lx,ox,tw,k⟩:=h
   refine⟨_,(A6 (D7 (i:=4) scOddQ.nd rfl (Or.inl rfl) (C6 dC dD hr hx (A1 (pv 1) (A1 (pv 2) A5))))
     (A6 (G0 (D0 G4 (D5 (pv 1) rfl) C9 (C8 _)) (A8 (B7 (A0a (D0 G4 (D5 (pv 2) rfl) C9 (C8 _)) (C6 dA dB hr hx (A1 (pv 0) A5)) (C6 dE dF hr hx (A1 (pv 4) A5))))) D3)
     (A6 (G0 (D0 G4 (D5 (pv 2) rfl) C9 (C8 _)) (A8 (B7 (C6 dG dH hr hx (A1 (pv 0) (A1 (pv 4) (A1 (pv 3) A5)))))) D3)
     (A8 (B7 (A0a (D0 G4 (D5 (pv 1) rfl) A7 (C8 _)) (C6 dA dB hr hx (A1 (pv 0) A5)) (C6 dJ dL hr hx (A1 (pv 0) (A1 (pv 4) A5))))))))),?_⟩
   have us:=B8d x1.s x2.s
   unfold Y7b at k
   refine⟨_,rfl,_,rfl,n1,n2,x1,x2,rfl,tw,?_⟩
   obtain⟨⟨d1,e1⟩,⟨d2,e2⟩⟩:=id tw
   refine⟨_,rfl,n1,CN,d1,_,_,rfl,e1,N.cl,N.n1,B7u _ _ _ _,rfl,_,rfl,U9 (fun h=>?_) (fun h=>?_)⟩
   . have h1:x1.k= .end_:=eqS (b:= .end_) h
     rw[if_pos h1] at k
     refine⟨_,rfl,n2,CN,d2,_,_,rfl,e2,N.cl,N.n1,B7u _ _ _ _,rfl,_,rfl,U9 (fun h'=>?_) (fun h'=>?_)⟩
     . have h2:x2.k= .end_:=eqS (b:= .end_) h'
       rw[if_pos h2] at k
       exact⟨_,rfl,c,v,a,b,xs,ys,rfl,hc,lx,k⟩
     . have h2:x2.k≠ .end_:=neS (b:= .end_) h'
       rw[if_neg h2] at k
       exact⟨_,rfl,_,rfl,.inl ⟨⟨_,rfl,us.1,us.2⟩,fun n H' nn s' num=>k.calm ox s' hc num⟩⟩
   . have h1:x1.k≠ .end_:=neS (b:= .end_) h
     rw[if_neg h1] at k
     refine⟨_,rfl,n2,CN,d2,_,_,rfl,e2,N.cl,N.n1,B7u _ _ _ _,rfl,_,rfl,U9 (fun h'=>?_) (fun h'=>?_)⟩
     . have h2:x2.k= .end_:=eqS (b:= .end_) h'
       rw[if_pos h2] at k
       exact⟨_,rfl,_,rfl,_,rfl,c,v,a,b,xs,ys,Z8 x1.s x2.s,i,rfl,hc,fun n H' nn s' num=>k.calm ox s' hc num⟩
     . have h2:x2.k≠ .end_:=neS (b:= .end_) h'
       rw[if_neg h2] at k
       refine⟨_,rfl,n1,CN,d1,_,_,rfl,e1,N.cl,N.n3,C2s _ _ _ _,rfl,_,rfl,U9 (fun h3=>?_) (fun h3=>?_)⟩
       . have h3:x1.f=0:=V.int.inj h3
         rw[if_pos h3] at k
         exact⟨_,rfl,c,v,a,b,xs,ys,rfl,hc,lx,k⟩
       . have h3:¬x1.f=0:=fun z=>h3 (congrArg V.int z)
         rw[if_neg h3] at k
         exact⟨_,rfl,_,rfl,c,v,a,b,xs,ys,_,rfl,hc,lx,us.1,us.2,k⟩
theorem C3c{n1 n2:Addr}{x1 x2:Nm}:([(n1,x1),(n2,x2)].any fun p=>decide (p.2.k.str=("none":Str)))=decide (x1.k= .none\/x2.k= .none):=by
 have q:∀k:Kd,decide (k.str=("none":Str))=decide (k= .none):=fun k=>by cases k<;>decide+kernel
 simp[q]
end
noncomputable abbrev B6w:Stmt:=(top 46)
noncomputable def A3q (v:Cv) (x1 x2:Nm) (L:Int):Nm×List Str:=
 if x1.k= .none\/x2.k= .none then(A9j,[])
 else if V9 x1 x2 then(if x1.f=0 then(C2v v (Z8 x1.s x2.s) (x1.p-x2.p),[]) else Z6 v (Z8 x1.s x2.s) x1.f x2.f (x1.p-x2.p) L (x1.p-x2.p))
 else Y7b v x1 x2 (v.l-v.r+1)
section
variable{P:Program}{w:World}{K:Frag}{mg:Str ->Option Value}{base:Heap}
noncomputable def V2n (CN CC CT:Addr):Sp:=fun vs H Q E=>∃c v a b xs ys n1 n2 x1 x2 L,vs=[.ref c,.ref n1,.ref n2]/\CtxV CC H c v a b xs ys/\v.Ok/\xs.length<=900/\Y6 xs=xs/\Two CN H n1 n2 x1 x2/\x1.Ok/\x2.Ok/\
 (V9 x1 x2 ->x1.f≠0 ->A0k x1.f x2.f (x1.p-x2.p-L))/\Ends2 CN CC CT H c v b xs ys (A3q v x1 x2 L) Q E
theorem scOver:FnScope ["context","one","other","sign","ideal"] ["context","one","other"] (A3 B6w):=scK
theorem Y8b{f f1 f2 f3 f4 f5 f6 f7 f8 fR CN CC CB CB' CT CW CR CE:Addr}{cw:Wy ->Addr}{fd fd1 fd2 fd3 fd4 fd5 fd6 fd7 fd8 fdR:FuncData}{d0:Value}{gP:List Value ->List Value ->List Value}{vP:List V ->List V ->List V}(D:Def K mg "over" ["context","one","other"] B6w f fd)(dA:Def K mg "need_numbers" ["things"] A0c f1 fd1)(dB:FnOk P w K mg base (CX1 P w) 2 f1 fd1 ["things"] (A3z K CN CB'))
   (dC:Def K mg "some_of_kind" ["numbers","kind"] A2u f2 fd2) (dD:FnOk P w K mg base (CX1 P w) 1 f2 fd2 ["numbers","kind"] (A6u CN)) (dE:Def K mg "has_plain_quotient" ["one","other"] B4p f3 fd3) (dF:FnOk P w K mg base (CX1 P w) 1 f3 fd3 ["one","other"] (C3k CN))
   (dG:Def K mg "odd_quotient" ["context","one","other","ideal"] B4m f4 fd4) (dH:FnOk P w K mg base (CX1 P w) 5 f4 fd4 ["context","one","other","ideal"] (C3y CN CC CT)) (dJ:Def K mg "unlike_sign" ["one","other"] A0t f5 fd5) (dL:FnOk P w K mg base (CX1 P w) 1 f5 fd5 ["one","other"] (A5w CN)) (dM:Def K mg "nought" ["context","sign","ideal"] Z5 f6 fd6) (dN:FnOk P w K mg base (CX1 P w) 3 f6 fd6 ["context","sign","ideal"] (A3u CN CC))
   (dP:Def K mg "settled" ["context","sign","exact","ideal"] Z4 f7 fd7) (dQ:FnOk P w K mg base (CX1 P w) 6 f7 fd7 ["context","sign","exact","ideal"] (A3n CN CC CT CR)) (dS:Def K mg "nothing" [] V8 f8 fd8) (dU:FnOk P w K mg base (CX1 P w) 3 f8 fd8 [] (Z2 CN))
   (C:CtxM P w K mg base CC CB CT CW cw) (N:Num K mg CN) (MR:MakeR P w K mg base CR fR fdR d0 gP vP) (R:RatC K mg CR CE):FnOk P w K mg base (CX1 P w) 7 f fd ["context","one","other"] (V2n CN CC CT):=by
 refine D.F.okE scOver (fun vs H Q E h=>?_) (fun X cdv A outer s H vs Q E hX hr hx h=>?_)
 . obtain⟨c,v,a,b,xs,ys,n1,n2,x1,x2,L,rfl,_⟩:=h
   rfl
 . subst hX
   obtain⟨c,v,a,b,xs,ys,n1,n2,x1,x2,L,rfl,hc,ok,lx,ox,tw,o1,o2,hL,k⟩:=h
   obtain⟨fL,fdL,mL,gL,bL⟩:=C.low
   refine⟨_,(A6 (V5 (C6 dA dB hr hx (A1 (U1 (A1 (pv 1) (A1 (pv 2) A5))) A5)))
     (A6 (G0 (V4 (C6 dC dD hr hx (A1 (U1 (A1 (pv 1) (A1 (pv 2) A5))) (A1 C9 A5)))) (A8 (B7 (A5m dS dU hr hx))) D3)
     (A6 (G0 (A1h (V4 (C6 dE dF hr hx (A1 (pv 1) (A1 (pv 2) A5))))) (A8 (B7 (C6 dG dH hr hx (A1 (pv 0) (A1 (pv 1) (A1 (pv 2) (A1 (A1j (pv 0) C.c.cl mL gL hr bL .nil hx) A5))))))) D3)
     (A6 (D7 (i:=3) scOver.nd rfl (Or.inl rfl) (C6 dJ dL hr hx (A1 (pv 1) (A1 (pv 2) A5))))
     (A6 (D7 (i:=4) scOver.nd rfl (Or.inl rfl) (C7 V1 (D5 (pv 1) rfl) (D5 (pv 2) rfl)))
     (A6 (G0 (D0 G4 (D5 (pv 1) rfl) A7 (C8 _)) (A8 (B7 (C6 dM dN hr hx (A1 (pv 0) (A1 (pv 3) (A1 (pv 4) A5)))))) D3)
     (A8 (B7 (C6 dP dQ hr hx (A1 (pv 0) (A1 (pv 3) (A1 (A5v MR.m MR.g hr R.g MR.b3 .nil hx (A1 (D5 (pv 1) rfl) (A1 (D5 (pv 2) rfl) (A1 (pv 4) A5)))) (A1 (pv 4) A5))))))))))))),?_⟩
   have z2:2<=sizeLine:=D8 (by decide)
   unfold A3q at k
   refine⟨_,rfl,_,rfl,z2,fun l nl=>?_⟩
   have u:=Same.upd (o:= .lst [.ref n1,.ref n2]) nl
   refine⟨l,[(n1,x1),(n2,x2)],rfl,(A5t (tw.same u) B5).n,.inl ⟨B5,?_⟩⟩
   refine⟨_,rfl,_,rfl,z2,fun l2 nl2=>?_⟩
   have u2:=u.trans (Same.upd (o:= .lst [.ref n1,.ref n2]) nl2)
   refine⟨l2,_,_,rfl,A5t (tw.same u2) B5,(by show 2<=1000;decide),fun H3 s3=>⟨_,rfl,?_⟩⟩
   rw[C3c]
   have sm3:=u2.trans s3
   have tw3:=tw.same sm3
   have hc3:=hc.same sm3
   refine U9 (fun hn=>?_) (fun hn=>?_)
   . rw[if_pos hn] at k
     exact⟨rfl,fun n H' nn s' num=>k.calm ox (sm3.trans s') hc num⟩
   rw[if_neg hn] at k
   refine⟨_,rfl,_,rfl,n1,n2,x1,x2,rfl,tw3,_,rfl,?_⟩
   by_cases hq:V9 x1 x2
   . rw[if_pos hq] at k
     rw[decide_eq_true hq]
     refine Y5 ?_
     refine⟨_,rfl,_,rfl,n1,n2,x1,x2,rfl,tw3,?_⟩
     obtain⟨⟨d1,e1⟩,⟨d2,e2⟩⟩:=id tw3
     refine⟨_,rfl,n1,CN,d1,_,_,rfl,e1,N.cl,N.n4,B5c _ _ _ _,_,rfl,n2,CN,d2,_,_,rfl,e2,N.cl,N.n4,B5c _ _ _ _,_,_,rfl,rfl,?_⟩
     refine⟨_,rfl,n1,CN,d1,_,_,rfl,e1,N.cl,N.n3,C2s _ _ _ _,rfl,_,rfl,U9 (fun hf=>?_) (fun hf=>?_)⟩
     . have hf:x1.f=0:=V.int.inj hf
       rw[if_pos hf] at k
       exact⟨_,rfl,_,rfl,_,rfl,c,v,a,b,xs,ys,Z8 x1.s x2.s,x1.p-x2.p,rfl,hc3,fun n H' nn s' num=>k.calm ox (sm3.trans s') hc num⟩
     . have hf:¬x1.f=0:=fun z=>hf (congrArg V.int z)
       rw[if_neg hf] at k
       have f10:=o1.f0;have f11:=o1.f1;have f20:=o2.f0;have f21:=o2.f1
       have p10:=o1.p0;have p11:=o1.p1;have p20:=o2.p0;have p21:=o2.p1
       have z1:Sz x1.f:=C4j f10 hf f11
       have z3:Sz x2.f:=C4j f20 hq.2.2 f21
       have hl:=hL hq hf
       have ls:=B5f z1 z3 hl
       have fn:=C3n (v:=v) ok ls.1 ls.2 (by omega) (by omega)
       refine⟨_,rfl,_,rfl,_,rfl,n1,CN,d1,_,_,rfl,e1,N.cl,N.n3,C2s _ _ _ _,_,rfl,n2,CN,d2,_,_,rfl,e2,N.cl,N.n3,C2s _ _ _ _,_,rfl,fun q dq m1 m2 me=>V1r m1 m2 me fun H4 s4 ra=>⟨rfl,?_⟩⟩
       have sm4:=sm3.trans s4
       have us:=B8d x1.s x2.s
       exact⟨_,rfl,c,v,a,b,xs,ys,q,x1.f,x2.f,x1.p-x2.p,L,Z8 x1.s x2.s,x1.p-x2.p,rfl,hc.same sm4,ok,lx,ra,z1,z3,hl,fn.1,fn.2,us.1,us.2,k.same sm4⟩
   . rw[if_neg hq] at k
     rw[decide_eq_false hq]
     refine Z1 ?_
     obtain⟨dx,e⟩:=hc3.ins
     refine⟨_,rfl,_,rfl,_,rfl,_,rfl,c,dx,_,rfl,e,A5k _ _ _ _ _ _,c,v.r,v.y,v.l,v.m,a,b,_,_,rfl,hc3,?_⟩
     exact⟨c,v,a,b,xs,ys,n1,n2,x1,x2,_,rfl,hc3,ok,lx,ox,tw3,k.same sm3⟩
end
noncomputable abbrev A0s:Stmt:=(top 27)
noncomputable abbrev Y2:Stmt:=(top 51)
noncomputable def U3 (x1 x2:Nm):Int:=Y7 x1.p x2.p
noncomputable def U0 (x:Nm) (q:Int):Int:=x.f*B8 (x.p-q)
noncomputable def D2n (x:Nm) (q:Int):Int:=if x.s=1 then -U0 x q else U0 x q
noncomputable def J9 (x1 x2:Nm):Int:=U0 x1 (U3 x1 x2)/U0 x2 (U3 x1 x2)
theorem A9w{x:Nm}{q:Int}(ok:x.Ok):0<=U0 x q:=Int.mul_nonneg ok.f0 (Int.le_of_lt (G9 _))
theorem A6b{x:Nm}{q:Int}(ok:x.Ok):(if D2n x q<0 then -D2n x q else D2n x q)=U0 x q:=by
 have h:=A9w (q:=q) ok
 unfold D2n
 by_cases hs:x.s=1
 . rw[if_pos hs]
   split<;>omega
 . rw[if_neg hs]
   split<;>omega
theorem D2q(x1 x2:Nm):U3 x1 x2<=x1.p/\U3 x1 x2<=x2.p/\(U3 x1 x2=x1.p\/U3 x1 x2=x2.p):=by
 unfold U3 Y7
 split<;>omega
theorem C2t{x:Nm}{q:Int}(ok:x.Ok)(hf:x.f≠0)(h:x.p-q<=400):SzL (U0 x q):=by
 have tp:=G9 (x.p-q)
 have f0:=ok.f0
 refine⟨Int.mul_pos (by omega) tp,?_⟩
 have e:B8 (x.p-q)<=B8 400:=Z7 (by omega)
 have a:x.f*B8 (x.p-q)<=(10^60-1)*B8 400:=Int.mul_le_mul ok.f1 e (Int.le_of_lt tp) (by decide+kernel)
 exact Int.lt_of_le_of_lt a (by decide+kernel)
section
variable{P:Program}{w:World}{K:Frag}{mg:Str ->Option Value}{base:Heap}
noncomputable def B3p (CN:Addr):Sp:=fun vs H Q _=>∃n x,∃q:Int,vs=[.ref n,.int q]/\NumIs CN H n x/\x.Ok/\q<=x.p/\x.p-q<=400/\Q (.int (D2n x q)) H
theorem scWholeAt:FnScope ["number","power","size"] ["number","power"] (A3 A0s):=scK
theorem J0z{f f1 CN:Addr}(D:Def K mg "whole_at" ["number","power"] A0s f fd)(dA:Def K mg "ten_to" ["count"] Z9 f1 fd1)(dB:FnOk P w K mg base (CX1 P w) 2 f1 fd1 ["count"] A1u)(N:Num K mg CN):FnOk P w K mg base (CX1 P w) 3 f fd ["number","power"] (B3p CN):=by
 refine D.F.okE scWholeAt (fun vs H Q E h=>?_) (fun X cdv A outer s H vs Q E hX hr hx h=>?_)
 . obtain⟨n,x,q,rfl,_⟩:=h
   rfl
 . subst hX
   obtain⟨n,x,q,rfl,num,ok,h0,h1,k⟩:=h
   refine⟨_,(A6 (D7 (i:=2) scWholeAt.nd rfl (Or.inl rfl) (C7 V0 (D5 (pv 0) rfl) (C6 dA dB hr hx (A1 (C7 V1 (D5 (pv 0) rfl) (pv 1)) A5))))
     (A8 (B7 (A0a (D0 G4 (D5 (pv 0) rfl) A7 (C8 _)) (D2v B7z (pv 2)) (pv 2))))),?_⟩
   obtain⟨dn,en⟩:=id num
   have mul:IntMulOk x.f (B8 (x.p-q)):=by
     by_cases z:x.f=0
     . rw[z];exact CMul.ok (.inl ⟨by decide,by decide⟩)
     . exact J1j (C4j ok.f0 z ok.f1) (by omega)
   refine⟨_,rfl,n,CN,dn,_,_,rfl,en,N.cl,N.n3,C2s _ _ _ _,_,rfl,n,CN,dn,_,_,rfl,en,N.cl,N.n4,B5c _ _ _ _,_,rfl,_,_,rfl,rfl,(x.p-q).toNat,(by rw[Int.toNat_of_nonneg (by omega)];rfl),by omega,_,_,rfl,rfl,mul,?_⟩
   unfold D2n at k
   refine⟨_,rfl,n,CN,dn,_,_,rfl,en,N.cl,N.n2,D4v _ _ _ _,rfl,_,rfl,U9 (fun h=>?_) (fun h=>?_)⟩
   . rw[if_pos (V.int.inj h)] at k
     exact⟨_,rfl,_,rfl,k⟩
   . rw[if_neg fun z=>h (congrArg V.int z)] at k
     exact⟨_,rfl,k⟩
noncomputable def A2f (CN:Addr):Sp:=fun vs H Q _=>∃n1 n2 x1 x2,vs=[.ref n1,.ref n2]/\Two CN H n1 n2 x1 x2/\x1.Ok/\x2.Ok/\x2.f≠0/\Q (.int (J9 x1 x2)) H
theorem scWholePart:FnScope ["one","other","low"] ["one","other"] (A3 Y2):=scK
theorem D5b{f f1 CN:Addr}(D:Def K mg "whole_part" ["one","other"] Y2 f fd)(dA:Def K mg "whole_at" ["number","power"] A0s f1 fd1)(dB:FnOk P w K mg base (CX1 P w) 3 f1 fd1 ["number","power"] (B3p CN))(N:Num K mg CN)(O:Own mg):FnOk P w K mg base (CX1 P w) 4 f fd ["one","other"] (A2f CN):=by
 refine D.F.okE scWholePart (fun vs H Q E h=>?_) (fun X cdv A outer s H vs Q E hX hr hx h=>?_)
 . obtain⟨n1,n2,x1,x2,rfl,_⟩:=h
   rfl
 . subst hX
   obtain⟨n1,n2,x1,x2,rfl,tw,o1,o2,hf,k⟩:=h
   refine⟨_,(A6 (D7 (i:=2) scWholePart.nd rfl (Or.inl rfl) (J1 (A6a rfl) (by rfl) O.min_ boot_min (A1 (D5 (pv 0) rfl) (A1 (D5 (pv 1) rfl) A5))))
     (A8 (B7 (C7 U6 (J1 A1z (by rfl) O.abs_ boot_abs (A1 (C6 dA dB hr hx (A1 (pv 0) (A1 (pv 2) A5))) A5)) (J1 A1z (by rfl) O.abs_ boot_abs (A1 (C6 dA dB hr hx (A1 (pv 1) (A1 (pv 2) A5))) A5)))))),?_⟩
   obtain⟨⟨d1,e1⟩,⟨d2,e2⟩⟩:=id tw
   have p10:=o1.p0;have p11:=o1.p1;have p20:=o2.p0;have p21:=o2.p1
   obtain⟨b1,b2,b3⟩:=D2q x1 x2
   refine⟨_,rfl,n1,CN,d1,_,_,rfl,e1,N.cl,N.n4,B5c _ _ _ _,_,rfl,n2,CN,d2,_,_,rfl,e2,N.cl,N.n4,B5c _ _ _ _,_,_,rfl,?_⟩
   show Z5f _ _ _ [some (V.ref n1),some (V.ref n2),some (V.int (U3 x1 x2))] H
   have hs:=C2t (q:=U3 x1 x2) o2 hf (by omega)
   refine⟨_,rfl,_,rfl,n1,x1,U3 x1 x2,rfl,tw.1,o1,b1,by omega,_,rfl,_,rfl,_,rfl,n2,x2,U3 x1 x2,rfl,tw.2,o2,b2,by omega,_,rfl,_,_,rfl,rfl,?_,?_⟩
   . rw[A6b o2]
     exact⟨hs.1,Nat.lt_trans hs.log (by decide)⟩
   . rw[A6b o1,A6b o2]
     exact k
end
noncomputable abbrev Y4:Stmt:=(top 47)
noncomputable def woR (v:Cv) (x1 x2:Nm) (L:Int):Nm×List Str:=
 if x1.k= .none\/x2.k= .none then(A9j,[])
 else if V9 x1 x2 then
   (if J9 x1 x2>=B8 v.r then(A9j,["void"]) else if J9 x1 x2=0 then(C2v v (Z8 x1.s x2.s) (A4n (x1.p-x2.p) 0),[]) else Z6 v (Z8 x1.s x2.s) (J9 x1 x2) 1 0 L (A4n (x1.p-x2.p) 0))
 else Y7b v x1 x2 0
noncomputable def Z4u (x1 x2:Nm) (L:Int):Prop:=V9 x1 x2 ->J9 x1 x2≠0 ->A0k (J9 x1 x2) 1 (0-L)
theorem D5a{x1 x2:Nm}(o1:x1.Ok)(o2:x2.Ok):0<=J9 x1 x2/\J9 x1 x2<B8 500:=by
 have p10:=o1.p0;have p11:=o1.p1;have p20:=o2.p0;have p21:=o2.p1
 obtain⟨b1,b2,b3⟩:=D2q x1 x2
 have w0:0<=J9 x1 x2:=Int.ediv_nonneg (A9w o1) (A9w o2)
 have wl:J9 x1 x2<=U0 x1 (U3 x1 x2):=Int.ediv_le_self _ (A9w o1)
 refine⟨w0,Int.lt_of_le_of_lt wl ?_⟩
 by_cases z:x1.f=0
 . unfold U0;rw[z,Int.zero_mul];exact G9 _
 . exact(C2t o1 z (by omega)).2
theorem max0(i:Int):(if(0:Int)>i then 0 else i)=A4n i 0:=rfl
section
variable{P:Program}{w:World}{K:Frag}{mg:Str ->Option Value}{base:Heap}
noncomputable def C2b (CN CC CT:Addr):Sp:=fun vs H Q E=>∃c v a b xs ys n1 n2 x1 x2 L,vs=[.ref c,.ref n1,.ref n2]/\CtxV CC H c v a b xs ys/\v.Ok/\xs.length<=900/\Y6 xs=xs/\Two CN H n1 n2 x1 x2/\x1.Ok/\x2.Ok/\Z4u x1 x2 L/\Ends2 CN CC CT H c v b xs ys (woR v x1 x2 L) Q E
theorem scWholeOver:FnScope ["context","one","other","whole","sign","ideal"] ["context","one","other"] (A3 Y4):=scK
theorem D4t{f f1 f2 f3 f4 f5 f6 f7 f8 f9 g1 g2 fR CN CC CB CB' CT CW CR CE:Addr}{cw:Wy ->Addr}{fd fd1 fd2 fd3 fd4 fd5 fd6 fd7 fd8 fd9 gd1 gd2 fdR:FuncData}{d0:Value}{gP:List Value ->List Value ->List Value}{vP:List V ->List V ->List V}(D:Def K mg "whole_over" ["context","one","other"] Y4 f fd)(dA:Def K mg "need_numbers" ["things"] A0c f1 fd1)(dB:FnOk P w K mg base (CX1 P w) 2 f1 fd1 ["things"] (A3z K CN CB'))
   (dC:Def K mg "some_of_kind" ["numbers","kind"] A2u f2 fd2) (dD:FnOk P w K mg base (CX1 P w) 1 f2 fd2 ["numbers","kind"] (A6u CN)) (dE:Def K mg "has_plain_quotient" ["one","other"] B4p f3 fd3) (dF:FnOk P w K mg base (CX1 P w) 1 f3 fd3 ["one","other"] (C3k CN))
   (dG:Def K mg "odd_quotient" ["context","one","other","ideal"] B4m f4 fd4) (dH:FnOk P w K mg base (CX1 P w) 5 f4 fd4 ["context","one","other","ideal"] (C3y CN CC CT)) (dJ:Def K mg "unlike_sign" ["one","other"] A0t f5 fd5) (dL:FnOk P w K mg base (CX1 P w) 1 f5 fd5 ["one","other"] (A5w CN)) (dM:Def K mg "nought" ["context","sign","ideal"] Z5 f6 fd6) (dN:FnOk P w K mg base (CX1 P w) 3 f6 fd6 ["context","sign","ideal"] (A3u CN CC))
   (dP:Def K mg "settled" ["context","sign","exact","ideal"] Z4 f7 fd7) (dQ:FnOk P w K mg base (CX1 P w) 6 f7 fd7 ["context","sign","exact","ideal"] (A3n CN CC CT CR)) (dS:Def K mg "nothing" [] V8 f8 fd8) (dU:FnOk P w K mg base (CX1 P w) 3 f8 fd8 [] (Z2 CN)) (dW:Def K mg "void" ["context"] A9s f9 fd9) (dX:FnOk P w K mg base (CX1 P w) 4 f9 fd9 ["context"] (B8f CN CC CT))
   (dY:Def K mg "whole_part" ["one","other"] Y2 g1 gd1) (dZ:FnOk P w K mg base (CX1 P w) 4 g1 gd1 ["one","other"] (A2f CN)) (gA:Def K mg "ten_to" ["count"] Z9 g2 gd2) (gB:FnOk P w K mg base (CX1 P w) 2 g2 gd2 ["count"] A1u)
   (C:CtxM P w K mg base CC CB CT CW cw) (N:Num K mg CN) (MR:MakeR P w K mg base CR fR fdR d0 gP vP) (R:RatC K mg CR CE) (O:Own mg):FnOk P w K mg base (CX1 P w) 7 f fd ["context","one","other"] (C2b CN CC CT):=by
 refine D.F.okE scWholeOver (fun vs H Q E h=>?_) (fun X cdv A outer s H vs Q E hX hr hx h=>?_)
 . obtain⟨c,v,a,b,xs,ys,n1,n2,x1,x2,L,rfl,_⟩:=h
   rfl
 . subst hX
   obtain⟨c,v,a,b,xs,ys,n1,n2,x1,x2,L,rfl,hc,ok,lx,ox,tw,o1,o2,hL,k⟩:=h
   have V2:Vals [.int 0] [d0]:= .cons MR.r0 .nil
   refine⟨_,(A6 (V5 (C6 dA dB hr hx (A1 (U1 (A1 (pv 1) (A1 (pv 2) A5))) A5)))
     (A6 (G0 (V4 (C6 dC dD hr hx (A1 (U1 (A1 (pv 1) (A1 (pv 2) A5))) (A1 C9 A5)))) (A8 (B7 (A5m dS dU hr hx))) D3)
     (A6 (G0 (A1h (V4 (C6 dE dF hr hx (A1 (pv 1) (A1 (pv 2) A5))))) (A8 (B7 (C6 dG dH hr hx (A1 (pv 0) (A1 (pv 1) (A1 (pv 2) (A1 A7 A5))))))) D3)
     (A6 (D7 (i:=3) scWholeOver.nd rfl (Or.inl rfl) (C6 dY dZ hr hx (A1 (pv 1) (A1 (pv 2) A5))))
     (A6 (G0 (D0 C3h (pv 3) (C6 gA gB hr hx (A1 (D5 (pv 0) rfl) A5)) (C8 _)) (A8 (B7 (C6 dW dX hr hx (A1 (pv 0) A5)))) D3)
     (A6 (D7 (i:=4) scWholeOver.nd rfl (Or.inl rfl) (C6 dJ dL hr hx (A1 (pv 1) (A1 (pv 2) A5))))
     (A6 (D7 (i:=5) scWholeOver.nd rfl (Or.inl rfl) (J1 (A1k rfl) (by rfl) O.max_ boot_max (A1 (C7 V1 (D5 (pv 1) rfl) (D5 (pv 2) rfl)) (A1 A7 A5))))
     (A6 (G0 (D0 G4 (pv 3) A7 (C8 _)) (A8 (B7 (C6 dM dN hr hx (A1 (pv 0) (A1 (pv 4) (A1 (pv 5) A5)))))) D3)
     (A8 (B7 (C6 dP dQ hr hx (A1 (pv 0) (A1 (pv 4) (A1 (A5v MR.m MR.g hr R.g MR.b2 V2 hx (A1 (pv 3) (A1 A7 A5))) (A1 (pv 5) A5))))))))))))))),?_⟩
   have z2:2<=sizeLine:=D8 (by decide)
   unfold woR at k
   refine⟨_,rfl,_,rfl,z2,fun l nl=>?_⟩
   have u:=Same.upd (o:= .lst [.ref n1,.ref n2]) nl
   refine⟨l,[(n1,x1),(n2,x2)],rfl,(A5t (tw.same u) B5).n,.inl ⟨B5,?_⟩⟩
   refine⟨_,rfl,_,rfl,z2,fun l2 nl2=>?_⟩
   have u2:=u.trans (Same.upd (o:= .lst [.ref n1,.ref n2]) nl2)
   refine⟨l2,_,_,rfl,A5t (tw.same u2) B5,(by show 2<=1000;decide),fun H3 s3=>⟨_,rfl,?_⟩⟩
   rw[C3c]
   have sm3:=u2.trans s3
   have tw3:=tw.same sm3
   have hc3:=hc.same sm3
   refine U9 (fun hn=>?_) (fun hn=>?_)
   . rw[if_pos hn] at k
     exact⟨rfl,fun n H' nn s' num=>k.calm ox (sm3.trans s') hc num⟩
   rw[if_neg hn] at k
   refine⟨_,rfl,_,rfl,n1,n2,x1,x2,rfl,tw3,_,rfl,?_⟩
   by_cases hq:V9 x1 x2
   . rw[if_pos hq] at k
     rw[decide_eq_true hq]
     refine Y5 ?_
     have r1:=ok.r1;have r2:=ok.r2
     obtain⟨w0,w1⟩:=D5a o1 o2
     have us:=B8d x1.s x2.s
     have p10:=o1.p0;have p11:=o1.p1;have p20:=o2.p0;have p21:=o2.p1
     obtain⟨dx,ec⟩:=hc3.ins
     refine⟨_,rfl,_,rfl,n1,n2,x1,x2,rfl,tw3,o1,o2,hq.2.2,?_⟩
     refine⟨_,rfl,_,rfl,c,CC,dx,_,_,rfl,ec,C.c.cl,C.c.n_room,A3v _ _ _ _ _ _,v.r.toNat,(by rw[Int.toNat_of_nonneg (by omega)];rfl),by omega,_,_,rfl,rfl,_,rfl,U9 (fun h5=>?_) (fun h5=>?_)⟩
     . have h5:J9 x1 x2>=B8 v.r:=h5
       rw[if_pos h5] at k
       exact⟨_,rfl,c,v,a,b,xs,ys,rfl,hc3,lx,k.same sm3⟩
     have h5:¬J9 x1 x2>=B8 v.r:=h5
     rw[if_neg h5] at k
     refine⟨_,rfl,_,rfl,n1,n2,x1,x2,rfl,tw3,?_⟩
     obtain⟨⟨d1,e1⟩,⟨d2,e2⟩⟩:=id tw3
     refine⟨_,rfl,n1,CN,d1,_,_,rfl,e1,N.cl,N.n4,B5c _ _ _ _,_,rfl,n2,CN,d2,_,_,rfl,e2,N.cl,N.n4,B5c _ _ _ _,_,_,rfl,rfl,_,_,rfl,?_⟩
     rw[max0]
     have mb:0<=A4n (x1.p-x2.p) 0/\A4n (x1.p-x2.p) 0<=400:=by unfold A4n;split<;>omega
     refine⟨_,rfl,rfl,_,rfl,U9 (fun hf=>?_) (fun hf=>?_)⟩
     . have hf:J9 x1 x2=0:=V.int.inj hf
       rw[if_pos hf] at k
       exact⟨_,rfl,_,rfl,_,rfl,c,v,a,b,xs,ys,Z8 x1.s x2.s,A4n (x1.p-x2.p) 0,rfl,hc3,fun n H' nn s' num=>k.calm ox (sm3.trans s') hc num⟩
     . have hf:¬J9 x1 x2=0:=fun z=>hf (congrArg V.int z)
       rw[if_neg hf] at k
       have zl:SzL (J9 x1 x2):=⟨by omega,w1⟩
       have hl:=hL hq hf
       have ls:=B5f zl.sz B8c hl
       have fn:=C3n (v:=v) ok ls.1 ls.2 (by decide) (by decide)
       refine⟨_,rfl,_,rfl,_,rfl,fun q dq m1 m2 me=>V1r m1 m2 me fun H4 s4 ra=>⟨rfl,?_⟩⟩
       have sm4:=sm3.trans s4
       exact⟨_,rfl,c,v,a,b,xs,ys,q,J9 x1 x2,1,0,L,Z8 x1.s x2.s,A4n (x1.p-x2.p) 0,rfl,hc.same sm4,ok,lx,ra,zl.sz,B8c,hl,fn.1,fn.2,us.1,us.2,k.same sm4⟩
   . rw[if_neg hq] at k
     rw[decide_eq_false hq]
     refine Z1 ?_
     exact⟨_,rfl,_,rfl,_,rfl,c,v,a,b,xs,ys,n1,n2,x1,x2,0,rfl,hc3,ok,lx,ox,tw3,k.same sm3⟩
end
noncomputable abbrev A3b:Stmt:=(top 48)
noncomputable def B6q (CN CC CT:Addr):Sp:=fun vs H Q E=>∃c v a b xs ys n x,∃L:Int,vs=[.ref c,.ref n]/\CtxV CC H c v a b xs ys/\v.Ok/\xs.length<=900/\Y6 xs=xs/\NumIs CN H n x/\0<=x.s/\x.s<=1/\0<=x.f/\x.f<B8 500/\ -200<=x.p/\x.p<=200/\(x.k= .plain ->x.f≠0 ->A0k x.f 1 (x.p-L))/\Ends2 CN CC CT H c v b xs ys (A3t v x L) Q E
noncomputable def A0j (x1 x2:Nm):Nm:=⟨.plain,x1.s,U0 x1 (U3 x1 x2)-J9 x1 x2*U0 x2 (U3 x1 x2),U3 x1 x2⟩
noncomputable def A9h (x1 x2:Nm):Nm:=if x2.k= .end_ then x1 else A0j x1 x2
noncomputable def reR (v:Cv) (x1 x2:Nm) (L:Int):Nm×List Str:=
 if x1.k= .none\/x2.k= .none then(A9j,[])
 else if x1.k= .end_ then(A9j,["void"])
 else if x2.k= .plain/\x2.f=0 then(A9j,["void"])
 else if x2.k= .end_ then A3t v x1 L
 else if J9 x1 x2>=B8 v.r then(A9j,["void"]) else A3t v (A0j x1 x2) L
noncomputable def U5j (x1 x2:Nm) (L:Int):Prop:=(A9h x1 x2).k= .plain ->(A9h x1 x2).f≠0 ->A0k (A9h x1 x2).f 1 ((A9h x1 x2).p-L)
theorem J0s{x1 x2:Nm}(o1:x1.Ok)(o2:x2.Ok)(hf:x2.f≠0):0<=(A0j x1 x2).f/\(A0j x1 x2).f<B8 500/\ -200<=(A0j x1 x2).p/\(A0j x1 x2).p<=200/\(A0j x1 x2).f=U0 x1 (U3 x1 x2) % U0 x2 (U3 x1 x2):=by
 have p10:=o1.p0;have p11:=o1.p1;have p20:=o2.p0;have p21:=o2.p1
 obtain⟨b1,b2,b3⟩:=D2q x1 x2
 have hs:=C2t (q:=U3 x1 x2) o2 hf (by omega)
 have e:U0 x1 (U3 x1 x2)-J9 x1 x2*U0 x2 (U3 x1 x2)=U0 x1 (U3 x1 x2) % U0 x2 (U3 x1 x2):=by
   unfold J9
   rw[Int.emod_def,Int.mul_comm]
 have s0:0<U0 x2 (U3 x1 x2):=hs.1
 have m0:=Int.emod_nonneg (U0 x1 (U3 x1 x2)) (Int.ne_of_gt s0)
 have m1:=Int.emod_lt_of_pos (U0 x1 (U3 x1 x2)) s0
 have h2:=hs.2
 unfold A0j
 dsimp only
 rw[e]
 exact⟨m0,by omega,by omega,by omega,rfl⟩
section
variable{P:Program}{w:World}{K:Frag}{mg:Str ->Option Value}{base:Heap}
theorem U5x:FnScope ["context","number"] ["context","number"] (A3 A2b):=scK
theorem U3t{f f1 f2 f3 fI CN CC CB CB' CT CW CR CE:Addr}{cw:Wy ->Addr}{fd fd1 fd2 fd3 fdI:FuncData}{d0:Value}{gP:List Value ->List Value ->List Value}{vP:List V ->List V ->List V}(D:Def K mg "rounded" ["context","number"] A2b f fd)
   (dA:Def K mg "need_number" ["thing"] A6v f1 fd1) (dB:FnOk P w K mg base (CX1 P w) 1 f1 fd1 ["thing"] (D4z K CN CB')) (dC:Def K mg "nought" ["context","sign","ideal"] Z5 f2 fd2) (dD:FnOk P w K mg base (CX1 P w) 3 f2 fd2 ["context","sign","ideal"] (A3u CN CC))
   (dE:Def K mg "settled" ["context","sign","exact","ideal"] Z4 f3 fd3) (dF:FnOk P w K mg base (CX1 P w) 6 f3 fd3 ["context","sign","exact","ideal"] (A3n CN CC CT CR)) (MR:MakeR P w K mg base CR fI fdI d0 gP vP) (R:RatC K mg CR CE) (N:Num K mg CN):
   FnOk P w K mg base (CX1 P w) 7 f fd ["context","number"] (B6q CN CC CT):=by
 refine D.F.okE U5x (fun vs H Q E h=>?_) (fun X cdv A outer s H vs Q E hX hr hx h=>?_)
 . obtain⟨c,v,a,b,xs,ys,n,x,L,rfl,_⟩:=h
   rfl
 . subst hX
   obtain⟨c,v,a,b,xs,ys,n,x,L,rfl,hc,ok,lx,ox,num,s0,s1,f0,f1,p0,p1,hL,k⟩:=h
   refine⟨_,(A6 (V5 (C6 dA dB hr hx (A1 (pv 1) A5)))
     (A6 (G0 (D0 B4n (D5 (pv 1) rfl) C9 (C8 _)) (A8 (B7 (pv 1))) D3)
     (A6 (G0 (D0 G4 (D5 (pv 1) rfl) A7 (C8 _)) (A8 (B7 (C6 dC dD hr hx (A1 (pv 0) (A1 (D5 (pv 1) rfl) (A1 (D5 (pv 1) rfl) A5)))))) D3)
     (A8 (B7 (C6 dE dF hr hx (A1 (pv 0) (A1 (D5 (pv 1) rfl) (A1 (A5v MR.m MR.g hr R.g MR.b3 .nil hx (A1 (D5 (pv 1) rfl) (A1 A7 (A1 (D5 (pv 1) rfl) A5)))) (A1 (D5 (pv 1) rfl) A5)))))))))),?_⟩
   obtain⟨dn,en⟩:=id num
   refine⟨_,rfl,_,rfl,Or.inl ⟨n,_,_,_,_,rfl,num,?_⟩⟩
   refine⟨_,rfl,n,CN,dn,_,_,rfl,en,N.cl,N.n1,B7u _ _ _ _,rfl,_,rfl,?_⟩
   by_cases hk:x.k= .plain
   . have eR:A3t v x L=if x.f=0 then(⟨.plain,x.s,0,Y7 (A4n x.p (v.l-v.r+1)) v.m⟩,[]) else Z6 v x.s x.f 1 x.p L x.p:=by unfold A3t;rw[hk]
     rw[eR] at k
     refine U2d (by rw[hk];rfl) ⟨_,rfl,n,CN,dn,_,_,rfl,en,N.cl,N.n3,C2s _ _ _ _,rfl,_,rfl,U9 (fun hf=>?_) (fun hf=>?_)⟩
     . have hf:x.f=0:=V.int.inj hf
       rw[if_pos hf] at k
       exact⟨_,rfl,_,rfl,n,CN,dn,_,_,rfl,en,N.cl,N.n2,D4v _ _ _ _,_,rfl,n,CN,dn,_,_,rfl,en,N.cl,N.n4,B5c _ _ _ _,c,v,a,b,xs,ys,x.s,x.p,rfl,hc,fun n' H' nn s' num'=>k.calm ox s' hc num'⟩
     . have hf:¬x.f=0:=fun z=>hf (congrArg V.int z)
       rw[if_neg hf] at k
       have zl:SzL x.f:=⟨by omega,f1⟩
       have z1:Sz x.f:=zl.sz
       have hl:=hL hk hf
       have ls:=B5f z1 B8c hl
       have fn:=C3n (v:=v) ok ls.1 ls.2 (by omega) (by omega)
       refine⟨_,rfl,_,rfl,n,CN,dn,_,_,rfl,en,N.cl,N.n2,D4v _ _ _ _,_,rfl,n,CN,dn,_,_,rfl,en,N.cl,N.n3,C2s _ _ _ _,_,rfl,n,CN,dn,_,_,rfl,en,N.cl,N.n4,B5c _ _ _ _,fun r dr m1 m2 me=>V1r m1 m2 me fun H1 s1' ra=>⟨rfl,?_⟩⟩
       obtain⟨dn1,en1⟩:=num.same s1'
       exact⟨_,rfl,n,CN,dn1,_,_,rfl,en1,N.cl,N.n4,B5c _ _ _ _,c,v,a,b,xs,ys,r,x.f,1,x.p,L,x.s,x.p,rfl,hc.same s1',ok,lx,ra,z1,B8c,hl,fn.1,fn.2,s0,s1,k.same s1'⟩
   . have eR:A3t v x L=(x,[]):=by
       unfold A3t
       cases hx:x.k with
       |plain=>exact absurd hx hk
       |end_=>rfl
       |none=>rfl
     rw[eR] at k
     exact A0ag (fun z=>hk (eqS (b:= .plain) z)) ⟨_,rfl,k.calm ox (Same.refl _) hc num⟩
noncomputable def V0n (CN CC CT:Addr):Sp:=fun vs H Q E=>∃c v a b xs ys n1 n2 x1 x2 L,vs=[.ref c,.ref n1,.ref n2]/\CtxV CC H c v a b xs ys/\v.Ok/\xs.length<=900/\Y6 xs=xs/\Two CN H n1 n2 x1 x2/\x1.Ok/\x2.Ok/\U5j x1 x2 L/\Ends2 CN CC CT H c v b xs ys (reR v x1 x2 L) Q E
theorem scRestOf:FnScope ["context","one","other","whole","low","left"] ["context","one","other"] (A3 A3b):=scK
theorem U4j{f f1 f2 f3 f4 f5 f6 f7 f8 fI CN CC CB CB' CT CW:Addr}{cw:Wy ->Addr}{fd fd1 fd2 fd3 fd4 fd5 fd6 fd7 fd8 fdI:FuncData}(D:Def K mg "rest_of" ["context","one","other"] A3b f fd)(dG:Def K mg "need_numbers" ["things"] A0c f1 fd1)(dH:FnOk P w K mg base (CX1 P w) 2 f1 fd1 ["things"] (A3z K CN CB'))
   (dJ:Def K mg "some_of_kind" ["numbers","kind"] A2u f2 fd2) (dL:FnOk P w K mg base (CX1 P w) 1 f2 fd2 ["numbers","kind"] (A6u CN)) (dM:Def K mg "nothing" [] V8 f3 fd3) (dN:FnOk P w K mg base (CX1 P w) 3 f3 fd3 [] (Z2 CN))
   (dA:Def K mg "void" ["context"] A9s f4 fd4) (dB:FnOk P w K mg base (CX1 P w) 4 f4 fd4 ["context"] (B8f CN CC CT)) (dC:Def K mg "rounded" ["context","number"] A2b f5 fd5) (dD:FnOk P w K mg base (CX1 P w) 7 f5 fd5 ["context","number"] (B6q CN CC CT))
   (dP:Def K mg "whole_part" ["one","other"] Y2 f6 fd6) (dQ:FnOk P w K mg base (CX1 P w) 4 f6 fd6 ["one","other"] (A2f CN)) (dS:Def K mg "ten_to" ["count"] Z9 f7 fd7) (dU:FnOk P w K mg base (CX1 P w) 2 f7 fd7 ["count"] A1u) (dE:Def K mg "whole_at" ["number","power"] A0s f8 fd8) (dF:FnOk P w K mg base (CX1 P w) 3 f8 fd8 ["number","power"] (B3p CN))
   (C:CtxM P w K mg base CC CB CT CW cw) (N:Num K mg CN) (M:MakeN P w K mg base CN fI fdI) (O:Own mg):FnOk P w K mg base (CX1 P w) 8 f fd ["context","one","other"] (V0n CN CC CT):=by
 refine D.F.okE scRestOf (fun vs H Q E h=>?_) (fun X cdv A outer s H vs Q E hX hr hx h=>?_)
 . obtain⟨c,v,a,b,xs,ys,n1,n2,x1,x2,L,rfl,_⟩:=h
   rfl
 . subst hX
   obtain⟨c,v,a,b,xs,ys,n1,n2,x1,x2,L,rfl,hc,ok,lx,ox,tw,o1,o2,hL,k⟩:=h
   refine⟨_,(A6 (V5 (C6 dG dH hr hx (A1 (U1 (A1 (pv 1) (A1 (pv 2) A5))) A5)))
     (A6 (G0 (V4 (C6 dJ dL hr hx (A1 (U1 (A1 (pv 1) (A1 (pv 2) A5))) (A1 C9 A5)))) (A8 (B7 (A5m dM dN hr hx))) D3)
     (A6 (G0 (PW.pt (B4k (D0 G4 (D5 (pv 1) rfl) C9 (C8 _)) (A6s (PW.pt (B8j (D0 G4 (D5 (pv 2) rfl) C9 (C8 _)) (B6j (D0 G4 (D5 (pv 2) rfl) A7 (C8 _)))))))) (A8 (B7 (C6 dA dB hr hx (A1 (pv 0) A5)))) D3)
     (A6 (G0 (D0 G4 (D5 (pv 2) rfl) C9 (C8 _)) (A8 (B7 (C6 dC dD hr hx (A1 (pv 0) (A1 (pv 1) A5))))) D3)
     (A6 (D7 (i:=3) scRestOf.nd rfl (Or.inl rfl) (C6 dP dQ hr hx (A1 (pv 1) (A1 (pv 2) A5))))
     (A6 (G0 (D0 C3h (pv 3) (C6 dS dU hr hx (A1 (D5 (pv 0) rfl) A5)) (C8 _)) (A8 (B7 (C6 dA dB hr hx (A1 (pv 0) A5)))) D3)
     (A6 (D7 (i:=4) scRestOf.nd rfl (Or.inl rfl) (J1 (A6a rfl) (by rfl) O.min_ boot_min (A1 (D5 (pv 1) rfl) (A1 (D5 (pv 2) rfl) A5))))
     (A6 (D7 (i:=5) scRestOf.nd rfl (Or.inl rfl) (C7 V1 (J1 A1z (by rfl) O.abs_ boot_abs (A1 (C6 dE dF hr hx (A1 (pv 1) (A1 (pv 4) A5))) A5)) (C7 V0 (pv 3) (J1 A1z (by rfl) O.abs_ boot_abs (A1 (C6 dE dF hr hx (A1 (pv 2) (A1 (pv 4) A5))) A5)))))
     (A8 (B7 (C6 dC dD hr hx (A1 (pv 0) (A1 (A5v M.m (FnOk.up M.g) hr N.g M.b .nil hx (A1 C9 (A1 (D5 (pv 1) rfl) (A1 (pv 5) (A1 (pv 4) A5))))) A5))))))))))))),?_⟩
   have z2:2<=sizeLine:=D8 (by decide)
   unfold reR at k
   refine⟨_,rfl,_,rfl,z2,fun l nl=>?_⟩
   have u:=Same.upd (o:= .lst [.ref n1,.ref n2]) nl
   refine⟨l,[(n1,x1),(n2,x2)],rfl,(A5t (tw.same u) B5).n,.inl ⟨B5,?_⟩⟩
   refine⟨_,rfl,_,rfl,z2,fun l2 nl2=>?_⟩
   have u2:=u.trans (Same.upd (o:= .lst [.ref n1,.ref n2]) nl2)
   refine⟨l2,_,_,rfl,A5t (tw.same u2) B5,(by show 2<=1000;decide),fun H3 s3=>⟨_,rfl,?_⟩⟩
   rw[C3c]
   have sm3:=u2.trans s3
   have tw3:=tw.same sm3
   have hc3:=hc.same sm3
   obtain⟨⟨d1,e1⟩,⟨d2,e2⟩⟩:=id tw3
   obtain⟨dx,ec⟩:=hc3.ins
   refine U9 (fun hn=>?_) (fun hn=>?_)
   . rw[if_pos hn] at k
     exact⟨rfl,fun n H' nn s' num=>k.calm ox (sm3.trans s') hc num⟩
   rw[if_neg hn] at k
   have hn1:x1.k≠ .none:=fun z=>hn (.inl z)
   have hn2:x2.k≠ .none:=fun z=>hn (.inr z)
   have p10:=o1.p0;have p11:=o1.p1;have p20:=o2.p0;have p21:=o2.p1
   have r1:=ok.r1;have r2:=ok.r2
   obtain⟨lb1,lb2,lb3⟩:=D2q x1 x2
   have big:(10:Int)^60<=B8 500:=by decide+kernel
   refine⟨_,rfl,n1,CN,d1,_,_,rfl,e1,N.cl,N.n1,B7u _ _ _ _,rfl,_,rfl,U9 (fun h1=>Z1 ?_) (fun h1=>?_)⟩
   . have h1:x1.k= .end_:=eqS (b:= .end_) h1
     rw[if_pos h1] at k
     exact⟨_,rfl,c,v,a,b,xs,ys,rfl,hc3,lx,k.same sm3⟩
   have h1:x1.k≠ .end_:=neS (b:= .end_) h1
   rw[if_neg h1] at k
   have p1:x1.k= .plain:=by
     cases h:x1.k with
     |plain=>rfl
     |end_=>exact absurd h h1
     |none=>exact absurd h hn1
   have f11:=o1.f1
   refine⟨_,rfl,n2,CN,d2,_,_,rfl,e2,N.cl,N.n1,B7u _ _ _ _,rfl,_,rfl,U9 (fun h2=>?_) (fun h2=>?_)⟩
   . have h2:x2.k= .plain:=eqS (b:= .plain) h2
     refine⟨_,rfl,n2,CN,d2,_,_,rfl,e2,N.cl,N.n3,C2s _ _ _ _,rfl,_,rfl,U9 (fun h3=>?_) (fun h3=>?_)⟩
     . have h3:x2.f=0:=V.int.inj h3
       rw[if_pos ⟨h2,h3⟩] at k
       exact⟨_,rfl,c,v,a,b,xs,ys,rfl,hc3,lx,k.same sm3⟩
     have h3:¬x2.f=0:=fun z=>h3 (congrArg V.int z)
     have h4:x2.k≠ .end_:=fun z=>by rw[h2] at z;cases z
     rw[if_neg (fun z=>h3 z.2),if_neg h4] at k
     refine⟨_,rfl,n2,CN,d2,_,_,rfl,e2,N.cl,N.n1,B7u _ _ _ _,rfl,_,rfl,C3x (fun z=>h4 (eqS (b:= .end_) z)) ?_⟩
     refine⟨_,rfl,_,rfl,n1,n2,x1,x2,rfl,tw3,o1,o2,h3,?_⟩
     refine⟨_,rfl,_,rfl,c,CC,dx,_,_,rfl,ec,C.c.cl,C.c.n_room,A3v _ _ _ _ _ _,v.r.toNat,(by rw[Int.toNat_of_nonneg (by omega)];rfl),by omega,_,_,rfl,rfl,_,rfl,U9 (fun h5=>?_) (fun h5=>?_)⟩
     . have h5:J9 x1 x2>=B8 v.r:=h5
       rw[if_pos h5] at k
       exact⟨_,rfl,c,v,a,b,xs,ys,rfl,hc3,lx,k.same sm3⟩
     have h5:¬J9 x1 x2>=B8 v.r:=h5
     rw[if_neg h5] at k
     have t24:=U1q r2
     obtain⟨g0,g1,g2,g3,g4⟩:=J0s o1 o2 h3
     have hs:=C2t (q:=U3 x1 x2) o2 h3 (by omega)
     have w0:0<=J9 x1 x2:=Int.ediv_nonneg (A9w o1) (A9w o2)
     have mul:IntMulOk (J9 x1 x2) (U0 x2 (U3 x1 x2)):=by
       by_cases z:J9 x1 x2=0
       . rw[z];exact CMul.ok (.inl ⟨by decide,by decide⟩)
       . have zs:Sz (J9 x1 x2):=⟨by omega,Int.lt_of_lt_of_le (show J9 x1 x2<10^24 by omega) (by decide+kernel)⟩
         exact IntMulOk.of_bits (D3r zs) (D3r hs.sz)
     refine⟨_,rfl,n1,CN,d1,_,_,rfl,e1,N.cl,N.n4,B5c _ _ _ _,_,rfl,n2,CN,d2,_,_,rfl,e2,N.cl,N.n4,B5c _ _ _ _,_,_,rfl,?_⟩
     show Z5f _ _ _ [some (V.ref c),some (V.ref n1),some (V.ref n2),some (V.int (J9 x1 x2)),some (V.int (U3 x1 x2)),none] H3
     refine⟨_,rfl,_,rfl,n1,x1,U3 x1 x2,rfl,tw3.1,o1,lb1,by omega,_,rfl,_,rfl,_,rfl,_,rfl,n2,x2,U3 x1 x2,rfl,tw3.2,o2,lb2,by omega,_,rfl,_,_,rfl,rfl,(by rw[A6b o2];exact mul),_,_,rfl,rfl,?_⟩
     rw[A6b o1,A6b o2]
     refine⟨_,rfl,_,rfl,n1,CN,d1,_,_,rfl,e1,N.cl,N.n2,D4v _ _ _ _,_,rfl,_,rfl,?_⟩
     refine C3w (Q:=fun u H'=>B6q CN CC CT ([V.ref c,u]++ []) H' Q (fun C d H'=>E C d H')) fun n' H4 nn s4 num'=>?_
     exact⟨c,v,a,b,xs,ys,n',A0j x1 x2,L,rfl,hc3.same s4,ok,lx,ox,num',o1.s0,o1.s1,g0,g1,g2,g3,(by have:=hL;unfold U5j A9h at this;rw[if_neg h4] at this;exact this),k.same (sm3.trans s4)⟩
   . have h2:x2.k≠ .plain:=neS (b:= .plain) h2
     have h4:x2.k= .end_:=by
       cases h:x2.k with
       |plain=>exact absurd h h2
       |end_=>rfl
       |none=>exact absurd h hn2
     rw[if_neg (fun z=>h2 z.1),if_pos h4] at k
     refine Y5 ⟨_,rfl,n2,CN,d2,_,_,rfl,e2,N.cl,N.n1,B7u _ _ _ _,rfl,_,rfl,C4e (by rw[h4];rfl) ?_⟩
     exact⟨_,rfl,_,rfl,c,v,a,b,xs,ys,n1,x1,L,rfl,hc3,ok,lx,ox,tw3.1,o1.s0,o1.s1,o1.f0,by omega,p10,p11,(by have:=hL;unfold U5j A9h at this;rw[if_pos h4] at this;exact this),k.same sm3⟩
end
noncomputable abbrev B6p:Stmt:=(top 70)
section
variable{P:Program}{w:World}{K:Frag}{mg:Str ->Option Value}{base:Heap}
noncomputable def D4c (K:Frag):Sp:=fun vs H Q _=>∃a ns k,vs=[.ref a,.int k]/\SqL K H a ((ns:List Int).map V.int)/\0<=k/\∀i,Q (.int i) H
theorem Z4d:FnScope ["_law_script","_law_k"] ["_law_script","_law_k"] (A3 B6p):=scK
theorem Y8v(D:Def K mg "_law_cell_at" ["_law_script","_law_k"] B6p f fd)(O:Own mg):FnOk P w K mg base (CX1 P w) 1 f fd ["_law_script","_law_k"] (D4c K):=by
 refine FnOk.up (D.F.ok Z4d (fun vs H Q E h=>?_) (fun cdv A outer s H vs Q E hr h=>?_))
 . obtain⟨a,ns,k,rfl,_⟩:=h
   rfl
 . obtain⟨a,ns,i,rfl,hs,h0,k⟩:=h
   refine⟨_,(A6 (G0 (D0 G5v (pv 1) (J1 D5f (by rfl) O.len_ PySem.boot_len (A1 (pv 0) A5)) (C8 _)) (A8 (B7 (U2 A6y (pv 0) (pv 1) (fun _ _=>rfl)))) D3)
     (A8 (B7 A7))),?_⟩
   refine⟨_,rfl,_,rfl,a,_,rfl,.inl hs,_,_,rfl,rfl,_,rfl,?_⟩
   refine U9 (fun hlt=>?_) (fun _=>k 0)
   rw[List.length_map] at hlt
   obtain⟨j,rfl⟩:=Int.eq_ofNat_of_zero_le h0
   have hj:j<ns.length:=by omega
   exact⟨_,rfl,_,rfl,a,_,_,_,rfl,rfl,hs,G2 (v:=V.int ns[j]) (by simp[hj]),k _⟩
end
noncomputable abbrev A9x:Stmt:=(top 71)
section
variable{P:Program}{w:World}{K:Frag}{mg:Str ->Option Value}{base:Heap}
noncomputable def D4s:Sp:=fun vs H Q _=>∃c k,vs=[.int c,.int k]/\0<=k/\k<=100/\∀m,0<=m ->m<2147483629 ->Q (.int m) H
theorem Y9m:FnScope ["_law_cell","_law_k"] ["_law_cell","_law_k"] (A3 A9x):=scK
theorem V0q(D:Def K mg "_law_mixed" ["_law_cell","_law_k"] A9x f fd):FnOk P w K mg base (CX1 P w) 1 f fd ["_law_cell","_law_k"] D4s:=by
 refine FnOk.up (D.F.ok Y9m (fun vs H Q E h=>?_) (fun cdv A outer s H vs Q E hr h=>?_))
 . obtain⟨c,k,rfl,_⟩:=h
   rfl
 . obtain⟨c,i,rfl,h0,h1,k⟩:=h
   refine⟨_,(A8 (B7 (C7 U4 (C7 V0 (C7 U4 (C7 Y3 (C7 Y3 (C7 V0 (pv 0) (C7 Y3 A7 (C7 V0 (C7 V0 A7 (pv 1)) (pv 1)))) (C7 V0 A7 (pv 1))) A7) A7) A7) A7))),?_⟩
   have q0:(0:Int)<=2*i*i:=Int.mul_nonneg (by omega) h0
   have q1:2*i*i<=200*100:=Int.mul_le_mul (by omega) h1 h0 (by decide)
   have m1:IntMulOk 2 i:=CMul.ok (.inl ⟨by decide,by decide⟩)
   have m2:IntMulOk (2*i) i:=CMul.ok (.inr ⟨by omega,by omega⟩)
   have m3:IntMulOk c (48271+2*i*i):=CMul.ok (.inr ⟨by omega,by omega⟩)
   have m4:IntMulOk 69621 i:=CMul.ok (.inl ⟨by decide,by decide⟩)
   have m5:∀z:Int,IntMulOk z 69621:=fun z=>CMul.ok (.inr ⟨by decide,by decide⟩)
   refine⟨_,rfl,_,rfl,_,_,rfl,rfl,m1,_,rfl,_,_,rfl,rfl,m2,_,_,rfl,rfl,_,_,rfl,rfl,m3,_,rfl,_,_,rfl,rfl,m4,_,_,rfl,rfl,_,_,rfl,rfl,_,_,rfl,rfl,(by show(0:Int)<2147483647;decide),_,_,rfl,rfl,m5 _,_,_,rfl,rfl,(by show(0:Int)<2147483629;decide),?_⟩
   exact k _ (Int.emod_nonneg _ (by decide)) (Int.emod_lt_of_pos _ (by decide))
end
noncomputable abbrev B6n:Stmt:=(top 72)
section
variable{P:Program}{w:World}{K:Frag}{mg:Str ->Option Value}{base:Heap}
noncomputable def D3z:Sp:=fun vs H Q _=>∃n:Nat,vs=[.int (n:Int)]/\n<=600/\Q (.int ((10^n:Nat):Int)) H
theorem Z6d:FnScope ["_law_count"] ["_law_count"] (A3 B6n):=scK
theorem Y7r(D:Def K mg "_law_ten" ["_law_count"] B6n f fd)(O:Own mg):FnOk P w K mg base (CX1 P w) 1 f fd ["_law_count"] D3z:=by
 refine FnOk.up (D.F.ok Z6d (fun vs H Q E h=>?_) (fun cdv A outer s H vs Q E hr h=>?_))
 . obtain⟨n,rfl,_⟩:=h
   rfl
 . obtain⟨n,rfl,hn,k⟩:=h
   refine⟨_,(A8 (B7 (A5y C8h (by rfl) O.int_ boot_int (A1 (C7 G9g C9 (C7 J0j C9 (pv 0))) A5)))),?_⟩
   have l1:("1":Str).length=1:=by decide+kernel
   have l0:("0":Str).length=1:=by decide+kernel
   refine⟨_,rfl,_,_,rfl,rfl,by omega,by omega,D8 (by rw[l0];omega),_,_,rfl,rfl,D8 (by rw[C3z,l0,l1];omega),?_⟩
   exact⟨U5y n,_,rfl,V1m n hn,by rw[G6p];omega,k⟩
end
noncomputable abbrev A4f:Stmt:=(top 74)
noncomputable abbrev B4y:Stmt:=(top 75)
structure Nm.Wf(x:Nm):Prop where
 ok:x.Ok
 e:x.k= .end_ ->x.f=0/\x.p=0
 n:x.k= .none ->x.s=0/\x.f=0/\x.p=0
theorem C3e{s f p:Int}(h1:0<=s/\s<=1)(h2:0<=f/\f<=10^60-1)(h3: -200<=p/\p<=200):(Nm.mk .plain s f p).Wf:=⟨⟨h1.1,h1.2,h2.1,h2.2,h3.1,h3.2⟩,fun q=>(by cases q),fun q=>(by cases q)⟩
theorem Z5h{s:Int}(h1:0<=s/\s<=1):(Nm.mk .end_ s 0 0).Wf:=⟨⟨h1.1,h1.2,by show(0:Int)<=0;decide,by show(0:Int)<=10^60-1;decide,by show(-200:Int)<=0;decide,by show(0:Int)<=200;decide⟩,fun _=>⟨rfl,rfl⟩,fun q=>(by cases q)⟩
theorem Y7m:(Nm.mk .none 0 0 0).Wf:=⟨⟨by show(0:Int)<=0;decide,by show(0:Int)<=1;decide,by show(0:Int)<=0;decide,by show(0:Int)<=10^60-1;decide,by show(-200:Int)<=0;decide,by show(0:Int)<=200;decide⟩,fun q=>(by cases q),fun _=>⟨rfl,rfl,rfl⟩⟩
theorem U1a{L:Int}{n:Nat}(hn:n<=60):0<=L % ((10^n:Nat):Int)/\L % ((10^n:Nat):Int)<=10^60-1:=by
 have p:0<((10^n:Nat):Int):=Int.natCast_pos.mpr (Nat.pow_pos (by decide))
 have a:=Int.emod_nonneg L (Int.ne_of_gt p)
 have b:=Int.emod_lt_of_pos L p
 have c:(10:Nat)^n<=10^60:=Nat.pow_le_pow_right (by decide) hn
 have e:((10^60:Nat):Int)=10^60:=by decide+kernel
 omega
noncomputable abbrev A1f:Stmt:=(top 73)
theorem dv{n:Int}(h:0<n)(h2:n.natAbs.log2<9000):(0:Int)<n/\n.natAbs.log2<9000:=⟨h,h2⟩
section
variable{P:Program}{w:World}{K:Frag}{mg:Str ->Option Value}{base:Heap}
noncomputable def C3d:Sp:=fun vs H Q _=>∃c wy:Int,vs=[.int c,.int wy]/\0<=wy/\wy<8/\∀f H',0<=f ->f<=10^60-1 ->Same H H' ->Q (.int f) H'
theorem scLFigures:FnScope ["_law_cell","_law_way","_law_more","_law_found","_law_k"] ["_law_cell","_law_way"] (A3 A1f):=scK
theorem V3d{a:Int}{n:Nat}(h0:0<=a)(h1:a<=99)(hn:n<=13):0<=a*((10^n:Nat):Int)/\a*((10^n:Nat):Int)<=10^60-1:=by
 have c:(10:Nat)^n<=10^13:=Nat.pow_le_pow_right (by decide) hn
 have x:a*((10^n:Nat):Int)<=99*((10^13:Nat):Int):=Int.mul_le_mul h1 (Int.ofNat_le.mpr c) (Int.natCast_nonneg _) (by decide)
 exact⟨Int.mul_nonneg h0 (Int.natCast_nonneg _),Int.le_trans x (by decide+kernel)⟩
theorem G9s{n:Nat}{a:Int}(hn:n<=24)(h1:0<=a)(h2:a<=2):0<=((10^n:Nat):Int)-1+a/\((10^n:Nat):Int)-1+a<=10^60-1:=by
 have c:(10:Nat)^n<=10^24:=Nat.pow_le_pow_right (by decide) hn
 have d:0<(10:Nat)^n:=Nat.pow_pos (by decide)
 have e:((10^24:Nat):Int)+2<=10^60-1:=by decide+kernel
 omega
theorem G6d(D:Def K mg "_law_figures" ["_law_cell","_law_way"] A1f f fd)(dC:Def K mg "_law_mixed" ["_law_cell","_law_k"] A9x f1 fd1)(dD:FnOk P w K mg base (CX1 P w) 1 f1 fd1 ["_law_cell","_law_k"] D4s)
   (dA:Def K mg "_law_ten" ["_law_count"] B6n f2 fd2) (dB:FnOk P w K mg base (CX1 P w) 1 f2 fd2 ["_law_count"] D3z) (O:Own mg):FnOk P w K mg base (CX1 P w) 2 f fd ["_law_cell","_law_way"] C3d:=by
 refine D.F.okE scLFigures (fun vs H Q E h=>?_) (fun X cdv A outer s H vs Q E hX hr hx h=>?_)
 . obtain⟨c,wy,rfl,_⟩:=h
   rfl
 . subst hX
   obtain⟨c,wy,rfl,w0,w8,k⟩:=h
   refine⟨_,(A6 (D6 (D7 (i:=2) scLFigures.nd rfl (Or.inl rfl) (C6 dC dD hr hx (A1 (pv 0) (A1 A7 A5)))))
     (A6 (D6 (G0 (PW.pt (B4k (D0 G4 (pv 1) A7 (C8 _)) (A6s (D0 G4 (pv 1) A7 (C8 _))))) (A6 (D6 (D7 (i:=3) scLFigures.nd rfl (Or.inl rfl) A7))
     (A6 (D6 (D4m PassesOwn.leaving rfl (U4f rfl O.range_ (A1 A7 A5)) (A0b (i:=4) scLFigures.nd rfl (Or.inl rfl)) (A8 (D6 (D7 (i:=3) scLFigures.nd rfl (Or.inl rfl) (C7 Y3 (C7 V0 (pv 3) A7) (C7 U4 (C6 dC dD hr hx (A1 (pv 0) (A1 (C7 Y3 A7 (pv 4)) A5))) A7)))))))
     (A8 (B7 (C7 U4 (pv 3) (C6 dA dB hr hx (A1 (C7 Y3 A7 (C7 U4 (pv 2) (U2 A6y (U1 (A1 A7 (A1 A7 A5))) (C7 V1 (pv 1) A7) (fun _ _=>rfl)))) A5))))))) D3))
     (A6 (D6 (G0 (PW.pt (B4k (D0 G4 (pv 1) A7 (C8 _)) (A6s (D0 G4 (pv 1) A7 (C8 _))))) (A8 (B7 (C7 V0 (C7 Y3 (C7 U4 (pv 2) A7) A7) (C6 dA dB hr hx (A1 (C7 U4 (C7 U6 (pv 2) A7) A7) A5))))) D3))
     (A6 (D6 (G0 (D0 G4 (pv 1) A7 (C8 _)) (A8 (B7 (C7 Y3 (C7 V1 (C6 dA dB hr hx (A1 (C7 Y3 A7 (C7 U4 (pv 2) A7)) A5)) A7) (C7 U4 (C7 U6 (pv 2) A7) A7)))) D3))
     (A8 (B7 (C7 U4 (pv 2) (U2 A6y (U1 (A1 A7 (A1 A7 (A1 A7 A5)))) (C7 U4 (C7 U6 (pv 2) A7) A7) (fun _ _=>rfl))))))))),?_⟩
   have z2:2<=sizeLine:=D8 (by decide)
   have z3:3<=sizeLine:=D8 (by decide)
   have mC:∀z n:Int, -(2^64)<n ->n<2^64 ->IntMulOk z n:=fun z n a b=>CMul.ok (.inr ⟨a,b⟩)
   have mC':∀z n:Int, -(2^64)<n ->n<2^64 ->IntMulOk n z:=fun z n a b=>CMul.ok (.inl ⟨a,b⟩)
   have pT:∀n:Nat,0<((10^n:Nat):Int):=fun n=>Int.natCast_pos.mpr (Nat.pow_pos (by decide))
   refine⟨fun σ' H'=>∃m:Int,H'=H/\0<=m/\σ'=[some (.int c),some (.int wy),some (.int m),none,none],?_,?_⟩
   . exact⟨_,rfl,c,1,rfl,by decide,by decide,fun m m0 _=>⟨m,rfl,m0,rfl⟩⟩
   rintro σ' H1 ⟨m,rfl,m0,rfl⟩
   refine⟨fun σ' H'=>H'=H1/\σ'=[some (.int c),some (.int wy),some (.int m),none,none],?_,?_⟩
   . refine⟨_,rfl,rfl,_,rfl,U9 (fun h=>?_) (fun h=>⟨_,rfl,rfl,_,rfl,U9 (fun h'=>?_) (fun _=>⟨rfl,rfl⟩)⟩)⟩
     . have h:wy=2:=by injection h
       subst h
       refine Z1 ?_
       refine⟨fun σ' H'=>H'=H1/\σ'=[some (.int c),some (.int 2),some (.int m),some (.int 0),none],⟨rfl,rfl⟩,?_⟩
       rintro σ' H2 ⟨rfl,rfl⟩
       refine⟨fun σ' H'=>H'=H2/\∃(L:Int) (v:Option V),σ'=[some (.int c),some (.int 2),some (.int m),some (.int L),v],⟨7,rfl,by decide,by decide,D1v (n:=7) (fun i σ' H'=>H'=H2/\∃(L:Int) (v:Option V),σ'=[some (.int c),some (.int 2),some (.int m),some (.int L),v]) ⟨rfl,0,none,rfl⟩ ?_ (fun σ' H' h=>h)⟩,?_⟩
       . rintro i σ' H3 hi ⟨rfl,L,v,rfl⟩
         refine⟨_,?_,fun _ _ h=>h⟩
         exact⟨_,rfl,_,_,rfl,rfl,mC _ _ (by decide) (by decide),_,rfl,_,rfl,_,_,rfl,rfl,c,_,rfl,(by show(0:Int)<=10+(0+(i:Int));omega),(by show 10+(0+(i:Int))<=100;omega),fun m' _ _=>⟨_,_,rfl,rfl,(by decide:(0:Int)<1000000000),_,_,rfl,rfl,rfl,_,_,rfl⟩⟩
       . rintro σ' H3 ⟨rfl,L,v,rfl⟩
         refine⟨_,rfl,_,rfl,z2,fun l nl=>?_⟩
         have a0:=Int.emod_nonneg m (by decide:(24:Int)≠0)
         have a1:=Int.emod_lt_of_pos m (by decide:(0:Int)<24)
         have fm:=U1a (L:=L) (n:=(1+m % 24).toNat) (by omega)
         exact⟨_,rfl,_,_,rfl,rfl,l,_,_,_,rfl,rfl,SqL.of B5,G2 (j:=0) rfl,_,_,rfl,rfl,(by decide:(0:Int)<24),_,_,rfl,rfl,(1+m % 24).toNat,(by rw[Int.toNat_of_nonneg (by omega)];rfl),by omega,_,_,rfl,rfl,pT _,k _ _ fm.1 fm.2 (Same.upd nl)⟩
     . have h':wy=3:=by injection h'
       subst h'
       refine⟨fun σ' H'=>H'=H1/\σ'=[some (.int c),some (.int 3),some (.int m),some (.int 0),none],⟨rfl,rfl⟩,?_⟩
       rintro σ' H2 ⟨rfl,rfl⟩
       refine⟨fun σ' H'=>H'=H2/\∃(L:Int) (v:Option V),σ'=[some (.int c),some (.int 3),some (.int m),some (.int L),v],⟨7,rfl,by decide,by decide,D1v (n:=7) (fun i σ' H'=>H'=H2/\∃(L:Int) (v:Option V),σ'=[some (.int c),some (.int 3),some (.int m),some (.int L),v]) ⟨rfl,0,none,rfl⟩ ?_ (fun σ' H' h=>h)⟩,?_⟩
       . rintro i σ' H3 hi ⟨rfl,L,v,rfl⟩
         refine⟨_,?_,fun _ _ h=>h⟩
         exact⟨_,rfl,_,_,rfl,rfl,mC _ _ (by decide) (by decide),_,rfl,_,rfl,_,_,rfl,rfl,c,_,rfl,(by show(0:Int)<=10+(0+(i:Int));omega),(by show 10+(0+(i:Int))<=100;omega),fun m' _ _=>⟨_,_,rfl,rfl,(by decide:(0:Int)<1000000000),_,_,rfl,rfl,rfl,_,_,rfl⟩⟩
       . rintro σ' H3 ⟨rfl,L,v,rfl⟩
         refine⟨_,rfl,_,rfl,z2,fun l nl=>?_⟩
         have a0:=Int.emod_nonneg m (by decide:(60:Int)≠0)
         have a1:=Int.emod_lt_of_pos m (by decide:(0:Int)<60)
         have fm:=U1a (L:=L) (n:=(1+m % 60).toNat) (by omega)
         exact⟨_,rfl,_,_,rfl,rfl,l,_,_,_,rfl,rfl,SqL.of B5,G2 (j:=1) rfl,_,_,rfl,rfl,(by decide:(0:Int)<60),_,_,rfl,rfl,(1+m % 60).toNat,(by rw[Int.toNat_of_nonneg (by omega)];rfl),by omega,_,_,rfl,rfl,pT _,k _ _ fm.1 fm.2 (Same.upd nl)⟩
   rintro σ' H2 ⟨rfl,rfl⟩
   have a0:=Int.emod_nonneg m (by decide:(99:Int)≠0)
   have a1:=Int.emod_lt_of_pos m (by decide:(0:Int)<99)
   have b0:=Int.emod_nonneg (m/99) (by decide:(13:Int)≠0)
   have b1:=Int.emod_lt_of_pos (m/99) (by decide:(0:Int)<13)
   have fs:=V3d (a:=m % 99+1) (n:=(m/99 % 13).toNat) (by omega) (by omega) (by omega)
   refine⟨fun σ' H'=>H'=H2/\σ'=[some (.int c),some (.int wy),some (.int m),none,none],?_,?_⟩
   . refine⟨_,rfl,rfl,_,rfl,U9 (fun h=>?_) (fun h=>⟨_,rfl,rfl,_,rfl,U9 (fun h'=>?_) (fun _=>⟨rfl,rfl⟩)⟩)⟩
     . exact Z1 ⟨_,rfl,_,_,rfl,rfl,(by decide:(0:Int)<99),_,_,rfl,rfl,_,rfl,_,_,rfl,rfl,dv (n:=99) (by decide) (by decide+kernel),_,_,rfl,rfl,(by decide:(0:Int)<13),(m/99 % 13).toNat,(by rw[Int.toNat_of_nonneg b0];rfl),by omega,_,_,rfl,rfl,mC' _ _ (by omega) (by omega),k _ _ fs.1 fs.2 (Same.refl _)⟩
     . exact⟨_,rfl,_,_,rfl,rfl,(by decide:(0:Int)<99),_,_,rfl,rfl,_,rfl,_,_,rfl,rfl,dv (n:=99) (by decide) (by decide+kernel),_,_,rfl,rfl,(by decide:(0:Int)<13),(m/99 % 13).toNat,(by rw[Int.toNat_of_nonneg b0];rfl),by omega,_,_,rfl,rfl,mC' _ _ (by omega) (by omega),k _ _ fs.1 fs.2 (Same.refl _)⟩
   rintro σ' H3 ⟨rfl,rfl⟩
   have c0:=Int.emod_nonneg m (by decide:(24:Int)≠0)
   have c1:=Int.emod_lt_of_pos m (by decide:(0:Int)<24)
   have d0:=Int.emod_nonneg (m/24) (by decide:(3:Int)≠0)
   have d1:=Int.emod_lt_of_pos (m/24) (by decide:(0:Int)<3)
   have fr:=G9s (n:=(1+m % 24).toNat) (a:=m/24 % 3) (by omega) d0 (by omega)
   refine⟨fun σ' H'=>H'=H3/\σ'=[some (.int c),some (.int wy),some (.int m),none,none],?_,?_⟩
   . refine⟨_,rfl,rfl,_,rfl,U9 (fun h=>?_) (fun h=>⟨rfl,rfl⟩)⟩
     exact⟨_,rfl,_,_,rfl,rfl,(by decide:(0:Int)<24),_,_,rfl,rfl,(1+m % 24).toNat,(by rw[Int.toNat_of_nonneg (by omega)];rfl),by omega,_,_,rfl,rfl,_,rfl,_,_,rfl,rfl,dv (n:=24) (by decide) (by decide+kernel),_,_,rfl,rfl,(by decide:(0:Int)<3),_,_,rfl,rfl,k _ _ fr.1 fr.2 (Same.refl _)⟩
   rintro σ' H4 ⟨rfl,rfl⟩
   refine⟨_,rfl,z3,fun l nl=>?_⟩
   obtain⟨v,hv,ix⟩:=ixs (xs:=[10,100,1000]) (i:=m/1000 % 3) (Int.emod_nonneg _ (by decide)) (by show m/1000 % 3<3;exact Int.emod_lt_of_pos _ (by decide))
   have bv:0<v/\v<=1000:=by
     simp only[List.mem_cons,List.not_mem_nil,or_false] at hv
     omega
   have e0:=Int.emod_nonneg m (Int.ne_of_gt bv.1)
   have e1:=Int.emod_lt_of_pos m bv.1
   have big:(1000:Int)<=10^60-1:=by decide+kernel
   exact⟨_,rfl,_,_,rfl,rfl,dv (n:=1000) (by decide) (by decide+kernel),_,_,rfl,rfl,(by decide:(0:Int)<3),l,_,_,_,rfl,rfl,SqL.of B5,ix,_,_,rfl,rfl,bv.1,k _ _ e0 (by omega) (Same.upd nl)⟩
end
section
variable{P:Program}{w:World}{K:Frag}{mg:Str ->Option Value}{base:Heap}
noncomputable def D2r:Sp:=fun vs H Q _=>∃c,vs=[.int c]/\∀(x:Nm) t H',x.Wf ->Same H H' ->H' t=some (.tup x.vs) ->Q (.ref t) H'
theorem scLNumber:FnScope ["_law_cell","_law_kind","_law_sign","_law_more","_law_wide"] ["_law_cell"] (A3 A4f):=scK
theorem J0g(D:Def K mg "_law_number" ["_law_cell"] A4f f fd)(dA:Def K mg "_law_mixed" ["_law_cell","_law_k"] A9x f1 fd1)(dB:FnOk P w K mg base (CX1 P w) 1 f1 fd1 ["_law_cell","_law_k"] D4s)
   (dC:Def K mg "_law_figures" ["_law_cell","_law_way"] A1f f2 fd2) (dD:FnOk P w K mg base (CX1 P w) 2 f2 fd2 ["_law_cell","_law_way"] C3d) (O:Own mg):FnOk P w K mg base (CX1 P w) 3 f fd ["_law_cell"] D2r:=by
 refine D.F.okE scLNumber (fun vs H Q E h=>?_) (fun X cdv A outer s H vs Q E hX hr hx h=>?_)
 . obtain⟨c,rfl,_⟩:=h
   rfl
 . subst hX
   obtain⟨c,rfl,k⟩:=h
   refine⟨_,(A6 (D6 (D7 (i:=1) scLNumber.nd rfl (Or.inl rfl) (C7 U4 (pv 0) A7)))
     (A6 (D6 (D7 (i:=2) scLNumber.nd rfl (Or.inl rfl) (C7 U4 (C7 U6 (pv 0) A7) A7)))
     (A6 (D6 (D7 (i:=3) scLNumber.nd rfl (Or.inl rfl) (C6 dA dB hr hx (A1 (pv 0) (A1 A7 A5)))))
     (A6 (D6 (G0 (D0 G4 (pv 1) A7 (C8 _)) (A8 (B7 (V3 (A1 C9 (A1 (pv 2) (A1 A7 (A1 (C7 V1 (C7 U4 (pv 3) A7) A7) A5))))))) D3))
     (A6 (D6 (G0 (D0 G4 (pv 1) A7 (C8 _)) (A8 (B7 (U2 A6y (U1 (A1 (V3 (A1 C9 (A1 (pv 2) (A1 A7 (A1 A7 A5))))) (A1 (V3 (A1 C9 (A1 A7 (A1 A7 (A1 A7 A5))))) A5))) (A5y U4k (by rfl) O.int_ boot_int (A1 (J0 G4 (C7 U4 (pv 3) A7) A7 (C8 _)) A5)) (fun _ _=>rfl)))) D3))
     (A6 (D6 (D7 (i:=4) scLNumber.nd rfl (Or.inl rfl) (C7 V1 (C7 U4 (pv 3) A7) A7)))
     (A6 (D6 (G0 (D0 G4 (C7 U4 (C7 U6 (pv 3) A7) A7) A7 (C8 _)) (A8 (D6 (D7 (i:=4) scLNumber.nd rfl (Or.inl rfl) (C7 V1 (C7 U4 (C7 U6 (pv 3) A7) A7) A7)))) D3))
     (A6 (D6 (G0 (D0 G4 (C7 U4 (C7 U6 (pv 3) A7) A7) A7 (C8 _)) (A8 (D6 (D7 (i:=4) scLNumber.nd rfl (Or.inl rfl) (C7 V1 (C7 U4 (C7 U6 (pv 3) A7) A7) A7)))) D3))
     (A8 (B7 (V3 (A1 C9 (A1 (pv 2) (A1 (C6 dC dD hr hx (A1 (pv 0) (A1 (C7 U4 (C7 U6 (pv 0) A7) A7) A5))) (A1 (pv 4) A5))))))))))))))),?_⟩
   have z2:2<=sizeLine:=D8 (by decide)
   have z4:4<=sizeLine:=D8 (by decide)
   refine⟨fun σ' H'=>∃kd:Int,H'=H/\σ'=[some (.int c),some (.int kd),none,none,none],⟨_,rfl,_,_,rfl,rfl,(by decide:(0:Int)<8),_,rfl,rfl⟩,?_⟩
   rintro σ' H1 ⟨kd,rfl,rfl⟩
   refine⟨fun σ' H'=>∃sg:Int,H'=H1/\0<=sg/\sg<=1/\σ'=[some (.int c),some (.int kd),some (.int sg),none,none],⟨_,rfl,_,_,rfl,rfl,dv (n:=8) (by decide) (by decide+kernel),_,_,rfl,rfl,(by decide:(0:Int)<2),c/8 % 2,rfl,by omega,by omega,rfl⟩,?_⟩
   rintro σ' H2 ⟨sg,rfl,s0,s1,rfl⟩
   refine⟨fun σ' H'=>∃m:Int,H'=H2/\0<=m/\σ'=[some (.int c),some (.int kd),some (.int sg),some (.int m),none],⟨_,rfl,c,2,rfl,by decide,by decide,fun m m0 _=>⟨m,rfl,m0,rfl⟩⟩,?_⟩
   rintro σ' H3 ⟨m,rfl,m0,rfl⟩
   refine⟨fun σ' H'=>H'=H3/\σ'=[some (.int c),some (.int kd),some (.int sg),some (.int m),none],?_,?_⟩
   . refine⟨_,rfl,rfl,_,rfl,U9 (fun h=>?_) (fun h=>⟨rfl,rfl⟩)⟩
     refine⟨_,rfl,_,rfl,_,_,rfl,rfl,(by decide:(0:Int)<41),_,_,rfl,rfl,z4,fun t nt=>?_⟩
     exact k ⟨.plain,sg,0,m % 41-20⟩ t _ (C3e ⟨s0,s1⟩ ⟨by decide,by decide+kernel⟩ ⟨by omega,by omega⟩) (Same.upd nt) B5
   rintro σ' H4 ⟨rfl,rfl⟩
   refine⟨fun σ' H'=>H'=H4/\σ'=[some (.int c),some (.int kd),some (.int sg),some (.int m),none],?_,?_⟩
   . refine⟨_,rfl,rfl,_,rfl,U9 (fun h=>?_) (fun h=>⟨rfl,rfl⟩)⟩
     refine⟨_,rfl,z4,fun t1 n1=>⟨z4,fun t2 n2=>⟨z2,fun l nl=>?_⟩⟩⟩
     have u1:=Same.upd (o:= .tup [.str "end",.int sg,.int 0,.int 0]) n1
     have u2:=Same.upd (o:= .tup [.str "none",.int 0,.int 0,.int 0]) n2
     have u3:=Same.upd (o:= .lst [.ref t1,.ref t2]) nl
     refine⟨_,rfl,_,_,rfl,rfl,(by decide:(0:Int)<4),rfl,.inr ⟨_,rfl,?_⟩⟩
     by_cases hm:V.int (m % 4)=V.int 0
     . rw[decide_eq_true hm]
       exact⟨l,_,_,_,rfl,rfl,SqL.of B5,G2 (j:=1) rfl,k ⟨.none,0,0,0⟩ t2 _ Y7m ((u1.trans u2).trans u3) (u3 _ _ B5)⟩
     . rw[decide_eq_false hm]
       exact⟨l,_,_,_,rfl,rfl,SqL.of B5,G2 (j:=0) rfl,k ⟨.end_,sg,0,0⟩ t1 _ (Z5h ⟨s0,s1⟩) ((u1.trans u2).trans u3) ((u2.trans u3) _ _ B5)⟩
   rintro σ' H5 ⟨rfl,rfl⟩
   refine⟨fun σ' H'=>H'=H5/\∃pw:Int, -200<=pw/\pw<=200/\σ'=[some (.int c),some (.int kd),some (.int sg),some (.int m),some (.int pw)],⟨_,rfl,_,_,rfl,rfl,(by decide:(0:Int)<13),_,_,rfl,rfl,rfl,m % 13-6,by omega,by omega,rfl⟩,?_⟩
   rintro σ' H6 ⟨rfl,pw,p0,p1,rfl⟩
   refine⟨fun σ' H'=>H'=H6/\∃pw:Int, -200<=pw/\pw<=200/\σ'=[some (.int c),some (.int kd),some (.int sg),some (.int m),some (.int pw)],?_,?_⟩
   . refine⟨_,rfl,_,_,rfl,rfl,dv (n:=13) (by decide) (by decide+kernel),_,_,rfl,rfl,(by decide:(0:Int)<4),rfl,_,rfl,U9 (fun _=>?_) (fun _=>⟨rfl,pw,p0,p1,rfl⟩)⟩
     refine⟨_,?_,fun _ _ h=>h⟩
     exact⟨_,rfl,_,_,rfl,rfl,dv (n:=52) (by decide) (by decide+kernel),_,_,rfl,rfl,(by decide:(0:Int)<141),_,_,rfl,rfl,rfl,m/52 % 141-70,by omega,by omega,rfl⟩
   rintro σ' H7 ⟨rfl,pw,p0,p1,rfl⟩
   refine⟨fun σ' H'=>H'=H7/\∃pw:Int, -200<=pw/\pw<=200/\σ'=[some (.int c),some (.int kd),some (.int sg),some (.int m),some (.int pw)],?_,?_⟩
   . refine⟨_,rfl,_,_,rfl,rfl,dv (n:=13) (by decide) (by decide+kernel),_,_,rfl,rfl,(by decide:(0:Int)<16),rfl,_,rfl,U9 (fun _=>?_) (fun _=>⟨rfl,pw,p0,p1,rfl⟩)⟩
     refine⟨_,?_,fun _ _ h=>h⟩
     exact⟨_,rfl,_,_,rfl,rfl,dv (n:=208) (by decide) (by decide+kernel),_,_,rfl,rfl,(by decide:(0:Int)<401),_,_,rfl,rfl,rfl,m/208 % 401-200,by omega,by omega,rfl⟩
   rintro σ' H8 ⟨rfl,pw,p0,p1,rfl⟩
   refine⟨_,rfl,_,rfl,_,rfl,_,_,rfl,rfl,dv (n:=16) (by decide) (by decide+kernel),_,_,rfl,rfl,(by decide:(0:Int)<8),c,_,rfl,Int.emod_nonneg _ (by decide),Int.emod_lt_of_pos _ (by decide),fun fg H9 g0 g1 s9=>?_⟩
   refine⟨_,rfl,z4,fun t nt=>?_⟩
   exact k ⟨.plain,sg,fg,pw⟩ t _ (C3e ⟨s0,s1⟩ ⟨g0,g1⟩ ⟨p0,p1⟩) (s9.trans (Same.upd nt)) B5
noncomputable def U1k (CN:Addr):Sp:=fun vs H Q _=>∃t x,vs=[.ref t]/\H t=some (.tup (Nm.vs x))/\x.Wf/\∀n H',H n=none ->Same H H' ->NumIs CN H' n x ->Q (.ref n) H'
theorem Y7j:FnScope ["_law_one"] ["_law_one"] (A3 B4y):=scK
theorem V0w{f f1 f2 f3 CN CB:Addr}(D:Def K mg "_law_made" ["_law_one"] B4y f fd)(dA:Def K mg "plain" ["sign","figures","power"] B0c f1 fd1)(dB:FnOk P w K mg base (CX1 P w) 3 f1 fd1 ["sign","figures","power"] (D4d K CN CB))
   (dC:Def K mg "end" ["sign"] C8a f2 fd2) (dD:FnOk P w K mg base (CX1 P w) 3 f2 fd2 ["sign"] (G5w K CN CB)) (dE:Def K mg "nothing" [] V8 f3 fd3) (dF:FnOk P w K mg base (CX1 P w) 3 f3 fd3 [] (Z2 CN)):FnOk P w K mg base (CX1 P w) 4 f fd ["_law_one"] (U1k CN):=by
 refine D.F.okE Y7j (fun vs H Q E h=>?_) (fun X cdv A outer s H vs Q E hX hr hx h=>?_)
 . obtain⟨t,x,rfl,_⟩:=h
   rfl
 . subst hX
   obtain⟨t,x,rfl,ht,wf,k⟩:=h
   refine⟨_,(A6 (G0 (D0 G4 (U2 G8 (pv 0) A7 (fun _ _=>rfl)) C9 (C8 _)) (A8 (B7 (C6 dA dB hr hx (A1 (U2 G8 (pv 0) A7 (fun _ _=>rfl)) (A1 (U2 G8 (pv 0) A7 (fun _ _=>rfl)) (A1 (U2 G8 (pv 0) A7 (fun _ _=>rfl)) A5)))))) D3)
     (A6 (G0 (D0 G4 (U2 G8 (pv 0) A7 (fun _ _=>rfl)) C9 (C8 _)) (A8 (B7 (C6 dC dD hr hx (A1 (U2 G8 (pv 0) A7 (fun _ _=>rfl)) A5)))) D3)
     (A8 (B7 (A5m dE dF hr hx))))),?_⟩
   have ok:=wf.ok
   have g1:A5z 0 1 (.int x.s):=⟨_,rfl,ok.s0,ok.s1⟩
   have g2:A5z 0 (10^60-1) (.int x.f):=⟨_,rfl,ok.f0,ok.f1⟩
   have g3:A5z (-200) 200 (.int x.p):=⟨_,rfl,ok.p0,ok.p1⟩
   have ix:∀j:Nat,j<4 ->atI x.vs (j:Int)=some (x.vs.getD j .non):=fun j hj=>G2 (j:=j) (by
     rcases(by omega:j=0\/j=1\/j=2\/j=3) with rfl|rfl|rfl|rfl<;>rfl)
   refine⟨_,rfl,t,_,_,_,rfl,rfl,SqT.of ht,ix 0 (by decide),rfl,_,rfl,U9 (fun h=>?_) (fun h=>?_)⟩
   . have hk:x.k= .plain:=eqS (b:= .plain) h
     refine⟨_,rfl,t,_,_,_,rfl,rfl,SqT.of ht,ix 1 (by decide),_,rfl,t,_,_,_,rfl,rfl,SqT.of ht,ix 2 (by decide),_,rfl,t,_,_,_,rfl,rfl,SqT.of ht,ix 3 (by decide),_,_,_,rfl,.inl ⟨g1,g2,g3,fun n H' nn sm num=>k n H' nn sm ?_⟩⟩
     unfold NumIs
     rw[hk]
     exact num
   . have hk:x.k≠ .plain:=neS (b:= .plain) h
     refine⟨_,rfl,t,_,_,_,rfl,rfl,SqT.of ht,ix 0 (by decide),rfl,_,rfl,U9 (fun h=>?_) (fun h=>?_)⟩
     . have hk:x.k= .end_:=eqS (b:= .end_) h
       obtain⟨ef,ep⟩:=wf.e hk
       refine⟨_,rfl,t,_,_,_,rfl,rfl,SqT.of ht,ix 1 (by decide),_,rfl,.inl ⟨g1,fun n H' nn sm num=>k n H' nn sm ?_⟩⟩
       unfold NumIs
       rw[hk,ef,ep]
       exact num
     . have hk2:x.k≠ .end_:=neS (b:= .end_) h
       have hk3:x.k= .none:=by
         cases hk':x.k with
         |plain=>exact absurd hk' hk
         |end_=>exact absurd hk' hk2
         |none=>rfl
       obtain⟨es,ef,ep⟩:=wf.n hk3
       refine⟨rfl,fun n H' nn sm num=>k n H' nn sm ?_⟩
       unfold NumIs
       rw[hk3,es,ef,ep]
       exact num
end
noncomputable def rdS (zs:List Str):PyData:= .list (zs.map PyData.str)
noncomputable def OkL (zs:List Str):Prop:=zs.length<=100/\∀z∈zs,PyData.strOk z=true
theorem layS:∀{zs:List Str},(∀z∈zs,PyData.strOk z=true) ->PyData.canLayAll0 (zs.map PyData.str)=true/\PyData.depthAll (zs.map PyData.str)<=1
 | [],_=>by simp[PyData.canLayAll0,PyData.depthAll]
 | z ::zs,h=>by
   obtain⟨a,b⟩:=layS (zs:=zs) fun z' h'=>h z' (List.mem_cons_of_mem _ h')
   have c:=h z List.mem_cons_self
   constructor
   . simp[PyData.canLayAll0,PyData.canLay0,c,a]
   . simp only[List.map_cons,PyData.depthAll,PyData.depth]
     omega
theorem shS{zs:List Str}(h:OkL zs):SeqAt.shaped (rdS zs)=true:=by
 obtain⟨a,b⟩:=layS h.2
 unfold SeqAt.shaped rdS
 simp only[PyData.canLay0,PyData.depth,a,Bool.and_true,Bool.and_eq_true,decide_eq_true_eq,List.length_map]
 exact⟨trivial,decide_eq_true (by omega)⟩
theorem eqSs:∀zs:List Str,PyData.eqv (rdS zs) (rdS zs)=true:=by
 have h:∀zs:List Str,PyData.eqvAll (zs.map PyData.str) (zs.map PyData.str)=true:=fun zs=>by
   induction zs with
   |nil=>simp[PyData.eqvAll]
   |cons z zs ih=>simp[PyData.eqvAll,PyData.eqv,ih]
 intro zs
 simp[rdS,PyData.eqv,h]
theorem Z9p{K:Frag}{H:Hp}:∀zs:List Str,RdDs K H (zs.map V.str) (zs.map PyData.str)
 | []=> .nil
 |z::zs=> .cons (.str z) (Z9p zs)
theorem D3p{K:Frag}{H:Hp}{p:Addr}{zs:List Str}(h:H p=some (.lst (zs.map V.str))):RdD K H (.ref p) (rdS zs):= .lst (SqL.of h) (Z9p zs)
noncomputable def A9k (k:Str) (s f p:Int):PyData:= .tuple [.str k,.int s,.int f,.int p]
theorem shD{k:Str}(s f p:Int)(h:PyData.strOk k=true):SeqAt.shaped (A9k k s f p)=true:=by
 unfold SeqAt.shaped A9k
 simp[PyData.canLay0,PyData.canLayAll0,PyData.depth,PyData.depthAll,h]
theorem eqD(k:Str)(s f p:Int):PyData.eqv (A9k k s f p) (A9k k s f p)=true:=by
 simp[A9k,PyData.eqv,PyData.eqvAll]
theorem rdD{K:Frag}{H:Hp}{d:Addr}{k:Str}{s f p:Int}(h:H d=some (.tup [.str k,.int s,.int f,.int p])):RdD K H (.ref d) (A9k k s f p):= .tup (SqT.of h) (.cons (.str _) (.cons (.int _) (.cons (.int _) (.cons (.int _) .nil))))
theorem okK(k:Kd):PyData.strOk k.str=true:=by cases k<;>decide+kernel
structure Own4(K:Frag)(CN:Addr):Prop where
 non:kitOne K (.type "NoneType") (.ref CN)=some false
 int:kitOne K (.type "int") (.ref CN)=some false
 str:kitOne K (.type "str") (.ref CN)=some false
 bl:kitOne K (.type "bool") (.ref CN)=some false
 tup:kitOne K (.type "tuple") (.ref CN)=some false
 lst:kitOne K (.type "list") (.ref CN)=some false
 dic:kitOne K (.type "dict") (.ref CN)=some false
 lt:kitOne K (.type "list") (.type "tuple")=some false
section
variable{P:Program}{w:World}{K:Frag}{mg:Str ->Option Value}{base:Heap}
noncomputable def B8b (K:Frag) (CN CB:Addr):Sp:=fun vs H Q E=>∃c v1 v2,vs=[c,v1,v2]/\(NotNum K CN H v1\/∃n x,v1= .ref n/\NumIs CN H n x/\NotNum K CN H v2)/\∀H',Same H H' ->E (.ref CB) none H'
theorem G9x{f f1 f2 f3 f4 f5 f6 f7 f8 fR CN CC CB CB' CT CW CR CE:Addr}{cw:Wy ->Addr}{fd fd1 fd2 fd3 fd4 fd5 fd6 fd7 fd8 fdR:FuncData}{d0:Value}{gP:List Value ->List Value ->List Value}{vP:List V ->List V ->List V}(D:Def K mg "over" ["context","one","other"] B6w f fd)(dA:Def K mg "need_numbers" ["things"] A0c f1 fd1)(dB:FnOk P w K mg base (CX1 P w) 2 f1 fd1 ["things"] (A3z K CN CB'))
   (dC:Def K mg "some_of_kind" ["numbers","kind"] A2u f2 fd2) (dD:FnOk P w K mg base (CX1 P w) 1 f2 fd2 ["numbers","kind"] (A6u CN)) (dE:Def K mg "has_plain_quotient" ["one","other"] B4p f3 fd3) (dF:FnOk P w K mg base (CX1 P w) 1 f3 fd3 ["one","other"] (C3k CN))
   (dG:Def K mg "odd_quotient" ["context","one","other","ideal"] B4m f4 fd4) (dH:FnOk P w K mg base (CX1 P w) 5 f4 fd4 ["context","one","other","ideal"] (C3y CN CC CT)) (dJ:Def K mg "unlike_sign" ["one","other"] A0t f5 fd5) (dL:FnOk P w K mg base (CX1 P w) 1 f5 fd5 ["one","other"] (A5w CN)) (dM:Def K mg "nought" ["context","sign","ideal"] Z5 f6 fd6) (dN:FnOk P w K mg base (CX1 P w) 3 f6 fd6 ["context","sign","ideal"] (A3u CN CC))
   (dP:Def K mg "settled" ["context","sign","exact","ideal"] Z4 f7 fd7) (dQ:FnOk P w K mg base (CX1 P w) 6 f7 fd7 ["context","sign","exact","ideal"] (A3n CN CC CT CR)) (dS:Def K mg "nothing" [] V8 f8 fd8) (dU:FnOk P w K mg base (CX1 P w) 3 f8 fd8 [] (Z2 CN))
   (C:CtxM P w K mg base CC CB CT CW cw) (N:Num K mg CN) (MR:MakeR P w K mg base CR fR fdR d0 gP vP) (R:RatC K mg CR CE):FnOk P w K mg base (CX1 P w) 7 f fd ["context","one","other"] (B8b K CN CB'):=by
 refine D.F.okE scOver (fun vs H Q E h=>?_) (fun X cdv A outer s H vs Q E hX hr hx h=>?_)
 . obtain⟨c,v1,v2,rfl,_⟩:=h
   rfl
 . subst hX
   obtain⟨c,v1,v2,rfl,bad,k⟩:=h
   obtain⟨fL,fdL,mL,gL,bL⟩:=C.low
   refine⟨_,(A6 (V5 (C6 dA dB hr hx (A1 (U1 (A1 (pv 1) (A1 (pv 2) A5))) A5)))
     (A6 (G0 (V4 (C6 dC dD hr hx (A1 (U1 (A1 (pv 1) (A1 (pv 2) A5))) (A1 C9 A5)))) (A8 (B7 (A5m dS dU hr hx))) D3)
     (A6 (G0 (A1h (V4 (C6 dE dF hr hx (A1 (pv 1) (A1 (pv 2) A5))))) (A8 (B7 (C6 dG dH hr hx (A1 (pv 0) (A1 (pv 1) (A1 (pv 2) (A1 (A1j (pv 0) C.c.cl mL gL hr bL .nil hx) A5))))))) D3)
     (A6 (D7 (i:=3) scOver.nd rfl (Or.inl rfl) (C6 dJ dL hr hx (A1 (pv 1) (A1 (pv 2) A5))))
     (A6 (D7 (i:=4) scOver.nd rfl (Or.inl rfl) (C7 V1 (D5 (pv 1) rfl) (D5 (pv 2) rfl)))
     (A6 (G0 (D0 G4 (D5 (pv 1) rfl) A7 (C8 _)) (A8 (B7 (C6 dM dN hr hx (A1 (pv 0) (A1 (pv 3) (A1 (pv 4) A5)))))) D3)
     (A8 (B7 (C6 dP dQ hr hx (A1 (pv 0) (A1 (pv 3) (A1 (A5v MR.m MR.g hr R.g MR.b3 .nil hx (A1 (D5 (pv 1) rfl) (A1 (D5 (pv 2) rfl) (A1 (pv 4) A5)))) (A1 (pv 4) A5))))))))))))),?_⟩
   refine⟨_,rfl,_,rfl,D8 (show 2<=1000 by decide),fun l nl=>?_⟩
   have u:=Same.upd (o:= .lst [v1,v2]) nl
   rcases bad with b|⟨n,x,rfl,num,b⟩
   . exact⟨l,[],rfl,(fun p hp=>by cases hp),.inr ⟨v1,[v2],B5,b.same u,k _ u⟩⟩
   . exact⟨l,[(n,x)],rfl,(fun p hp=>by rw[List.mem_singleton.mp hp];exact num.same u),.inr ⟨v2,[],B5,b.same u,k _ u⟩⟩
theorem C2q{f f1 f2 f3 f4 f5 f6 f7 f8 f9 g1 g2 fR CN CC CB CB' CT CW CR CE:Addr}{cw:Wy ->Addr}{fd fd1 fd2 fd3 fd4 fd5 fd6 fd7 fd8 fd9 gd1 gd2 fdR:FuncData}{d0:Value}{gP:List Value ->List Value ->List Value}{vP:List V ->List V ->List V}(D:Def K mg "whole_over" ["context","one","other"] Y4 f fd)(dA:Def K mg "need_numbers" ["things"] A0c f1 fd1)(dB:FnOk P w K mg base (CX1 P w) 2 f1 fd1 ["things"] (A3z K CN CB'))
   (dC:Def K mg "some_of_kind" ["numbers","kind"] A2u f2 fd2) (dD:FnOk P w K mg base (CX1 P w) 1 f2 fd2 ["numbers","kind"] (A6u CN)) (dE:Def K mg "has_plain_quotient" ["one","other"] B4p f3 fd3) (dF:FnOk P w K mg base (CX1 P w) 1 f3 fd3 ["one","other"] (C3k CN))
   (dG:Def K mg "odd_quotient" ["context","one","other","ideal"] B4m f4 fd4) (dH:FnOk P w K mg base (CX1 P w) 5 f4 fd4 ["context","one","other","ideal"] (C3y CN CC CT)) (dJ:Def K mg "unlike_sign" ["one","other"] A0t f5 fd5) (dL:FnOk P w K mg base (CX1 P w) 1 f5 fd5 ["one","other"] (A5w CN)) (dM:Def K mg "nought" ["context","sign","ideal"] Z5 f6 fd6) (dN:FnOk P w K mg base (CX1 P w) 3 f6 fd6 ["context","sign","ideal"] (A3u CN CC))
   (dP:Def K mg "settled" ["context","sign","exact","ideal"] Z4 f7 fd7) (dQ:FnOk P w K mg base (CX1 P w) 6 f7 fd7 ["context","sign","exact","ideal"] (A3n CN CC CT CR)) (dS:Def K mg "nothing" [] V8 f8 fd8) (dU:FnOk P w K mg base (CX1 P w) 3 f8 fd8 [] (Z2 CN)) (dW:Def K mg "void" ["context"] A9s f9 fd9) (dX:FnOk P w K mg base (CX1 P w) 4 f9 fd9 ["context"] (B8f CN CC CT))
   (dY:Def K mg "whole_part" ["one","other"] Y2 g1 gd1) (dZ:FnOk P w K mg base (CX1 P w) 4 g1 gd1 ["one","other"] (A2f CN)) (gA:Def K mg "ten_to" ["count"] Z9 g2 gd2) (gB:FnOk P w K mg base (CX1 P w) 2 g2 gd2 ["count"] A1u)
   (C:CtxM P w K mg base CC CB CT CW cw) (N:Num K mg CN) (MR:MakeR P w K mg base CR fR fdR d0 gP vP) (R:RatC K mg CR CE) (O:Own mg):FnOk P w K mg base (CX1 P w) 7 f fd ["context","one","other"] (B8b K CN CB'):=by
 refine D.F.okE scWholeOver (fun vs H Q E h=>?_) (fun X cdv A outer s H vs Q E hX hr hx h=>?_)
 . obtain⟨c,v1,v2,rfl,_⟩:=h
   rfl
 . subst hX
   obtain⟨c,v1,v2,rfl,bad,k⟩:=h
   have V2:Vals [.int 0] [d0]:= .cons MR.r0 .nil
   refine⟨_,(A6 (V5 (C6 dA dB hr hx (A1 (U1 (A1 (pv 1) (A1 (pv 2) A5))) A5)))
     (A6 (G0 (V4 (C6 dC dD hr hx (A1 (U1 (A1 (pv 1) (A1 (pv 2) A5))) (A1 C9 A5)))) (A8 (B7 (A5m dS dU hr hx))) D3)
     (A6 (G0 (A1h (V4 (C6 dE dF hr hx (A1 (pv 1) (A1 (pv 2) A5))))) (A8 (B7 (C6 dG dH hr hx (A1 (pv 0) (A1 (pv 1) (A1 (pv 2) (A1 A7 A5))))))) D3)
     (A6 (D7 (i:=3) scWholeOver.nd rfl (Or.inl rfl) (C6 dY dZ hr hx (A1 (pv 1) (A1 (pv 2) A5))))
     (A6 (G0 (D0 C3h (pv 3) (C6 gA gB hr hx (A1 (D5 (pv 0) rfl) A5)) (C8 _)) (A8 (B7 (C6 dW dX hr hx (A1 (pv 0) A5)))) D3)
     (A6 (D7 (i:=4) scWholeOver.nd rfl (Or.inl rfl) (C6 dJ dL hr hx (A1 (pv 1) (A1 (pv 2) A5))))
     (A6 (D7 (i:=5) scWholeOver.nd rfl (Or.inl rfl) (J1 (A1k rfl) (by rfl) O.max_ boot_max (A1 (C7 V1 (D5 (pv 1) rfl) (D5 (pv 2) rfl)) (A1 A7 A5))))
     (A6 (G0 (D0 G4 (pv 3) A7 (C8 _)) (A8 (B7 (C6 dM dN hr hx (A1 (pv 0) (A1 (pv 4) (A1 (pv 5) A5)))))) D3)
     (A8 (B7 (C6 dP dQ hr hx (A1 (pv 0) (A1 (pv 4) (A1 (A5v MR.m MR.g hr R.g MR.b2 V2 hx (A1 (pv 3) (A1 A7 A5))) (A1 (pv 5) A5))))))))))))))),?_⟩
   refine⟨_,rfl,_,rfl,D8 (show 2<=1000 by decide),fun l nl=>?_⟩
   have u:=Same.upd (o:= .lst [v1,v2]) nl
   rcases bad with b|⟨n,x,rfl,num,b⟩
   . exact⟨l,[],rfl,(fun p hp=>by cases hp),.inr ⟨v1,[v2],B5,b.same u,k _ u⟩⟩
   . exact⟨l,[(n,x)],rfl,(fun p hp=>by rw[List.mem_singleton.mp hp];exact num.same u),.inr ⟨v2,[],B5,b.same u,k _ u⟩⟩
theorem G9v{f f1 f2 f3 f4 f5 f6 f7 f8 fI CN CC CB CB' CT CW:Addr}{cw:Wy ->Addr}{fd fd1 fd2 fd3 fd4 fd5 fd6 fd7 fd8 fdI:FuncData}(D:Def K mg "rest_of" ["context","one","other"] A3b f fd)(dG:Def K mg "need_numbers" ["things"] A0c f1 fd1)(dH:FnOk P w K mg base (CX1 P w) 2 f1 fd1 ["things"] (A3z K CN CB'))
   (dJ:Def K mg "some_of_kind" ["numbers","kind"] A2u f2 fd2) (dL:FnOk P w K mg base (CX1 P w) 1 f2 fd2 ["numbers","kind"] (A6u CN)) (dM:Def K mg "nothing" [] V8 f3 fd3) (dN:FnOk P w K mg base (CX1 P w) 3 f3 fd3 [] (Z2 CN))
   (dA:Def K mg "void" ["context"] A9s f4 fd4) (dB:FnOk P w K mg base (CX1 P w) 4 f4 fd4 ["context"] (B8f CN CC CT)) (dC:Def K mg "rounded" ["context","number"] A2b f5 fd5) (dD:FnOk P w K mg base (CX1 P w) 7 f5 fd5 ["context","number"] (B6q CN CC CT))
   (dP:Def K mg "whole_part" ["one","other"] Y2 f6 fd6) (dQ:FnOk P w K mg base (CX1 P w) 4 f6 fd6 ["one","other"] (A2f CN)) (dS:Def K mg "ten_to" ["count"] Z9 f7 fd7) (dU:FnOk P w K mg base (CX1 P w) 2 f7 fd7 ["count"] A1u) (dE:Def K mg "whole_at" ["number","power"] A0s f8 fd8) (dF:FnOk P w K mg base (CX1 P w) 3 f8 fd8 ["number","power"] (B3p CN))
   (C:CtxM P w K mg base CC CB CT CW cw) (N:Num K mg CN) (M:MakeN P w K mg base CN fI fdI) (O:Own mg):FnOk P w K mg base (CX1 P w) 8 f fd ["context","one","other"] (B8b K CN CB'):=by
 refine D.F.okE scRestOf (fun vs H Q E h=>?_) (fun X cdv A outer s H vs Q E hX hr hx h=>?_)
 . obtain⟨c,v1,v2,rfl,_⟩:=h
   rfl
 . subst hX
   obtain⟨c,v1,v2,rfl,bad,k⟩:=h
   refine⟨_,(A6 (V5 (C6 dG dH hr hx (A1 (U1 (A1 (pv 1) (A1 (pv 2) A5))) A5)))
     (A6 (G0 (V4 (C6 dJ dL hr hx (A1 (U1 (A1 (pv 1) (A1 (pv 2) A5))) (A1 C9 A5)))) (A8 (B7 (A5m dM dN hr hx))) D3)
     (A6 (G0 (PW.pt (B4k (D0 G4 (D5 (pv 1) rfl) C9 (C8 _)) (A6s (PW.pt (B8j (D0 G4 (D5 (pv 2) rfl) C9 (C8 _)) (B6j (D0 G4 (D5 (pv 2) rfl) A7 (C8 _)))))))) (A8 (B7 (C6 dA dB hr hx (A1 (pv 0) A5)))) D3)
     (A6 (G0 (D0 G4 (D5 (pv 2) rfl) C9 (C8 _)) (A8 (B7 (C6 dC dD hr hx (A1 (pv 0) (A1 (pv 1) A5))))) D3)
     (A6 (D7 (i:=3) scRestOf.nd rfl (Or.inl rfl) (C6 dP dQ hr hx (A1 (pv 1) (A1 (pv 2) A5))))
     (A6 (G0 (D0 C3h (pv 3) (C6 dS dU hr hx (A1 (D5 (pv 0) rfl) A5)) (C8 _)) (A8 (B7 (C6 dA dB hr hx (A1 (pv 0) A5)))) D3)
     (A6 (D7 (i:=4) scRestOf.nd rfl (Or.inl rfl) (J1 (A6a rfl) (by rfl) O.min_ boot_min (A1 (D5 (pv 1) rfl) (A1 (D5 (pv 2) rfl) A5))))
     (A6 (D7 (i:=5) scRestOf.nd rfl (Or.inl rfl) (C7 V1 (J1 A1z (by rfl) O.abs_ boot_abs (A1 (C6 dE dF hr hx (A1 (pv 1) (A1 (pv 4) A5))) A5)) (C7 V0 (pv 3) (J1 A1z (by rfl) O.abs_ boot_abs (A1 (C6 dE dF hr hx (A1 (pv 2) (A1 (pv 4) A5))) A5)))))
     (A8 (B7 (C6 dC dD hr hx (A1 (pv 0) (A1 (A5v M.m (FnOk.up M.g) hr N.g M.b .nil hx (A1 C9 (A1 (D5 (pv 1) rfl) (A1 (pv 5) (A1 (pv 4) A5))))) A5))))))))))))),?_⟩
   refine⟨_,rfl,_,rfl,D8 (show 2<=1000 by decide),fun l nl=>?_⟩
   have u:=Same.upd (o:= .lst [v1,v2]) nl
   rcases bad with b|⟨n,x,rfl,num,b⟩
   . exact⟨l,[],rfl,(fun p hp=>by cases hp),.inr ⟨v1,[v2],B5,b.same u,k _ u⟩⟩
   . exact⟨l,[(n,x)],rfl,(fun p hp=>by rw[List.mem_singleton.mp hp];exact num.same u),.inr ⟨v2,[],B5,b.same u,k _ u⟩⟩
end
noncomputable abbrev A4d:Stmt:=(top 76)
theorem D4a{b:Bool}{A B:Prop}(h1:b=true ->A)(h2:b=false ->B):if b=true then A else B:=by
 cases b with
 |true=>exact h1 rfl
 |false=>exact h2 rfl
structure ErrsN(mg:Str ->Option Value)(C1 C2 C3 C4 C5:Addr):Prop where
 g1:mg "BadNumber"=some (.ref C1)
 g2:mg "NoText"=some (.ref C2)
 g3:mg "BadContext"=some (.ref C3)
 g4:mg "BadCount"=some (.ref C4)
 g5:mg "Trapped"=some (.ref C5)
structure CaughtN(K:Frag)(mg:Str ->Option Value)(CR CB C2 C3 C4 C5:Addr):Prop where
 g:mg "ReckonError"=some (.ref CR)
 c:Clause K CR
 sub:subIn K (.ref CB) (.ref CR)=some true
 fits:Fits K CB CB C2 C3 C4 C5 true false false false false
section
variable{P:Program}{w:World}{K:Frag}{mg:Str ->Option Value}{base:Heap}
theorem U3r{X:Cx}{tg l:Expr}{tl:TE}(hK:X.K=K)(hl:PE X l tl):PIH X tg l (V1s K tl):=by
 subst hK
 exact V2p hl
theorem C4a{X:Cx}(hK:X.K=K):A2x X (.type "tuple") (fun xs H Q=>∃p ys,xs=[.ref p]/\((SqL K H p ys/\∀l,H l=none ->Q (.ref l) (upd H l (.tup ys)))\/(SqT K H p ys/\Q (.ref p) H))):=by
 subst hK
 exact C7w
theorem V1j{X:Cx}{k:Nat}{EH:EK}{x:Str}{p pos:Pos}{i:Nat}(hx:G5 X EH)(hr:Room k X.A)(hN:X.N[i]?=some x)(hv:Vis X.env.scope x)(e1:X.prog=P)(e2:X.w=w)(e3:X.K=K)(e4:X.mg=mg)(e5:X.base=base)(hex:X.ex=[]:=by rfl)(hd:(x==("__debug__":Str))=false:=by decide)(hcd:(x==("__classdict__":Str))=false:=by decide):
   PE X (.Call (.Name x p) [] [] pos) (Z3v P w K mg base k i EH):=by
 subst e1 e2 e3 e4 e5
 exact Y6w hN hv hr hx hex hd hcd
noncomputable def B8a (P:Program) (w:World) (K:Frag) (mg:Str ->Option Value) (base:Heap) (k:Nat) (CB:Addr):Sp:=fun vs H Q _=>∃f J spd,vs=[.ref f]/\DeedOk P w K mg base k f J spd/\J H/\
 ∀(Qd:VK) (Ed:XK),(∀H1,(∀p H2,Same H1 H2 ->H2 p=some (.tup [.str "number"]) ->Q (.ref p) H2) ->Ed (.ref CB) none H1) ->spd H Qd Ed
theorem scLWord22:FnScope ["_law_deed","error","_law_some"] ["_law_deed"] (A3 A4d):=scK
theorem J0w{k:Nat}{f CR C1 C2 C3 C4 C5:Addr}(D:Def K mg "_law_word" ["_law_deed"] A4d f fd)(R:CaughtN K mg CR C1 C2 C3 C4 C5)(ES:ErrsN mg C1 C2 C3 C4 C5)(O:Own mg):FnOk P w K mg base (CX1 P w) (k+1) f fd ["_law_deed"] (B8a P w K mg base k C1):=by
 refine D.F.okE scLWord22 (fun vs H Q E h=>?_) (fun X cdv A outer s H vs Q E hX hr hx h=>?_)
 . obtain⟨f,J,spd,rfl,_⟩:=h
   rfl
 . subst hX
   obtain⟨g,J,spd,rfl,DO,hJ,h⟩:=h
   have z2:2<=sizeLine:=D8 (by decide)
   refine⟨_,(A6 (Z5d ⟨rfl,rfl,rfl⟩ (by rfl) R.g R.c scLWord22.nd (i:=1) rfl rfl (fun pins Ew EHb hc=>(A8 (V5 (V1j (P:=P) (w:=w) (K:=K) (mg:=mg) (base:=base) (i:=0) hc hr rfl (.inl rfl) rfl rfl rfl rfl rfl)))) (fun pins a=>(A6 (D6 (D7 (i:=2) scLWord22.nd rfl (Or.inl rfl) (U1 (A1 (V3 (A1 C9 (A1 (D1u (K:=K) rfl O.isi (pv 1) (G5t ES.g1)) A5))) (A1 (V3 (A1 C9 (A1 (D1u (K:=K) rfl O.isi (pv 1) (G5t ES.g2)) A5))) A5)))))
     (A6 (D6 (D7 (i:=2) scLWord22.nd rfl (Or.inl rfl) (C7 D4r (pv 2) (U1 (A1 (V3 (A1 C9 (A1 (D1u (K:=K) rfl O.isi (pv 1) (G5t ES.g3)) A5))) (A1 (V3 (A1 C9 (A1 (D1u (K:=K) rfl O.isi (pv 1) (G5t ES.g4)) A5))) A5))))))
     (A6 (D6 (D7 (i:=2) scLWord22.nd rfl (Or.inl rfl) (C7 D4r (pv 2) (U1 (A1 (V3 (A1 C9 (A1 (D1u (K:=K) rfl O.isi (pv 1) (G5t ES.g5)) A5))) (A1 (V3 (A1 C9 (A1 (Z4t (D1u (K:=K) rfl O.isi (pv 1) (pty O.ValueError_ (show bootBuiltins "ValueError"=some (.type "ValueError") by decide+kernel)))) A5))) A5))))))
     (A8 (B7 (A5y (C4a (K:=K) rfl) (by rfl) O.tuple_ boot_tuple (A1 (V2a (N:=["_law_name","_law_fits_here"]) (F:=[]) (js:=[]) (CompScopeF.of0 ⟨rfl,by decide+kernel,by decide+kernel,by decide+kernel,by decide+kernel⟩ (by rfl)) (a:=a) (by rfl) (U3r (K:=K) rfl (pv 2)) (by rfl) (fun C s₀ H₀ ex pn h=>Y8n (K:=K) (n:=2) rfl h (A5u (A0b (i:=0) (by decide+kernel:(["_law_name","_law_fits_here"]:List Str).Nodup) rfl (Or.inl rfl)) (A5u (A0b (i:=1) (by decide+kernel:(["_law_name","_law_fits_here"]:List Str).Nodup) rfl (Or.inl rfl)) D3u))) (fun C s₀ H₀ ex pn h=>(V4 (pv 1))) (fun C s₀ H₀ ex pn h=>(pv 0))) A5)))))))))
     (A8 (B7 (V3 A5)))),?_⟩
   refine⟨g,J,spd,rfl,DO,hJ,h _ _ fun H1 k1=>⟨R.sub,fun a t T na=>?_⟩⟩
   have u1:=Same.upd (o:= .frz (A0p (.ref C1) t none (.ref T)) (.own a)) na
   have ea:upd H1 a (.frz (A0p (.ref C1) t none (.ref T)) (.own a)) a=some (.frz (A0p (.ref C1) t none (.ref T)) (.own a)):=B5
   generalize upd H1 a (.frz (A0p (.ref C1) t none (.ref T)) (.own a))=G at*
   have ty:∀{H':Hp},Same G H' ->TyE K H' (.ref a) (.ref C1):=fun s=> .exc (s _ _ ea) R.fits.k
   refine⟨fun σ' H'=>∃l p1 p2,Same G H'/\H' l=some (.lst [.ref p1,.ref p2])/\H' p1=some (.tup [.str "number",.bl true])/\H' p2=some (.tup [.str "text",.bl false])/\σ'=[some (.ref g),some (.ref a),some (.ref l)],?_,?_⟩
   . refine⟨_,rfl,_,_,_,_,true,rfl,rfl,ty (Same.refl _),R.fits.h1,z2,fun p1 n1=>?_⟩
     have u1':=Same.upd (o:= .tup [.str "number",.bl true]) n1
     refine⟨_,rfl,_,_,_,_,false,rfl,rfl,ty u1',R.fits.h2,z2,fun p2 n2=>⟨z2,fun l nl=>?_⟩⟩
     have u2:=Same.upd (o:= .tup [.str "text",.bl false]) n2
     have u3:=Same.upd (o:= .lst [.ref p1,.ref p2]) nl
     exact⟨l,p1,p2,u1'.trans (u2.trans u3),B5,u3 _ _ (u2 _ _ B5),u3 _ _ B5,rfl⟩
   rintro σ' H2 ⟨l,p1,p2,s2,el,e1,e2,rfl⟩
   refine⟨fun σ' H'=>∃l p1 p2 p3 p4,Same G H'/\H' l=some (.lst [.ref p1,.ref p2,.ref p3,.ref p4])/\H' p1=some (.tup [.str "number",.bl true])/\H' p2=some (.tup [.str "text",.bl false])/\H' p3=some (.tup [.str "context",.bl false])/\H' p4=some (.tup [.str "count",.bl false])/\σ'=[some (.ref g),some (.ref a),some (.ref l)],?_,?_⟩
   . refine⟨_,rfl,_,rfl,_,_,_,_,false,rfl,rfl,ty s2,R.fits.h3,z2,fun p3 n3=>?_⟩
     have u1':=Same.upd (o:= .tup [.str "context",.bl false]) n3
     refine⟨_,rfl,_,_,_,_,false,rfl,rfl,ty (s2.trans u1'),R.fits.h4,z2,fun p4 n4=>⟨z2,fun l2 nl=>?_⟩⟩
     have u2:=Same.upd (o:= .tup [.str "count",.bl false]) n4
     have u3:=Same.upd (o:= .lst [.ref p3,.ref p4]) nl
     have uu:=u1'.trans (u2.trans u3)
     refine⟨l,l2,_,_,rfl,rfl,uu _ _ el,B5,D8 (show 2+2<=1000 by decide),fun l3 n3'=>?_⟩
     have u4:=Same.upd (o:= .lst [.ref p1,.ref p2,.ref p3,.ref p4]) n3'
     exact⟨l3,p1,p2,p3,p4,s2.trans (uu.trans u4),B5,u4 _ _ (uu _ _ e1),u4 _ _ (uu _ _ e2),u4 _ _ (u3 _ _ (u2 _ _ B5)),u4 _ _ (u3 _ _ B5),rfl⟩
   clear el e1 e2 s2 l p1 p2 H2
   rintro σ' H2 ⟨l,p1,p2,p3,p4,s2,el,e1,e2,e3,e4,rfl⟩
   refine⟨fun σ' H'=>∃l p1 p2 p3 p4 p5 p6,Same G H'/\H' l=some (.lst [.ref p1,.ref p2,.ref p3,.ref p4,.ref p5,.ref p6])/\H' p1=some (.tup [.str "number",.bl true])/\H' p2=some (.tup [.str "text",.bl false])/\H' p3=some (.tup [.str "context",.bl false])/\H' p4=some (.tup [.str "count",.bl false])/\H' p5=some (.tup [.str "trapped",.bl false])/\H' p6=some (.tup [.str "bare",.bl false])/\σ'=[some (.ref g),some (.ref a),some (.ref l)],?_,?_⟩
   . refine⟨_,rfl,_,rfl,_,_,_,_,false,rfl,rfl,ty s2,R.fits.h5,z2,fun p5 n5=>?_⟩
     have u1':=Same.upd (o:= .tup [.str "trapped",.bl false]) n5
     refine⟨_,rfl,_,_,_,_,true,rfl,rfl,ty (s2.trans u1'),R.fits.hv,_,rfl,z2,fun p6 n6=>⟨z2,fun l2 nl=>?_⟩⟩
     have u2:=Same.upd (o:= .tup [.str "bare",.bl false]) n6
     have u3:=Same.upd (o:= .lst [.ref p5,.ref p6]) nl
     have uu:=u1'.trans (u2.trans u3)
     refine⟨l,l2,_,_,rfl,rfl,uu _ _ el,B5,D8 (show 4+2<=1000 by decide),fun l3 n3'=>?_⟩
     have u4:=Same.upd (o:= .lst [.ref p1,.ref p2,.ref p3,.ref p4,.ref p5,.ref p6]) n3'
     exact⟨l3,p1,p2,p3,p4,p5,p6,s2.trans (uu.trans u4),B5,u4 _ _ (uu _ _ e1),u4 _ _ (uu _ _ e2),u4 _ _ (uu _ _ e3),u4 _ _ (uu _ _ e4),u4 _ _ (u3 _ _ (u2 _ _ B5)),u4 _ _ (u3 _ _ B5),rfl⟩
   clear el e1 e2 e3 e4 s2 l p1 p2 p3 p4 H2
   rintro σ' H2 ⟨l,p1,p2,p3,p4,p5,p6,s2,el,e1,e2,e3,e4,e5,e6,rfl⟩
   have at_:∀i:Nat,i<6 ->∃p,∃(z:Str) (b:Bool),([.ref p1,.ref p2,.ref p3,.ref p4,.ref p5,.ref p6]:List V)[i]?=some (.ref p)/\H2 p=some (.tup [.str z,.bl b])/\b=decide (i=0)/\(i=0 ->z="number"):=fun i hi=>by
     rcases(by omega:i=0\/i=1\/i=2\/i=3\/i=4\/i=5) with rfl|rfl|rfl|rfl|rfl|rfl
     . exact⟨p1,_,_,rfl,e1,rfl,fun _=>rfl⟩
     . exact⟨p2,_,_,rfl,e2,rfl,fun z=>by cases z⟩
     . exact⟨p3,_,_,rfl,e3,rfl,fun z=>by cases z⟩
     . exact⟨p4,_,_,rfl,e4,rfl,fun z=>by cases z⟩
     . exact⟨p5,_,_,rfl,e5,rfl,fun z=>by cases z⟩
     . exact⟨p6,_,_,rfl,e6,rfl,fun z=>by cases z⟩
   refine⟨_,rfl,l,rfl,⟨_,SqL.of el⟩,⟨_,_,_,s2 _ _ ea,rfl,rfl⟩,V0g (J:=Itl K l) (n:=6) (fun i=>decide (i=0)) (fun _ y _=>y= .str "number") (by decide) (fun _ _ _ _ _ _ h _ _=>h) (fun i H3 Qy Qn hi sm hy hn=>?_) (fun H3 sm=>⟨_,SqL.of (sm _ _ el),Nat.le_refl 6⟩) (fun D H3 ys sm nD eD hl hr'=>?_)⟩
   . obtain⟨p,z,b,h1,h2,h3,h4⟩:=at_ i hi
     refine⟨⟨_,_,SqL.of (sm _ _ el),h1⟩,fun y H4 yl=>?_⟩
     obtain⟨rfl,yl⟩:=yl
     have e:=yl _ (SqL.of (sm _ _ el))
     rw[h1] at e
     obtain rfl:=(Option.some.inj e).symm
     refine⟨p,_,rfl,SqT.of (sm _ _ h2),rfl,_,_,rfl,_,_,rfl,rfl,_,rfl,_,rfl,D4a (fun eb=>⟨_,rfl,?_⟩) (fun eb=>?_)⟩
     . rw[h3] at eb
       have e0:=of_decide_eq_true eb
       rw[h4 e0]
       exact hy eb _ _ (Same.refl _) rfl
     . rw[h3] at eb
       exact hn eb _ (Same.refl _)
   . have l1:ys.length=1:=by rw[hl];decide
     obtain⟨y,rfl⟩:=List.length_eq_one_iff.mp l1
     have ey:=hr' 0 0 y (by decide) rfl
     subst ey
     exact⟨D,_,rfl,.inl ⟨SqL.of eD,fun p np=>k1 p _ (u1.trans (s2.trans (sm.trans (Same.upd np)))) B5⟩⟩
end
theorem U2a(x:Nm)(j:Nat)(hj:j<4):atI x.vs (j:Int)=some (x.vs.getD j .non):=G2 (j:=j) (by
 rcases(by omega:j=0\/j=1\/j=2\/j=3) with rfl|rfl|rfl|rfl<;>rfl)
noncomputable abbrev B5a:Stmt:=(top 77)
section
variable{P:Program}{w:World}{K:Frag}{mg:Str ->Option Value}{base:Heap}
noncomputable def U0x (K:Frag):Sp:=fun vs H Q _=>∃sc ns,vs=[.ref sc]/\SqL K H sc ((ns:List Int).map V.int)/\
 ∀p q1 q2 x1 x2 H',Same H H' ->H' p=some (.tup [.ref q1,.ref q2]) ->H' q1=some (.tup (Nm.vs x1)) ->H' q2=some (.tup (Nm.vs x2)) ->x1.Wf ->x2.Wf ->Q (.ref p) H'
theorem scLPair:FnScope ["_law_script","_law_one","_law_other","_law_cell"] ["_law_script"] (A3 B5a):=scK
theorem V2z(D:Def K mg "_law_pair" ["_law_script"] B5a f fd)(dA:Def K mg "_law_cell_at" ["_law_script","_law_k"] B6p f1 fd1)(dB:FnOk P w K mg base (CX1 P w) 1 f1 fd1 ["_law_script","_law_k"] (D4c K))(dC:Def K mg "_law_number" ["_law_cell"] A4f f2 fd2)(dD:FnOk P w K mg base (CX1 P w) 3 f2 fd2 ["_law_cell"] D2r)(O:Own mg):
   FnOk P w K mg base (CX1 P w) 4 f fd ["_law_script"] (U0x K):=by
 refine D.F.okE scLPair (fun vs H Q E h=>?_) (fun X cdv A outer s H vs Q E hX hr hx h=>?_)
 . obtain⟨sc,ns,rfl,_⟩:=h
   rfl
 . subst hX
   obtain⟨sc,ns,rfl,hS,k⟩:=h
   refine⟨_,(A6 (D6 (D7 (i:=1) scLPair.nd rfl (Or.inl rfl) (C6 dC dD hr hx (A1 (C6 dA dB hr hx (A1 (pv 0) (A1 A7 A5))) A5))))
     (A6 (D6 (D7 (i:=2) scLPair.nd rfl (Or.inl rfl) (C6 dC dD hr hx (A1 (C6 dA dB hr hx (A1 (pv 0) (A1 A7 A5))) A5))))
     (A6 (D6 (D7 (i:=3) scLPair.nd rfl (Or.inl rfl) (C6 dA dB hr hx (A1 (pv 0) (A1 A7 A5)))))
     (A6 (D6 (G0 (PW.pt (B8j (D0 G4 (C7 U4 (pv 3) A7) A7 (C8 _)) (B8j (D0 G4 (U2 G8 (pv 2) A7 (fun _ _=>rfl)) C9 (C8 _)) (B6j (D0 G5v (U2 G8 (pv 2) A7 (fun _ _=>rfl)) (C7 J0r A7 A7) (C8 _)))))) (A8 (D6 (D7 (i:=1) scLPair.nd rfl (Or.inl rfl) (V3 (A1 C9 (A1 (C7 U4 (C7 U6 (pv 3) A7) A7) (A1 (J1 (A1k rfl) (by rfl) O.max_ boot_max (A1 A7 (A1 (C7 V1 (C7 V0 (U2 G8 (pv 2) A7 (fun _ _=>rfl)) (C7 U4 (C7 U6 (pv 3) A7) A7)) (C7 U4 (C7 U6 (pv 3) A7) A7)) A5))) (A1 (U2 G8 (pv 2) A7 (fun _ _=>rfl)) A5)))))))) D3))
     (A8 (B7 (V3 (A1 (pv 1) (A1 (pv 2) A5))))))))),?_⟩
   have z2:2<=sizeLine:=D8 (by decide)
   have z4:4<=sizeLine:=D8 (by decide)
   refine⟨fun σ' H'=>∃q1 x1,Same H H'/\H' q1=some (.tup (Nm.vs x1))/\x1.Wf/\σ'=[some (.ref sc),some (.ref q1),none,none],⟨_,rfl,sc,ns,1,rfl,hS,by decide,fun c1=>⟨c1,rfl,fun x q H' wf s' e=>⟨q,x,s',e,wf,rfl⟩⟩⟩,?_⟩
   rintro σ' H1 ⟨q1,x1,s1,e1,w1,rfl⟩
   refine⟨fun σ' H'=>∃q2 x2,Same H H'/\H' q1=some (.tup (Nm.vs x1))/\H' q2=some (.tup (Nm.vs x2))/\x2.Wf/\σ'=[some (.ref sc),some (.ref q1),some (.ref q2),none],⟨_,rfl,sc,ns,2,rfl,s1.seq hS,by decide,fun c1=>⟨c1,rfl,fun x q H' wf s' e=>⟨q,x,s1.trans s',s' _ _ e1,e,wf,rfl⟩⟩⟩,?_⟩
   rintro σ' H2 ⟨q2,x2,s2,e1,e2,w2,rfl⟩
   refine⟨fun σ' H'=>∃c:Int,H'=H2/\σ'=[some (.ref sc),some (.ref q1),some (.ref q2),some (.int c)],⟨_,rfl,sc,ns,3,rfl,s2.seq hS,by decide,fun c1=>⟨c1,rfl,rfl⟩⟩,?_⟩
   rintro σ' H3 ⟨c,rfl,rfl⟩
   refine⟨fun σ' H'=>∃q1 x1,Same H H'/\H' q1=some (.tup (Nm.vs x1))/\H' q2=some (.tup (Nm.vs x2))/\x1.Wf/\σ'=[some (.ref sc),some (.ref q1),some (.ref q2),some (.int c)],?_,?_⟩
   . have skip:∃q1' x1',Same H H3/\H3 q1'=some (.tup (Nm.vs x1'))/\H3 q2=some (.tup (Nm.vs x2))/\x1'.Wf/\ [some (V.ref sc),some (.ref q1),some (.ref q2),some (.int c)]=[some (.ref sc),some (.ref q1'),some (.ref q2),some (.int c)]:=⟨q1,x1,s2,e1,e2,w1,rfl⟩
     refine⟨_,rfl,_,_,rfl,rfl,(by decide:(0:Int)<3),rfl,_,rfl,U9 (fun _=>?_) (fun _=>Y5 skip)⟩
     refine⟨_,rfl,q2,_,_,_,rfl,rfl,SqT.of e2,U2a x2 0 (by decide),rfl,_,rfl,U9 (fun _=>?_) (fun _=>Y5 skip)⟩
     refine⟨_,rfl,q2,_,_,_,rfl,rfl,SqT.of e2,U2a x2 2 (by decide),_,_,rfl,rfl,⟨by decide,by decide,by decide⟩,_,_,rfl,rfl,_,rfl,U9 (fun hb=>?_) (fun _=>skip)⟩
     have hb:x2.f<10^30:=hb
     have f0:=w2.ok.f0
     have a0:=Int.emod_nonneg (c/6) (by decide:(100000:Int)≠0)
     have a1:=Int.emod_lt_of_pos (c/6) (by decide:(0:Int)<100000)
     have b0:=Int.emod_nonneg (c/12) (by decide:(2:Int)≠0)
     have c0:=Int.emod_nonneg (c/3) (by decide:(2:Int)≠0)
     have c1:=Int.emod_lt_of_pos (c/3) (by decide:(0:Int)<2)
     have m0:0<=x2.f*(c/6 % 100000):=Int.mul_nonneg f0 a0
     have m1:x2.f*(c/6 % 100000)<=10^30*100000:=Int.mul_le_mul (by omega) (by omega) a0 (by decide)
     have big:(10:Int)^30*100000<=10^60-1:=by decide+kernel
     refine⟨_,?_,fun _ _ h=>h⟩
     refine⟨_,rfl,_,_,rfl,rfl,dv (n:=3) (by decide) (by decide+kernel),_,_,rfl,rfl,(by decide:(0:Int)<2),_,rfl,q2,_,_,_,rfl,rfl,SqT.of e2,U2a x2 2 (by decide),_,rfl,_,_,rfl,rfl,dv (n:=6) (by decide) (by decide+kernel),_,_,rfl,rfl,(by decide:(0:Int)<100000),_,_,rfl,rfl,CMul.ok (.inr ⟨by omega,by omega⟩),_,rfl,_,_,rfl,rfl,dv (n:=12) (by decide) (by decide+kernel),_,_,rfl,rfl,(by decide:(0:Int)<2),_,_,rfl,rfl,_,_,rfl,_,rfl,q2,_,_,_,rfl,rfl,SqT.of e2,U2a x2 3 (by decide),z4,fun t1 n1=>?_⟩
     have hb:0<=(if x2.f*(c/6 % 100000)-c/12 % 2>0 then x2.f*(c/6 % 100000)-c/12 % 2 else 0)/\(if x2.f*(c/6 % 100000)-c/12 % 2>0 then x2.f*(c/6 % 100000)-c/12 % 2 else 0)<=10^60-1:=by
       constructor<;>split<;>omega
     exact⟨t1,⟨.plain,c/3 % 2,if x2.f*(c/6 % 100000)-c/12 % 2>0 then x2.f*(c/6 % 100000)-c/12 % 2 else 0,x2.p⟩,s2.trans (Same.upd n1),B5,(Same.upd n1) _ _ e2,C3e ⟨c0,by omega⟩ hb ⟨w2.ok.p0,w2.ok.p1⟩,rfl⟩
   rintro σ' H4 ⟨q1',x1',s4,e1',e2',w1',rfl⟩
   exact⟨_,rfl,_,rfl,z2,fun p np=>k p q1' q2 x1' x2 _ (s4.trans (Same.upd np)) B5 ((Same.upd np) _ _ e1') ((Same.upd np) _ _ e2') w1' w2⟩
end
noncomputable abbrev A0n:Stmt:=(top 78)
section
variable{P:Program}{w:World}{K:Frag}{mg:Str ->Option Value}{base:Heap}
noncomputable def U7 (x:Nm) (lo:Int):Int:=(1-2*x.s)*x.f*B8 (x.p-lo)
noncomputable def B4z:Sp:=fun vs H Q _=>∃q,∃(x:Nm) (lo:Int),vs=[.ref q,.int lo]/\H q=some (.tup x.vs)/\0<=x.s/\x.s<=1/\0<=x.f/\x.f<B8 200/\lo<=x.p/\x.p-lo<=600/\Q (.int (U7 x lo)) H
theorem J0u:FnScope ["_law_one","_law_low"] ["_law_one","_law_low"] (A3 A0n):=scK
theorem G6b(f:Int):Builtin.Int.intBits (-f)=Builtin.Int.intBits f:=by
 unfold Builtin.Int.intBits
 rw[Int.natAbs_neg,show(-f==0)=(f==0) by rw[Bool.eq_iff_iff,beq_iff_eq,beq_iff_eq];omega]
theorem V2y{z:Int}(h0:0<=z)(h:z<B8 200):Builtin.Int.intBits z<=2^20:=by
 obtain⟨n,rfl⟩:=Int.eq_ofNat_of_zero_le h0
 refine B3x (k:=4*200) ?_ (by decide)
 have:n<10^200:=Int.ofNat_lt.mp h
 exact Nat.lt_of_lt_of_le this (B6r 200)
theorem G6k(D:Def K mg "_law_worth" ["_law_one","_law_low"] A0n f fd)(dA:Def K mg "_law_ten" ["_law_count"] B6n f1 fd1)(dB:FnOk P w K mg base (CX1 P w) 1 f1 fd1 ["_law_count"] D3z):FnOk P w K mg base (CX1 P w) 2 f fd ["_law_one","_law_low"] B4z:=by
 refine D.F.okE J0u (fun vs H Q E h=>?_) (fun X cdv A outer s H vs Q E hX hr hx h=>?_)
 . obtain⟨q,x,lo,rfl,_⟩:=h
   rfl
 . subst hX
   obtain⟨q,x,lo,rfl,eq,s0,s1,f0,f1,l0,l1,k⟩:=h
   refine⟨_,(A8 (B7 (C7 V0 (C7 V0 (C7 V1 A7 (C7 V0 A7 (U2 G8 (pv 0) A7 (fun _ _=>rfl)))) (U2 G8 (pv 0) A7 (fun _ _=>rfl))) (C6 dA dB hr hx (A1 (C7 V1 (U2 G8 (pv 0) A7 (fun _ _=>rfl)) (pv 1)) A5))))),?_⟩
   have b:Builtin.Int.intBits ((1-2*x.s)*x.f)<=2^20:=by
     rcases(by omega:x.s=0\/x.s=1) with e|e
     . rw[e,show(1-2*(0:Int))*x.f=x.f by omega]
       exact V2y f0 f1
     . rw[e,show(1-2*(1:Int))*x.f= -x.f by omega,G6b]
       exact V2y f0 f1
   refine⟨_,rfl,q,_,_,_,rfl,rfl,SqT.of eq,G2 (j:=1) rfl,_,_,rfl,rfl,CMul.ok (.inl ⟨by decide,by decide⟩),_,_,rfl,rfl,_,rfl,q,_,_,_,rfl,rfl,SqT.of eq,G2 (j:=2) rfl,_,_,rfl,rfl,CMul.ok (.inl ⟨by omega,by omega⟩),_,rfl,q,_,_,_,rfl,rfl,SqT.of eq,G2 (j:=3) rfl,_,rfl,_,_,rfl,rfl,(x.p-lo).toNat,?_,by omega,_,_,rfl,rfl,IntMulOk.of_bits b (D2j (d:=x.p-lo) (by omega)),k⟩
   show [V.int (x.p-lo)]=[V.int ((x.p-lo).toNat:Int)]
   rw[Int.toNat_of_nonneg (by omega)]
end
noncomputable abbrev A4e:Stmt:=(top 80)
section
variable{P:Program}{w:World}{K:Frag}{mg:Str ->Option Value}{base:Heap}
noncomputable def D2g:Sp:=fun vs H Q _=>∃q1 q2,∃x1 x2:Nm,vs=[.ref q1,.ref q2]/\H q1=some (.tup x1.vs)/\H q2=some (.tup x2.vs)/\(0<=x1.s/\x1.s<=1/\0<=x1.f/\x1.f<B8 200)/\(0<=x2.s/\x2.s<=1/\0<=x2.f/\x2.f<B8 200)/\x1.p-x2.p<=600/\x2.p-x1.p<=600/\x2.k= .plain/\U7 x1 (Y7 x1.p x2.p)=U7 x2 (Y7 x1.p x2.p)/\Q (.bl true) H
theorem scLSame22:FnScope ["_law_whole","_law_quotient","_law_low"] ["_law_whole","_law_quotient"] (A3 A4e):=scK
theorem G9u(D:Def K mg "_law_is_same" ["_law_whole","_law_quotient"] A4e f fd)(dA:Def K mg "_law_worth" ["_law_one","_law_low"] A0n f1 fd1)(dB:FnOk P w K mg base (CX1 P w) 2 f1 fd1 ["_law_one","_law_low"] B4z)(O:Own mg):FnOk P w K mg base (CX1 P w) 3 f fd ["_law_whole","_law_quotient"] D2g:=by
 refine D.F.okE scLSame22 (fun vs H Q E h=>?_) (fun X cdv A outer s H vs Q E hX hr hx h=>?_)
 . obtain⟨q1,q2,x1,x2,rfl,_⟩:=h
   rfl
 . subst hX
   obtain⟨q1,q2,x1,x2,rfl,e1,e2,⟨a1,a2,a3,a4⟩,⟨b1,b2,b3,b4⟩,d1,d2,hk,hw,k⟩:=h
   refine⟨_,(A6 (D6 (D7 (i:=2) scLSame22.nd rfl (Or.inl rfl) (J1 (A6a rfl) (by rfl) O.min_ boot_min (A1 (U2 G8 (pv 0) A7 (fun _ _=>rfl)) (A1 (U2 G8 (pv 1) A7 (fun _ _=>rfl)) A5)))))
     (A8 (B7 (A6r (J0 G4 (U2 G8 (pv 1) A7 (fun _ _=>rfl)) C9 (C8 _)) (A5h (J0 G4 (C6 dA dB hr hx (A1 (pv 0) (A1 (pv 2) A5))) (C6 dA dB hr hx (A1 (pv 1) (A1 (pv 2) A5))) (C8 _))))))),?_⟩
   have ml:Y7 x1.p x2.p<=x1.p/\Y7 x1.p x2.p<=x2.p/\(Y7 x1.p x2.p=x1.p\/Y7 x1.p x2.p=x2.p):=by unfold Y7;split<;>omega
   refine⟨fun σ' H'=>H'=H/\σ'=[some (.ref q1),some (.ref q2),some (.int (Y7 x1.p x2.p))],⟨_,rfl,q1,_,_,_,rfl,rfl,SqT.of e1,G2 (j:=3) rfl,_,rfl,q2,_,_,_,rfl,rfl,SqT.of e2,G2 (j:=3) rfl,_,_,rfl,rfl,rfl⟩,?_⟩
   rintro σ' H1 ⟨rfl,rfl⟩
   refine⟨_,rfl,q2,_,_,_,rfl,rfl,SqT.of e2,G2 (j:=0) rfl,rfl,_,rfl,C4e (by rw[hk];rfl) ⟨_,rfl,_,rfl,q1,x1,_,rfl,e1,a1,a2,a3,a4,by omega,by omega,_,rfl,_,rfl,q2,x2,_,rfl,e2,b1,b2,b3,b4,by omega,by omega,rfl,?_⟩⟩
   rw[decide_eq_true (congrArg V.int hw)]
   exact k
end
noncomputable abbrev A4u:Stmt:=(top 81)
noncomputable def B8g:Str:=("_law_refused":Str)++".<locals>."++"<lambda>"
noncomputable def U1d:Pos:=⟨456,17,456,65⟩
noncomputable def U2k:Pos:=⟨458,17,458,71⟩
noncomputable def U1r:Pos:=⟨460,21,460,72⟩
theorem CtxAt.keep{CC:Addr}{H H':Hp}{c:Addr}{r:Int}{y:Wy}{l m:Int}{a b:Addr}{xs ys:List V}(h:CtxAt CC H c r y l m a b xs ys)(s:Z6e H H'):CtxAt CC H' c r y l m a b xs ys:=by
 obtain⟨⟨dx,e⟩,ha,hb⟩:=h
 exact⟨⟨dx,s _ _ (fun _ z=>by cases z) e⟩,s _ _ (fun _ z=>by cases z) ha,s _ _ (fun _ z=>by cases z) hb⟩
theorem FnOk.toG{P:Program}{w:World}{K:Frag}{mg:Str ->Option Value}{base:Heap}{CX:CXT}{k:Nat}{ps:List Str}{sp:Sp}(F:FnOk P w K mg base CX k f fd ps sp):FnOkG P w K mg base CX k f fd ps sp:=⟨F.len,fun A outer s H args us vs Q E _=>F.run A outer s H args us vs Q E⟩
inductive OddV(H:Hp):V ->Prop
 |non:OddV H .non
 |bl (b:Bool):OddV H (.bl b)
 |int (i:Int):OddV H (.int i)
 |str (s:Str):OddV H (.str s)
 |lst {p:Addr} {xs:List V} (e:H p=some (.lst xs)):OddV H (.ref p)
 |tup {p:Addr} {xs:List V} (e:H p=some (.tup xs)):OddV H (.ref p)
 |dic {p:Addr} (e:H p=some (.dK [])):OddV H (.ref p)
theorem OddV.at{H H':Hp}{v:V}(h:OddV H v)(k:∀b o,(∀ps,o≠ .tbl ps) ->(∀x y,o≠ .frz x y) ->H b=some o ->H' b=some o):OddV H' v:=by
 cases h with
 |non=>exact .non
 |bl b=>exact .bl b
 |int i=>exact .int i
 |str s=>exact .str s
 |lst e=>exact .lst (k _ _ (fun _ z=>by cases z) (fun _ _ z=>by cases z) e)
 |tup e=>exact .tup (k _ _ (fun _ z=>by cases z) (fun _ _ z=>by cases z) e)
 |dic e=>exact .dic (k _ _ (fun _ z=>by cases z) (fun _ _ z=>by cases z) e)
theorem OddV.not{K:Frag}{CN:Addr}{H:Hp}{v:V}(O4:Own4 K CN)(h:OddV H v):NotNum K CN H v:=by
 cases h with
 |non=>exact⟨_,A0bk,O4.non⟩
 |bl b=>exact⟨_,tyBl _,O4.bl⟩
 |int i=>exact⟨_,V2k _,O4.int⟩
 |str s=>exact⟨_,U2e _,O4.str⟩
 |lst e=>exact⟨_,V0j e,O4.lst⟩
 |tup e=>exact⟨_,A0bn e,O4.tup⟩
 |dic e=>exact⟨_,A0au e,O4.dic⟩
noncomputable def BadP (CN:Addr) (H:Hp) (v1 v2:V):Prop:=OddV H v1\/∃n x,v1= .ref n/\NumIs CN H n x/\OddV H v2
theorem BadP.at{CN:Addr}{H H':Hp}{v1 v2:V}(h:BadP CN H v1 v2)(k:∀b o,(∀ps,o≠ .tbl ps) ->(∀x y,o≠ .frz x y) ->H b=some o ->H' b=some o):BadP CN H' v1 v2:=by
 rcases h with h|⟨n,x,e,⟨dx,h1⟩,h2⟩
 . exact .inl (h.at k)
 . exact .inr ⟨n,x,e,⟨dx,k _ _ (fun _ z=>by cases z) (fun _ _ z=>by cases z) h1⟩,h2.at k⟩
theorem BadP.not{K:Frag}{CN:Addr}{H:Hp}{v1 v2:V}(O4:Own4 K CN)(h:BadP CN H v1 v2):NotNum K CN H v1\/∃n x,v1= .ref n/\NumIs CN H n x/\NotNum K CN H v2:=by
 rcases h with h|⟨n,x,e,h1,h2⟩
 . exact .inl (h.not O4)
 . exact .inr ⟨n,x,e,h1,h2.not O4⟩
theorem scLRef22:FnScope ["_law_context","_law_script","_law_cell","_law_some","_law_odd","_law_good","_law_one","_law_other"] ["_law_context","_law_script"] (A3 A4u):=scK
noncomputable def C8c:PyData:= .tuple [.str "number"]
theorem rd1{K:Frag}{H:Hp}{d:Addr}(h:H d=some (.tup [.str "number"])):RdD K H (.ref d) C8c:= .tup (SqT.of h) (.cons (.str _) .nil)
theorem sh1:SeqAt.shaped C8c=true:=by decide+kernel
theorem eq1:PyData.eqv C8c C8c=true:=by decide+kernel
structure J22(CC P0:Addr)(K:Frag)(sc:Addr)(ns:List Int)(c b:Addr)(v:Cv)(a:Addr)(H:Hp):Prop where
 ct:CtxV CC H c v a b [] []
 scr:SqL K H sc (ns.map V.int)
 t1:TabOk P0 U1d B8g H
 t2:TabOk P0 U2k B8g H
 t3:TabOk P0 U1r B8g H
section
variable{CC P0:Addr}{K:Frag}{sc:Addr}{ns:List Int}{c b:Addr}{v:Cv}{a:Addr}{H H':Hp}
theorem J22.same(h:J22 CC P0 K sc ns c b v a H)(s:Same H H'):J22 CC P0 K sc ns c b v a H':=⟨h.ct.same s,s.seq h.scr,h.t1.same s,h.t2.same s,h.t3.same s⟩
theorem J22.lam(h:J22 CC P0 K sc ns c b v a H)(s:SameT P0 H H')(t1:TabOk P0 U1d B8g H')(t2:TabOk P0 U2k B8g H')(t3:TabOk P0 U1r B8g H'):J22 CC P0 K sc ns c b v a H'/\Z6e H H':=by
 obtain⟨ps,eP,_⟩:=h.t1
 have k:=s.keep eP
 refine⟨⟨CtxAt.keep h.ct k,h.scr.kept fun o e hb=>k _ _ ?_ e,t1,t2,t3⟩,k⟩
 rcases hb with rfl|⟨oc,rfl⟩<;>exact fun _ z=>by cases z
end
theorem J0v(n:Nat):([n+1+1+1,n+1+1,n+1]:List Nat).Nodup:=by
 refine List.nodup_cons.mpr ⟨fun h=>?_,List.nodup_cons.mpr ⟨fun h=>?_,List.nodup_cons.mpr ⟨fun h=>?_,List.nodup_nil⟩⟩⟩
 . simp only[List.mem_cons,List.not_mem_nil,or_false] at h
   omega
 . simp only[List.mem_cons,List.not_mem_nil,or_false] at h
   omega
 . simp only[List.not_mem_nil] at h
noncomputable def D4g (CN CB:Addr) (v1 v2:V):Hp ->VK ->XK ->Prop:=fun H _ E=>BadP CN H v1 v2/\∀H',Same H H' ->E (.ref CB) none H'
section
variable{P:Program}{w:World}{K:Frag}{mg:Str ->Option Value}{base:Heap}
theorem B7y{CB:Addr}{k:Nat}{qual:Str}{params:Arguments}{body:Expr}{scope:Scope}{cl:List (Str×Addr)}{vs:List V}{spd:Hp ->VK ->XK ->Prop}{H3 H4:Hp}{Q:VK}{E:XK}
   (la:LamAt H3 f qual params body scope cl) (hn:∀c∈cl.map (·.2),H3 c=none) (ho:∀b,b ∉ cl.map (·.2) ->H4 b=H3 b) (A4:AllFrz (cl.map (·.2)) H4) (kn:∀(i:Nat) (x:Str) (c:Addr),cl[i]?=some (x,c) ->∃v,vs[i]?=some v/\V2s H4 c v)
   (DO:DeedOk P w K mg base k f (Z4n f qual params body scope cl vs) spd)
   (hD:∀Qd Ed,Same H3 H4 ->(∀H',Same H4 H' ->Ed (.ref CB) none H') ->spd H4 Qd Ed)
   (fin:∀p H6,Same H3 H6 ->H6 p=some (.tup [.str "number"]) ->Q (.ref p) H6):
   B8a P w K mg base k CB [.ref f] H4 (fun u H'=>(∀c∈cl.map (·.2),H' c=H4 c) ->Q u (V7 (cl.map (·.2)) H')) E:=by
 have k34:Same H3 H4:=fun b o e=>by
   rw[ho b fun z=>by rw[hn b z] at e;cases e]
   exact e
 refine⟨f,_,_,rfl,DO,⟨la.kept fun b o e=>k34 _ _ e,kn⟩,fun Qd Ed h=>hD Qd Ed k34 fun H5 s45=>h H5 fun p H6 s56 ep sm=>fin p _ (fun b o e=>?_) ?_⟩
 . rw[Y0 fun z=>by rw[hn b z] at e;cases e]
   exact s56 _ _ (s45 _ _ (k34 _ _ e))
 . rw[Y0 fun z=>?_]
   . exact ep
   . obtain⟨o,eo⟩:=A4 p z
     rw[sm p z,eo] at ep
     cases ep
noncomputable abbrev J0d (c sc:Addr) (x2 x3 x4 x5 x6 x7:Option V):L2.St:=[some (.ref c),some (.ref sc),x2,x3,x4,x5,x6,x7]
noncomputable def G6f (CC P0:Addr) (K:Frag):Sp:=fun vs H Q _=>∃sc ns c b v a,vs=[.ref c,.ref sc]/\J22 CC P0 K sc ns c b v a H/\∀H',J22 CC P0 K sc ns c b v a H' ->Q (.bl true) H'
theorem U5f{f cc P0 f1 f2 f3 f4 f5 f6 f7 CC CN CB:Addr}(D:Def K mg "_law_refused" ["_law_context","_law_script"] A4u f fd)(hcode:fd.code= .ref cc)(LB:LamB mg base cc P0)
   (dE:Def K mg "_law_cell_at" ["_law_script","_law_k"] B6p f1 fd1) (dF:FnOk P w K mg base (CX1 P w) 1 f1 fd1 ["_law_script","_law_k"] (D4c K)) (dG:Def K mg "plain" ["sign","figures","power"] B0c f2 fd2) (dH:FnOk P w K mg base (CX1 P w) 3 f2 fd2 ["sign","figures","power"] (D4d K CN CB))
   (dC:Def K mg "nothing" [] V8 f3 fd3) (dD:FnOk P w K mg base (CX1 P w) 3 f3 fd3 [] (Z2 CN)) (dA:Def K mg "_law_word" ["_law_deed"] A4d f4 fd4) (dB:FnOkG P w K mg base (CX1 P w) 10 f4 fd4 ["_law_deed"] (B8a P w K mg base 9 CB))
   (dJ:Def K mg "over" ["context","one","other"] B6w f5 fd5) (dL:FnOk P w K mg base (CX1 P w) 7 f5 fd5 ["context","one","other"] (B8b K CN CB)) (dM:Def K mg "whole_over" ["context","one","other"] Y4 f6 fd6) (dN:FnOk P w K mg base (CX1 P w) 7 f6 fd6 ["context","one","other"] (B8b K CN CB))
   (dP:Def K mg "rest_of" ["context","one","other"] A3b f7 fd7) (dQ:FnOk P w K mg base (CX1 P w) 8 f7 fd7 ["context","one","other"] (B8b K CN CB)) (O4:Own4 K CN) (C:CtxC K mg CC) (MF:Has P w K mg base CC "flags" 1 ["self"] (A6p CC)):FnOkG P w K mg base (CX1 P w) 11 f fd ["_law_context","_law_script"] (G6f CC P0 K):=by
 refine D.F.okEL hcode scLRef22 (fun vs H Q E h=>?_) (fun X A outer s H vs Q E hX HG hr hx h=>?_)
 . obtain⟨sc,ns,c,b,v,a,rfl,_⟩:=h
   rfl
 . subst hX
   obtain⟨sc,ns,c,b,v,a,rfl,h0,kk⟩:=h
   obtain⟨ff,fdf,mf,gf,bf⟩:=MF
   have HU:=Nat.lt_of_le_of_lt (Nat.add_le_add_left (by decide:1<=64) _) hr.units
   have CZ:CellsZ [("_law_other",s.heap.objs.size+1+1+1),("_law_one",s.heap.objs.size+1+1),("_law_context",s.heap.objs.size+1)] [7,6,0] ["_law_context","_law_script","_law_cell","_law_some","_law_odd","_law_good","_law_one","_law_other"] (envOfC "_law_refused" (A3 A4u) s.heap.objs.size f (.ref cc)):=⟨fun i x c h=>by
     rcases i with _|_|_|i
     . obtain⟨rfl,rfl⟩:=Prod.mk.inj (Option.some.inj h)
       exact⟨rfl,rfl,fun j hj=>by cases hj;rfl⟩
     . obtain⟨rfl,rfl⟩:=Prod.mk.inj (Option.some.inj h)
       exact⟨rfl,rfl,fun j hj=>by cases hj;rfl⟩
     . obtain⟨rfl,rfl⟩:=Prod.mk.inj (Option.some.inj h)
       exact⟨rfl,rfl,fun j hj=>by cases hj;rfl⟩
     . cases h⟩
   refine⟨_,(A6 (D6 (D7 (i:=2) scLRef22.nd rfl (Or.inl rfl) (C6 dE dF hr hx (A1 (pv 1) (A1 A7 A5)))))
     (A6 (D6 (D7 (i:=3) scLRef22.nd rfl (Or.inl rfl) (U1 (A1 V3a (A1 A2y (A1 A7 (A1 C9 (A1 (U1 (A1 A7 A5)) (A1 (V3 (A1 C9 (A1 A7 (A1 A7 (A1 A7 A5))))) (A1 V1c (A1 C9 (A1 A7 (A1 (U1 A5) (A1 (V3 A5) (A1 (D2v B7z A7) A5)))))))))))))))
     (A6 (D6 (D7 (i:=4) scLRef22.nd rfl (Or.inl rfl) (U2 A6y (pv 3) (C7 U4 (pv 2) A7) (fun _ _=>rfl))))
     (A6 (D6 (D7 (i:=5) scLRef22.nd rfl (Or.inl rfl) (C6 dG dH hr hx (A1 A7 (A1 (C7 Y3 A7 (C7 U4 (C7 U6 (pv 2) A7) A7)) (A1 A7 A5))))))
     (A6 (D6 (V1b (U2 A6y (U1 (A1 (V3 (A1 (pv 4) (A1 (pv 5) A5))) (A1 (V3 (A1 (pv 5) (A1 (pv 4) A5))) (A1 (V3 (A1 (pv 4) (A1 (pv 4) A5))) (A1 (V3 (A1 (pv 4) (A1 (A5m dC dD hr hx) A5))) (A1 (V3 (A1 (A5m dC dD hr hx) (A1 (pv 4) A5))) A5)))))) (C7 U4 (C7 U6 (pv 2) A7) A7) (fun _ _=>rfl)) (V1x rfl (A5u (A0b (i:=6) scLRef22.nd rfl (Or.inr rfl)) (A5u (A0b (i:=7) scLRef22.nd rfl (Or.inr rfl)) D3u)))))
     (A6 (D6 (G0 (D0 (V0z hr.units) (D3w dA dB HG hr hx CZ (A1 (B8h LB rfl (by rfl)) A5)) (V3 (A1 C9 A5)) (C8 _)) (A8 (B7 A2y)) D3))
     (A6 (D6 (G0 (D0 (V0z hr.units) (D3w dA dB HG hr hx CZ (A1 (B8h LB rfl (by rfl)) A5)) (V3 (A1 C9 A5)) (C8 _)) (A8 (B7 A2y)) D3))
     (A8 (B7 (A6r (J0 (B7q hr.units) (D3w dA dB HG hr hx CZ (A1 (B8h LB rfl (by rfl)) A5)) (V3 (A1 C9 A5)) (C8 _)) (A5h (J0 (B7q hr.units) (A1j (pv 0) C.cl mf gf hr bf .nil hx) (U1 A5) (C8 _))))))))))))),?_⟩
   have z2:2<=sizeLine:=D8 (by decide)
   have z4:4<=sizeLine:=D8 (by decide)
   have z12:12<=sizeLine:=D8 (by decide)
   have z5:5<=sizeLine:=D8 (by decide)
   have z1:1<=sizeLine:=D8 (by decide)
   refine⟨fun σ' H'=>∃ce:Int,H'=H/\σ'=J0d c sc (some (.int ce)) none none none none none,⟨_,rfl,sc,ns,4,rfl,h0.scr,by decide,fun ce=>⟨ce,rfl,rfl⟩⟩,?_⟩
   rintro σ' H1 ⟨ce,rfl,rfl⟩
   refine⟨fun σ' H'=>∃l,∃xs:List V,Same H1 H'/\H' l=some (.lst xs)/\xs.length=12/\(∀u∈xs,OddV H' u)/\σ'=J0d c sc (some (.int ce)) (some (.ref l)) none none none none,?_,?_⟩
   . refine⟨z1,fun q1 n1=>⟨z4,fun q2 n2=>fun q3 n3=>⟨Nat.zero_le _,fun q4 n4=>⟨Nat.zero_le _,fun q5 n5=>⟨_,rfl,z12,fun l nl=>?_⟩⟩⟩⟩⟩
     have u1:=Same.upd (o:= .lst [.int 1]) n1
     have u2:=Same.upd (o:= .tup [.str "plain",.int 0,.int 1,.int 0]) n2
     have u3:=Same.upd (o:= .dK []) n3
     have u4:=Same.upd (o:= .lst []) n4
     have u5:=Same.upd (o:= .tup []) n5
     have u6:=Same.upd (o:= .lst [.non,.bl true,.int 5,.str "1",.ref q1,.ref q2,.ref q3,.str "none",.int 0,.ref q4,.ref q5,.int (-3)]) nl
     refine⟨l,_,u1.trans (u2.trans (u3.trans (u4.trans (u5.trans u6)))),B5,rfl,fun u hu=>?_,rfl⟩
     simp only[List.mem_cons,List.not_mem_nil,or_false] at hu
     rcases hu with rfl|rfl|rfl|rfl|rfl|rfl|rfl|rfl|rfl|rfl|rfl|rfl
     . exact .non
     . exact .bl _
     . exact .int _
     . exact .str _
     . exact .lst ((u2.trans (u3.trans (u4.trans (u5.trans u6)))) _ _ B5)
     . exact .tup ((u3.trans (u4.trans (u5.trans u6))) _ _ B5)
     . exact .dic ((u4.trans (u5.trans u6)) _ _ B5)
     . exact .str _
     . exact .int _
     . exact .lst ((u5.trans u6) _ _ B5)
     . exact .tup (u6 _ _ B5)
     . exact .int _
   rintro σ' H2 ⟨l,xs,s2,el,lx,hx12,rfl⟩
   have h2:=h0.same s2
   refine⟨fun σ' H'=>∃o,H'=H2/\OddV H2 o/\σ'=J0d c sc (some (.int ce)) (some (.ref l)) (some o) none none none,?_,?_⟩
   . obtain⟨o,ho,ix⟩:=ixv (xs:=xs) (i:=ce % 12) (Int.emod_nonneg _ (by decide)) (by rw[lx];exact Int.emod_lt_of_pos _ (by decide))
     exact⟨_,rfl,_,rfl,_,_,rfl,rfl,(by decide:(0:Int)<12),l,_,_,_,rfl,rfl,SqL.of el,ix,o,rfl,hx12 o ho,rfl⟩
   rintro σ' H3 ⟨o,rfl,odd,rfl⟩
   refine⟨fun σ' H'=>∃n x,Same H3 H'/\NumIs CN H' n x/\σ'=J0d c sc (some (.int ce)) (some (.ref l)) (some o) (some (.ref n)) none none,?_,?_⟩
   . have hm:=Int.emod_lt_of_pos (ce/12) (by decide:(0:Int)<9)
     have hm0:=Int.emod_nonneg (ce/12) (by decide:(9:Int)≠0)
     refine⟨_,rfl,_,_,rfl,rfl,dv (n:=12) (by decide) (by decide+kernel),_,_,rfl,rfl,(by decide:(0:Int)<9),_,_,rfl,rfl,_,_,_,rfl,.inl ⟨⟨_,rfl,by decide,by decide⟩,⟨_,rfl,by omega,by omega⟩,⟨_,rfl,by decide,by decide⟩,fun n H' nn sm num=>?_⟩⟩
     exact⟨n,⟨.plain,0,1+ce/12 % 9,0⟩,sm,num,rfl⟩
   rintro σ' H4 ⟨n,x,s4,num,rfl⟩
   have h4:=h2.same s4
   have odd4:OddV H4 o:=odd.at fun _ _ _ _ e=>s4 _ _ e
   refine⟨fun σ' H'=>∃v1 v2,Same H4 H'/\BadP CN H' v1 v2/\σ'=J0d c sc (some (.int ce)) (some (.ref l)) (some o) (some (.ref n)) (some v1) (some v2),?_,?_⟩
   . have nt:∀{m:Addr} {H':Hp},NumAt CN H' m (.str "none") (.int 0) (.int 0) (.int 0) ->NumIs CN H' m ⟨.none,0,0,0⟩:=fun h=>h
     refine⟨_,rfl,_,rfl,z2,fun q1 n1=>⟨_,rfl,_,rfl,z2,fun q2 n2=>⟨_,rfl,_,rfl,z2,fun q3 n3=>⟨_,rfl,rfl,fun m1 H5 nm1 s5 B7u=>⟨z2,fun q4 n4=>⟨rfl,fun m2 H6 nm2 s6 D4v=>⟨_,rfl,z2,fun q5 n5=>⟨z5,fun l2 nl=>?_⟩⟩⟩⟩⟩⟩⟩⟩
     have u1:=Same.upd (o:= .tup [o,.ref n]) n1
     have u2:=Same.upd (o:= .tup [.ref n,o]) n2
     have u3:=Same.upd (o:= .tup [o,o]) n3
     have u4:=Same.upd (o:= .tup [o,.ref m1]) n4
     have u5:=Same.upd (o:= .tup [.ref m2,o]) n5
     have u6:=Same.upd (o:= .lst [.ref q1,.ref q2,.ref q3,.ref q4,.ref q5]) nl
     have w5:=u5.trans u6
     have w4:=u4.trans (s6.trans w5)
     have w3:=u3.trans (s5.trans w4)
     have w2:=u2.trans w3
     have w1:=u1.trans w2
     have od:OddV _ o:=odd4.at fun _ _ _ _ e=>w1 _ _ e
     obtain⟨r,hr',ix⟩:=ixv (xs:=[.ref q1,.ref q2,.ref q3,.ref q4,.ref q5]) (i:=ce/108 % 5) (Int.emod_nonneg _ (by decide)) (by show ce/108 % 5<5;exact Int.emod_lt_of_pos _ (by decide))
     suffices fin:∃q v1 v2,r= .ref q/\(upd (upd H6 q5 (.tup [.ref m2,o])) l2 (.lst [.ref q1,.ref q2,.ref q3,.ref q4,.ref q5])) q=some (.tup [v1,v2])/\BadP CN (upd (upd H6 q5 (.tup [.ref m2,o])) l2 (.lst [.ref q1,.ref q2,.ref q3,.ref q4,.ref q5])) v1 v2 by
       obtain⟨q,v1,v2,er,eq,bd⟩:=fin
       exact⟨_,rfl,_,_,rfl,rfl,dv (n:=108) (by decide) (by decide+kernel),_,_,rfl,rfl,(by decide:(0:Int)<5),l2,_,_,r,rfl,rfl,SqL.of B5,ix,q,_,er,SqT.of eq,rfl,_,_,rfl,_,_,rfl,rfl,v1,v2,w1,bd,rfl⟩
     simp only[List.mem_cons,List.not_mem_nil,or_false] at hr'
     rcases hr' with e|e|e|e|e
     . exact⟨_,_,_,e,w2 _ _ B5,.inl od⟩
     . exact⟨_,_,_,e,w3 _ _ B5,.inr ⟨n,x,rfl,num.same w1,od⟩⟩
     . exact⟨_,_,_,e,(s5.trans w4) _ _ B5,.inl od⟩
     . exact⟨_,_,_,e,(s6.trans w5) _ _ B5,.inl od⟩
     . exact⟨_,_,_,e,u6 _ _ B5,.inr ⟨m2,_,rfl,(nt D4v).same w5,od⟩⟩
   rintro σ' H5 ⟨v1,v2,s5,bad,rfl⟩
   have h5:=h4.same s5
   clear num odd4 odd h4 h2 s4 s5 hx12
   refine⟨fun σ' H'=>J22 CC P0 K sc ns c b v a H'/\BadP CN H' v1 v2/\σ'=J0d c sc (some (.int ce)) (some (.ref l)) (some o) (some (.ref n)) (some v1) (some v2),?_,?_⟩
   . refine⟨h5.t1,fun fl H8 sT nf la tab8 oth=>?_⟩
     obtain⟨h8,k8⟩:=h5.lam sT tab8 (oth U2k B8g (by decide) h5.t2) (oth U1r B8g (by decide) h5.t3)
     have bad8:BadP CN H8 v1 v2:=bad.at fun b o n1 n2 e=>k8 _ _ n1 e
     intro hn H9 ho A9 kn
     have DO:=D4j (P:=P) (w:=w) (K:=K) (mg:=mg) (base:=base) (k:=8) (vs:=[v2,v1,.ref c]) (sp:=D4g CN CB v1 v2) la (show LamS ["_law_other","_law_one","_law_context"] _ from⟨rfl,rfl,rfl,by decide+kernel,by decide+kernel,by decide+kernel,by decide+kernel⟩) rfl (J0v _) (fun _ _ _=>rfl) (fun X cdv A' outer' s' H' Q' E' hX hr' hx' hsp af=>by
       subst hX
       obtain⟨bd,k'⟩:=hsp
       refine⟨_,C6 dJ dL hr' hx' (A1 (pv 2) (A1 (pv 1) (A1 (pv 0) A5))),?_⟩
       exact⟨_,rfl,_,rfl,_,rfl,.ref c,v1,v2,rfl,BadP.not O4 (bd.at fun b o n1 n2 e=>af.hide e fun o=>n2 _ _),fun H2 s2 _=>k' _ (B7t s2)⟩)
     refine B7y la hn ho A9 (fun j x' c' hj=>?_) DO (fun Qd Ed s89 kE=>⟨bad8.at fun b o n1 n2 e=>s89 _ _ e,kE⟩) (fun p H10 s10 ep=>?_)
     . rcases j with _|_|_|j
       . exact⟨_,rfl,kn 0 x' c' 7 _ hj rfl rfl⟩
       . exact⟨_,rfl,kn 1 x' c' 6 _ hj rfl rfl⟩
       . exact⟨_,rfl,kn 2 x' c' 0 _ hj rfl rfl⟩
       . cases hj
     . refine⟨z1,fun q nq=>?_⟩
       have u:=Same.upd (o:= .tup [.str "number"]) nq
       refine⟨C8c,C8c,rd1 (u _ _ ep),rd1 B5,sh1,sh1,_,rfl,?_⟩
       rw[if_pos rfl,eq1]
       exact Y5 ⟨h8.same (s10.trans u),bad8.at (fun b o n1 n2 e=>(s10.trans u) _ _ e),rfl⟩
   clear h5 bad
   rintro σ' H5 ⟨h5,bad,rfl⟩
   refine⟨fun σ' H'=>J22 CC P0 K sc ns c b v a H'/\BadP CN H' v1 v2/\σ'=J0d c sc (some (.int ce)) (some (.ref l)) (some o) (some (.ref n)) (some v1) (some v2),?_,?_⟩
   . refine⟨h5.t2,fun fl H8 sT nf la tab8 oth=>?_⟩
     obtain⟨h8,k8⟩:=h5.lam sT (oth U1d B8g (by decide) h5.t1) tab8 (oth U1r B8g (by decide) h5.t3)
     have bad8:BadP CN H8 v1 v2:=bad.at fun b o n1 n2 e=>k8 _ _ n1 e
     intro hn H9 ho A9 kn
     have DO:=D4j (P:=P) (w:=w) (K:=K) (mg:=mg) (base:=base) (k:=8) (vs:=[v2,v1,.ref c]) (sp:=D4g CN CB v1 v2) la (show LamS ["_law_other","_law_one","_law_context"] _ from⟨rfl,rfl,rfl,by decide+kernel,by decide+kernel,by decide+kernel,by decide+kernel⟩) rfl (J0v _) (fun _ _ _=>rfl) (fun X cdv A' outer' s' H' Q' E' hX hr' hx' hsp af=>by
       subst hX
       obtain⟨bd,k'⟩:=hsp
       refine⟨_,C6 dM dN hr' hx' (A1 (pv 2) (A1 (pv 1) (A1 (pv 0) A5))),?_⟩
       exact⟨_,rfl,_,rfl,_,rfl,.ref c,v1,v2,rfl,BadP.not O4 (bd.at fun b o n1 n2 e=>af.hide e fun o=>n2 _ _),fun H2 s2 _=>k' _ (B7t s2)⟩)
     refine B7y la hn ho A9 (fun j x' c' hj=>?_) DO (fun Qd Ed s89 kE=>⟨bad8.at fun b o n1 n2 e=>s89 _ _ e,kE⟩) (fun p H10 s10 ep=>?_)
     . rcases j with _|_|_|j
       . exact⟨_,rfl,kn 0 x' c' 7 _ hj rfl rfl⟩
       . exact⟨_,rfl,kn 1 x' c' 6 _ hj rfl rfl⟩
       . exact⟨_,rfl,kn 2 x' c' 0 _ hj rfl rfl⟩
       . cases hj
     . refine⟨z1,fun q nq=>?_⟩
       have u:=Same.upd (o:= .tup [.str "number"]) nq
       refine⟨C8c,C8c,rd1 (u _ _ ep),rd1 B5,sh1,sh1,_,rfl,?_⟩
       rw[if_pos rfl,eq1]
       exact Y5 ⟨h8.same (s10.trans u),bad8.at (fun b o n1 n2 e=>(s10.trans u) _ _ e),rfl⟩
   clear h5 bad
   rintro σ' H5 ⟨h5,bad,rfl⟩
   . refine⟨h5.t3,fun fl H8 sT nf la tab8 oth=>?_⟩
     obtain⟨h8,k8⟩:=h5.lam sT (oth U1d B8g (by decide) h5.t1) (oth U2k B8g (by decide) h5.t2) tab8
     have bad8:BadP CN H8 v1 v2:=bad.at fun b o n1 n2 e=>k8 _ _ n1 e
     intro hn H9 ho A9 kn
     have DO:=D4j (P:=P) (w:=w) (K:=K) (mg:=mg) (base:=base) (k:=8) (vs:=[v2,v1,.ref c]) (sp:=D4g CN CB v1 v2) la (show LamS ["_law_other","_law_one","_law_context"] _ from⟨rfl,rfl,rfl,by decide+kernel,by decide+kernel,by decide+kernel,by decide+kernel⟩) rfl (J0v _) (fun _ _ _=>rfl) (fun X cdv A' outer' s' H' Q' E' hX hr' hx' hsp af=>by
       subst hX
       obtain⟨bd,k'⟩:=hsp
       refine⟨_,C6 dP dQ hr' hx' (A1 (pv 2) (A1 (pv 1) (A1 (pv 0) A5))),?_⟩
       exact⟨_,rfl,_,rfl,_,rfl,.ref c,v1,v2,rfl,BadP.not O4 (bd.at fun b o n1 n2 e=>af.hide e fun o=>n2 _ _),fun H2 s2 _=>k' _ (B7t s2)⟩)
     refine B7y la hn ho A9 (fun j x' c' hj=>?_) DO (fun Qd Ed s89 kE=>⟨bad8.at fun b o n1 n2 e=>s89 _ _ e,kE⟩) (fun p H10 s10 ep=>?_)
     . rcases j with _|_|_|j
       . exact⟨_,rfl,kn 0 x' c' 7 _ hj rfl rfl⟩
       . exact⟨_,rfl,kn 1 x' c' 6 _ hj rfl rfl⟩
       . exact⟨_,rfl,kn 2 x' c' 0 _ hj rfl rfl⟩
       . cases hj
     . refine⟨z1,fun q nq=>?_⟩
       have u:=Same.upd (o:= .tup [.str "number"]) nq
       have h10:=h8.same (s10.trans u)
       refine⟨C8c,C8c,rd1 (u _ _ ep),rd1 B5,sh1,sh1,?_⟩
       rw[if_neg Bool.false_ne_true,eq1]
       obtain⟨dc,ec⟩:=h10.ct.ins
       refine⟨_,rfl,Z1 ⟨_,rfl,c,dc,_,rfl,ec,A3a _ _ _ _ _ _,c,v.r,v.y,v.l,v.m,a,b,_,_,rfl,h10.ct,fun l1 n1=>⟨Nat.zero_le _,fun l2 n2=>?_⟩⟩⟩
       have u1:=Same.upd (o:= .lst []) n1
       have u2:=Same.upd (o:= .lst []) n2
       refine⟨rdS [],rdS [],D3p (u2 _ _ B5),D3p B5,shS (zs:=[]) ⟨by decide,fun _ h=>by cases h⟩,shS (zs:=[]) ⟨by decide,fun _ h=>by cases h⟩,?_⟩
       rw[if_neg Bool.false_ne_true,eqSs]
       exact kk _ (h10.same (u1.trans u2))
end
theorem U5v(a b c d e:Value):argsOk "min" ⟨[a,b,c,d,e],[]⟩:=by unfold argsOk;rfl
theorem U1n(num:Nat ->Int):∀k,argBest (fun i j=>decide (num i<num j)) k<=k/\∀j,j<=k ->num (argBest (fun i j=>decide (num i<num j)) k)<=num j
 | 0 =>⟨Nat.le_refl _,fun j hj=>by
     obtain rfl:j=0:=by omega
     exact Int.le_refl _⟩
 | k + 1=>by
   obtain⟨h1,h2⟩:=U1n num k
   unfold argBest
   by_cases hc:num (k+1)<num (argBest (fun i j=>decide (num i<num j)) k)
   . rw[if_pos (decide_eq_true hc)]
     refine⟨Nat.le_refl _,fun j hj=>?_⟩
     by_cases e:j=k+1
     . rw[e]
       exact Int.le_refl _
     . have:=h2 j (by omega)
       omega
   . rw[if_neg (by simpa using hc)]
     refine⟨by omega,fun j hj=>?_⟩
     by_cases e:j=k+1
     . rw[e]
       omega
     . exact h2 j (by omega)
section
variable{prog:Program}{w:World}{A:Around}{E:Value ->Shared ->Prop}{s:Shared}
theorem C8f{a b c d e:Value}{Q:Value ->Shared ->Prop}
   (h:wpAny (model prog w) A.in1 (pyIter (.ref s.heap.objs.size)) (fun it s₂=>∃I fp wr n P St bt,it= .ref I/\Walks prog w A.in1 I fp wr n P St/\St 0 s₂.heap/\(∀b∈fp,b<s₂.heap.objs.size)/\0<n/\CmpOf prog w A.in1 .Lt P bt/\
     ∀v h' tk,P (argBest bt (n-1)) v ->(∀b o,b ∉ wr ->s₂.heap.get? b=some o ->h'.get? b=some o) ->Q v {s₂ with heap:=h',toks:=tk}) E
     {s with heap:=s.heap.push {cls:= .type "tuple",data:= .seq #[a,b,c,d,e]}}):
   wpAny (model prog w) A (call (.builtin "min") [a,b,c,d,e]) Q E s:=by
 have hname:(toString "min"++toString ".loop":String)="min.loop":=by decide
 refine call_function_tree F.kind_min F.plain_min F.entry_min (U5v _ _ _ _ _) ?_
 show wpAny _ A.in1 (Builtin.Builtins.bindParams "min" ["key","default"] 0 ⟨[],[]⟩>>=_) _ _ s
 refine wpAny_bind (wpAny_of_eq (show Builtin.Builtins.bindParams "min" ["key","default"] 0 ⟨[],[]⟩=pure [none,none] from rfl) ?_)
 show wpAny _ A.in1 (newTuple [a,b,c,d,e]>>=_) _ _ s
 refine wpAny_bind (wpAny_newObj_type ?_)
 refine wpAny_bind (wpAny_mono h (fun it s₂ h₂=>?_) fun _ _ e=>e)
 obtain⟨I,fp,wr,n,P,St,bt,rfl,W,hst,hfp,hn,hcmp,hQ⟩:=h₂
 refine wpAny_bind (wpAny_newObj_type ?_)
 have hSf:s₂.heap.objs.size ∉ fp:=fun hm=>Nat.lt_irrefl _ (hfp _ hm)
 rw[hname]
 refine wpAny_pure ⟨plainId_quiet F.plain_min_loop _,codeAny_min_loop_first W bt hcmp s₂.heap.objs.size hSf hn (W.frame _ _ _ hst fun b _ o e=>Heap.get?_push_of_some _ e) (Heap.get?_push_size _ rfl) fun v h' tk hP hk=>?_⟩
 exact hQ v h' tk hP fun b o hbw e=>hk b o hbw (Nat.ne_of_lt (Heap.lt_size e)) (Heap.get?_push_of_some _ e)
theorem C7z{a b c d e:Int}{t1 t2 t3 t4 t5:Tok}{Q:Value ->Shared ->Prop}(hh:A.handled=none)
   (h:∀h' tk lo t,(∀d o,s.heap.get? d=some o ->h'.get? d=some o) ->lo<=a/\lo<=b/\lo<=c/\lo<=d/\lo<=e ->(lo=a\/lo=b\/lo=c\/lo=d\/lo=e) ->Q (.int lo t) {s with heap:=h',toks:=tk}):
   wpAny (model prog w) A (call (.builtin "min") [.int a t1,.int b t2,.int c t3,.int d t4,.int e t5]) Q E s:=by
 have hT:(s.heap.push {cls:= .type "tuple",data:= .seq #[.int a t1,.int b t2,.int c t3,.int d t4,.int e t5]}).IsTuple s.heap.objs.size (intItems #[(a,t1),(b,t2),(c,t3),(d,t4),(e,t5)]):=⟨_,Heap.get?_push_size _ rfl,rfl,0,by simp[intItems]⟩
 refine C8f (wpAny_pyIter_tuple hT ?_)
 have hsz:(s.heap.push {cls:= .type "tuple",data:= .seq #[.int a t1,.int b t2,.int c t3,.int d t4,.int e t5]}).objs.size=s.heap.objs.size+1:=Heap.size_push ..
 refine⟨_,[_,s.heap.objs.size],[_],_,_,_,_,rfl,Walks.tuple (A:=A.in1) hh _ s.heap.objs.size (by rw[hsz];exact Nat.ne_of_lt (Nat.lt_succ_self _)) (intItems #[(a,t1),(b,t2),(c,t3),(d,t4),(e,t5)]),
   ⟨⟨_,Heap.get?_push_size _ rfl,rfl,rfl⟩,hT.push _⟩,fun d hd=>?_,by simp[intItems],CmpOf.ints_lt (numAt #[(a,t1),(b,t2),(c,t3),(d,t4),(e,t5)]) (fun _ _=>intItems_at),fun v h' tk hP hk=>?_⟩
 . show d<((s.heap.push _).push _).objs.size
   rw[Heap.size_push,hsz]
   rcases List.mem_cons.mp hd with rfl|hd
   . rw[hsz];exact Nat.lt_succ_self _
   . rcases List.mem_cons.mp hd with rfl|hd
     . exact Nat.lt_succ_of_lt (Nat.lt_succ_self _)
     . cases hd
 . have hold:∀d o,s.heap.get? d=some o ->h'.get? d=some o:=fun d o e=>by
     refine hk d o (fun hm=>?_) (Heap.get?_push_of_some _ (Heap.get?_push_of_some _ e))
     rcases List.mem_cons.mp hm with e1|hm
     . have:=Heap.lt_size e;rw[e1,hsz] at this;exact Nat.lt_irrefl _ (Nat.lt_of_succ_lt this)
     . cases hm
   have hP':(intItems #[(a,t1),(b,t2),(c,t3),(d,t4),(e,t5)])[argBest (fun i j=>decide (numAt #[(a,t1),(b,t2),(c,t3),(d,t4),(e,t5)] i<numAt #[(a,t1),(b,t2),(c,t3),(d,t4),(e,t5)] j)) 4]?=some v:=by
     have hsz2:(intItems #[(a,t1),(b,t2),(c,t3),(d,t4),(e,t5)]).size-1=4:=by simp[intItems]
     rw[<-hsz2];exact hP
   obtain⟨b1,b2⟩:=U1n (numAt #[(a,t1),(b,t2),(c,t3),(d,t4),(e,t5)]) 4
   generalize argBest (fun i j=>decide (numAt #[(a,t1),(b,t2),(c,t3),(d,t4),(e,t5)] i<numAt #[(a,t1),(b,t2),(c,t3),(d,t4),(e,t5)] j)) 4=g at*
   have g0:=b2 0 (by omega)
   have g1:=b2 1 (by omega)
   have g2:=b2 2 (by omega)
   have g3:=b2 3 (by omega)
   have g4:=b2 4 (by omega)
   rcases(by omega:g=0\/g=1\/g=2\/g=3\/g=4) with rfl|rfl|rfl|rfl|rfl<;>simp[intItems,numAt] at hP' g0 g1 g2 g3 g4<;>subst hP'
   . exact h h' tk _ _ hold ⟨by omega,by omega,by omega,by omega,by omega⟩ (by omega)
   . exact h h' tk _ _ hold ⟨by omega,by omega,by omega,by omega,by omega⟩ (by omega)
   . exact h h' tk _ _ hold ⟨by omega,by omega,by omega,by omega,by omega⟩ (by omega)
   . exact h h' tk _ _ hold ⟨by omega,by omega,by omega,by omega,by omega⟩ (by omega)
   . exact h h' tk _ _ hold ⟨by omega,by omega,by omega,by omega,by omega⟩ (by omega)
end
theorem Z9z{a b c d e:V}{us:List Value}(h:Vals [a,b,c,d,e] us):∃u1 u2 u3 u4 u5,us=[u1,u2,u3,u4,u5]/\RelV a u1/\RelV b u2/\RelV c u3/\RelV d u4/\RelV e u5:=by
 cases h with
 | cons h1 h=>cases h with
   | cons h2 h=>cases h with
     | cons h3 h=>cases h with
       | cons h4 h=>cases h with
         | cons h5 h=>cases h with
           |nil=>exact⟨_,_,_,_,_,rfl,h1,h2,h3,h4,h5⟩
theorem U5b{X:Cx}(hc:X.calm=true):A2x X (.builtin "min") (fun xs H Q=>∃a b c d e,xs=[.int a,.int b,.int c,.int d,.int e]/\∀lo,lo<=a/\lo<=b/\lo<=c/\lo<=d/\lo<=e ->(lo=a\/lo=b\/lo=c\/lo=d\/lo=e) ->Q (.int lo) H):=by
 intro pins s σ H xs us Q I r h
 obtain⟨a,b,c,d,e,rfl,q⟩:=h
 obtain⟨u1,u2,u3,u4,u5,rfl,⟨t1,rfl⟩,⟨t2,rfl⟩,⟨t3,rfl⟩,⟨t4,rfl⟩,⟨t5,rfl⟩⟩:=Z9z r
 exact C7z (I.ok.hd hc) fun h' tk lo t k hl hm=>⟨.int lo,H,I.kept k,⟨t,rfl⟩,q lo hl hm⟩
noncomputable abbrev A3r:Stmt:=(top 79)
section
variable{P:Program}{w:World}{K:Frag}{mg:Str ->Option Value}{base:Heap}
structure Bn(x:Nm):Prop where
 s0:0<=x.s
 s1:x.s<=1
 f0:0<=x.f
 f1:x.f<B8 200
 p0: -200<=x.p
 p1:x.p<=200
noncomputable def Low (x1 x2 xw xl:Nm) (lo:Int):Prop:=lo<=0/\lo<=x1.p/\lo<=x2.p/\lo<=xw.p/\lo<=xl.p
noncomputable def U3v (i:Int):Int:=if i<0 then -i else i
structure Fit(x1 x2 xw xl:Nm)(m:Int):Prop where
 m0: -B8 200<m
 m1:m<B8 200
 many:∀lo,Low x1 x2 xw xl lo ->U7 xw lo/B8 (0-lo)=m
 eq:∀lo,Low x1 x2 xw xl lo ->m*U7 x2 lo+U7 xl lo=U7 x1 lo
 sg:xl.s=x1.s
 lt:∀lo,Low x1 x2 xw xl lo ->U3v (U7 xl lo)<U3v (U7 x2 lo)
noncomputable def D2b:Sp:=fun vs H Q _=>∃q1 q2 q3 q4,∃(x1 x2 xw xl:Nm) (m:Int),vs=[.ref q1,.ref q2,.ref q3,.ref q4]/\H q1=some (.tup x1.vs)/\H q2=some (.tup x2.vs)/\H q3=some (.tup xw.vs)/\H q4=some (.tup xl.vs)/\Bn x1/\Bn x2/\Bn xw/\Bn xl/\Fit x1 x2 xw xl m/\Q (.bl true) H
theorem C3u{z:Int}{n:Nat}(h0: -B8 n<z)(h:z<B8 n)(hn:4*n<=2^20):Builtin.Int.intBits z<=2^20:=by
 by_cases hz:0<=z
 . obtain⟨m,rfl⟩:=Int.eq_ofNat_of_zero_le hz
   refine B3x (k:=4*n) ?_ hn
   have:m<10^n:=Int.ofNat_lt.mp h
   exact Nat.lt_of_lt_of_le this (B6r n)
 . rw[<-G6b]
   obtain⟨m,e⟩:=Int.eq_ofNat_of_zero_le (show 0<= -z by omega)
   rw[e]
   refine B3x (k:=4*n) ?_ hn
   have:m<10^n:=Int.ofNat_lt.mp (by show(m:Int)<B8 n;omega)
   exact Nat.lt_of_lt_of_le this (B6r n)
theorem C4p{x:Nm}{lo:Int}(b:Bn x)(h:x.p-lo<=600):Builtin.Int.intBits (U7 x lo)<=2^20:=by
 have t0:=G9 (x.p-lo)
 have h1:x.f*B8 (x.p-lo)<B8 200*B8 600:=Int.lt_of_lt_of_le (Int.mul_lt_mul_of_pos_right b.f1 t0) (Int.mul_le_mul_of_nonneg_left (Z7 h) (Int.le_of_lt (G9 _)))
 have h0:0<=x.f*B8 (x.p-lo):=Int.mul_nonneg b.f0 (Int.le_of_lt t0)
 have e8:B8 200*B8 600=B8 ((800:Nat):Int):=by decide+kernel
 have s0:=b.s0
 have s1:=b.s1
 rw[e8] at h1
 unfold U7
 rcases(by omega:x.s=0\/x.s=1) with e|e
 . rw[e,show(1-2*(0:Int))*x.f=x.f by omega]
   exact C3u (n:=800) (by omega) h1 (by decide)
 . rw[e,show(1-2*(1:Int))*x.f*B8 (x.p-lo)= -(x.f*B8 (x.p-lo)) by rw[<-Int.neg_mul];congr 1;omega]
   exact C3u (n:=800) (by omega) (by omega) (by decide)
theorem scLFits22:FnScope ["_law_one","_law_other","_law_whole","_law_left","_law_low","_law_part","_law_many"] ["_law_one","_law_other","_law_whole","_law_left"] (A3 A3r):=scK
theorem J0y(D:Def K mg "_law_fits" ["_law_one","_law_other","_law_whole","_law_left"] A3r f fd)(dA:Def K mg "_law_worth" ["_law_one","_law_low"] A0n f1 fd1)(dB:FnOk P w K mg base (CX1 P w) 2 f1 fd1 ["_law_one","_law_low"] B4z)(dC:Def K mg "_law_ten" ["_law_count"] B6n f2 fd2)(dD:FnOk P w K mg base (CX1 P w) 1 f2 fd2 ["_law_count"] D3z)(O:Own mg):FnOk P w K mg base (CX1 P w) 3 f fd ["_law_one","_law_other","_law_whole","_law_left"] D2b:=by
 refine D.F.okE scLFits22 (fun vs H Q E h=>?_) (fun X cdv A outer s H vs Q E hX hr hx h=>?_)
 . obtain⟨q1,q2,q3,q4,x1,x2,xw,xl,m,rfl,_⟩:=h
   rfl
 . subst hX
   obtain⟨q1,q2,q3,q4,x1,x2,xw,xl,m,rfl,e1,e2,e3,e4,b1,b2,b3,b4,ft,k⟩:=h
   refine⟨_,(A6 (D6 (D7 (i:=4) scLFits22.nd rfl (Or.inl rfl) (J1 (U5b rfl) (by rfl) O.min_ boot_min (A1 A7 (A1 (U2 G8 (pv 0) A7 (fun _ _=>rfl)) (A1 (U2 G8 (pv 1) A7 (fun _ _=>rfl)) (A1 (U2 G8 (pv 2) A7 (fun _ _=>rfl)) (A1 (U2 G8 (pv 3) A7 (fun _ _=>rfl)) A5))))))))
     (A6 (D6 (D7 (i:=5) scLFits22.nd rfl (Or.inl rfl) (C6 dA dB hr hx (A1 (pv 1) (A1 (pv 4) A5)))))
     (A6 (D6 (D7 (i:=6) scLFits22.nd rfl (Or.inl rfl) (C7 U6 (C6 dA dB hr hx (A1 (pv 2) (A1 (pv 4) A5))) (C6 dC dD hr hx (A1 (C7 V1 A7 (pv 4)) A5)))))
     (A6 (D6 (G0 (PW.pt (B4k (D0 B4n (C7 Y3 (C7 V0 (pv 6) (pv 5)) (C6 dA dB hr hx (A1 (pv 3) (A1 (pv 4) A5)))) (C6 dA dB hr hx (A1 (pv 0) (A1 (pv 4) A5))) (C8 _)) (A6s (D0 B4n (U2 G8 (pv 3) A7 (fun _ _=>rfl)) (U2 G8 (pv 0) A7 (fun _ _=>rfl)) (C8 _))))) (A8 (B7 A2y)) D3))
     (A8 (B7 (J0 G5v (J1 A1z (by rfl) O.abs_ boot_abs (A1 (C6 dA dB hr hx (A1 (pv 3) (A1 (pv 4) A5))) A5)) (J1 A1z (by rfl) O.abs_ boot_abs (A1 (pv 5) A5)) (C8 _)))))))),?_⟩
   refine⟨fun σ' H'=>∃lo,Low x1 x2 xw xl lo/\ -200<=lo/\H'=H/\σ'=[some (.ref q1),some (.ref q2),some (.ref q3),some (.ref q4),some (.int lo),none,none],?_,?_⟩
   . refine⟨_,rfl,q1,_,_,_,rfl,rfl,SqT.of e1,G2 (j:=3) rfl,_,rfl,q2,_,_,_,rfl,rfl,SqT.of e2,G2 (j:=3) rfl,_,rfl,q3,_,_,_,rfl,rfl,SqT.of e3,G2 (j:=3) rfl,_,rfl,q4,_,_,_,rfl,rfl,SqT.of e4,G2 (j:=3) rfl,_,_,_,_,_,rfl,fun lo hl hm=>⟨lo,hl,?_,rfl,rfl⟩⟩
     have:=b1.p0
     have:=b2.p0
     have:=b3.p0
     have:=b4.p0
     omega
   rintro σ' H1 ⟨lo,low,lo2,rfl,rfl⟩
   obtain⟨l0,l1,l2,l3,l4⟩:=id low
   have w1:=fun h=>C4p (lo:=lo) b1 h
   have d1:=b1.p1
   have d2:=b2.p1
   have d3:=b3.p1
   have d4:=b4.p1
   refine⟨fun σ' H'=>H'=H1/\σ'=[some (.ref q1),some (.ref q2),some (.ref q3),some (.ref q4),some (.int lo),some (.int (U7 x2 lo)),none],⟨_,rfl,_,rfl,q2,x2,_,rfl,e2,b2.s0,b2.s1,b2.f0,b2.f1,l2,by omega,rfl,rfl⟩,?_⟩
   rintro σ' H2 ⟨rfl,rfl⟩
   have lg:(B8 (0-lo)).natAbs.log2<9000:=by
     have:=V1p (b:=1) B8c (s:=0-lo) (by omega)
     rwa[Int.one_mul] at this
   refine⟨fun σ' H'=>H'=H2/\σ'=[some (.ref q1),some (.ref q2),some (.ref q3),some (.ref q4),some (.int lo),some (.int (U7 x2 lo)),some (.int m)],?_,?_⟩
   . refine⟨_,rfl,_,rfl,q3,xw,_,rfl,e3,b3.s0,b3.s1,b3.f0,b3.f1,l3,by omega,_,rfl,_,_,rfl,rfl,(0-lo).toNat,?_,by omega,_,_,rfl,rfl,dv (G9 _) lg,rfl,?_⟩
     . show [V.int (0-lo)]=[V.int ((0-lo).toNat:Int)]
       rw[Int.toNat_of_nonneg (by omega)]
     . show [some (V.ref q1),some (V.ref q2),some (V.ref q3),some (V.ref q4),some (V.int lo),some (V.int (U7 x2 lo)),some (V.int (U7 xw lo/B8 (0-lo)))]=_
       rw[ft.many lo low]
   rintro σ' H3 ⟨rfl,rfl⟩
   refine⟨fun σ' H'=>H'=H3/\σ'=[some (.ref q1),some (.ref q2),some (.ref q3),some (.ref q4),some (.int lo),some (.int (U7 x2 lo)),some (.int m)],?_,?_⟩
   . have mo:IntMulOk m (U7 x2 lo):=IntMulOk.of_bits (C3u (n:=200) ft.m0 ft.m1 (by decide)) (C4p b2 (by omega))
     refine⟨_,rfl,_,rfl,_,_,rfl,rfl,mo,_,rfl,_,rfl,q4,xl,_,rfl,e4,b4.s0,b4.s1,b4.f0,b4.f1,l4,by omega,_,_,rfl,rfl,_,rfl,_,rfl,q1,x1,_,rfl,e1,b1.s0,b1.s1,b1.f0,b1.f1,l1,by omega,rfl,?_⟩
     have ee:(V.int (m*U7 x2 lo+U7 xl lo))=V.int (U7 x1 lo):=congrArg V.int (ft.eq lo low)
     have es:(V.int xl.s)=V.int x1.s:=congrArg V.int ft.sg
     refine⟨_,rfl,D4a (fun e=>?_) fun _=>?_⟩
     . rw[decide_eq_true ee] at e
       cases e
     . refine⟨_,rfl,q4,_,_,_,rfl,rfl,SqT.of e4,G2 (j:=1) rfl,_,rfl,q1,_,_,_,rfl,rfl,SqT.of e1,G2 (j:=1) rfl,rfl,_,rfl,D4a (fun e=>?_) fun _=>?_⟩
       . rw[decide_eq_true es] at e
         cases e
       . exact⟨rfl,rfl⟩
   rintro σ' H4 ⟨rfl,rfl⟩
   refine⟨_,rfl,_,rfl,q4,xl,_,rfl,e4,b4.s0,b4.s1,b4.f0,b4.f1,l4,by omega,_,rfl,_,rfl,_,rfl,_,_,rfl,rfl,?_⟩
   show Q (V.bl (decide (U3v (U7 xl lo)<U3v (U7 x2 lo)))) H4
   rw[decide_eq_true (ft.lt lo low)]
   exact k
end
theorem G5h(i:Int):∀(n:Nat) (f p:Int),f≠0 ->(A1y i n f p).1≠0
 |0,f,p,h=>h
 | n+1,f,p,h=>by
   unfold A1y
   split
   . exact G5h i n (f/10) (p+1) (by omega)
   . exact h
theorem U4u{a:Int}(h:a<=0):B8 a=1:=by
 unfold B8
 rw[Int.toNat_of_nonpos h]
 rfl
theorem J1a{a b:Int}(h1:0<=a)(h2:0<=b):B8 (a+b)=B8 a*B8 b:=by
 unfold B8
 rw[Int.toNat_add h1 h2,Nat.pow_add,Int.natCast_mul]
theorem U1m(i:Int):∀(n:Nat) (f p:Int),(A1y i n f p).1*B8 ((A1y i n f p).2-p)=f/\p<=(A1y i n f p).2
 |0,f,p=>⟨by show f*B8 (p-p)=f;rw[U4u (by omega),Int.mul_one],Int.le_refl _⟩
 | n +1,f,p=>by
   unfold A1y
   split
   . rename_i hf
     obtain⟨a,b⟩:=U1m i n (f/10) (p+1)
     refine⟨?_,by omega⟩
     rw[show(A1y i n (f/10) (p+1)).2-p=1+((A1y i n (f/10) (p+1)).2-(p+1)) by omega,J1a (by omega) (by omega),show B8 1=10 from rfl,Int.mul_left_comm,a]
     omega
   . exact⟨by show f*B8 (p-p)=f;rw[U4u (by omega),Int.mul_one],Int.le_refl _⟩
theorem A0bh{t b s:Int}(hb:0<b)(h:ptI t b s=0):t*B8 s=whI t b s*(b*B8 (-s)):=by
 have wl:=U2f (t:=t) (s:=s) hb
 unfold ptI A9n at h
 by_cases z:0<t*B8 s-whI t b s*(b*B8 (-s))
 . rw[if_pos (decide_eq_true z)] at h
   have h1:∀{c:Bool},0<=(if c=true then(1:Int) else 0):=fun{c}=>by split<;>decide
   have a1:=h1 (c:=decide (b*B8 (-s)<=2*(t*B8 s-whI t b s*(b*B8 (-s)))))
   have a2:=h1 (c:=decide (b*B8 (-s)<2*(t*B8 s-whI t b s*(b*B8 (-s)))))
   omega
 . omega
theorem Z5k{t b n q w:Int}(h:t*B8 (n-q)=w*(b*B8 (-(n-q)))){lo:Int}(h1:lo<=q)(h2:lo<=n):w*B8 (q-lo)*b=t*B8 (n-lo):=by
 by_cases c:q<=n
 . rw[U4u (show -(n-q)<=0 by omega),Int.mul_one] at h
   rw[show n-lo=(n-q)+(q-lo) by omega,J1a (by omega) (by omega), <-Int.mul_assoc,h,Int.mul_assoc,Int.mul_assoc,Int.mul_comm b]
 . rw[U4u (show n-q<=0 by omega),Int.mul_one,show -(n-q)=q-n by omega] at h
   rw[show q-lo=(q-n)+(n-lo) by omega,J1a (by omega) (by omega),h]
   simp only[Int.mul_assoc,Int.mul_comm,Int.mul_left_comm]
theorem B6g{f p:Int}{lo lo':Int}(h1:lo'<=lo)(h2:lo<=p):f*B8 (p-lo')=f*B8 (p-lo)*B8 (lo-lo'):=by
 rw[show p-lo'=(p-lo)+(lo-lo') by omega,J1a (by omega) (by omega),Int.mul_assoc]
theorem U2m{a b c:Int}(h:a*B8 c=b*B8 c):a=b:=Int.eq_of_mul_eq_mul_right (Int.ne_of_gt (G9 c)) h
theorem A0bc{f:Int}(h:0<f):1<=U4c f:=by
 obtain⟨n,hn⟩:∃n:Nat,f=(n:Int):=⟨f.toNat,by omega⟩
 subst hn
 obtain⟨A,a1,a2⟩:=D3q n (by omega)
 rw[Y7g a2 a1]
 omega
theorem exL{t b:Int}(ht:0<t)(hb:0<b)(n:Int):∃L,A0k t b (n-L):=by
 obtain⟨m,rfl⟩:∃m:Nat,t=(m:Int):=⟨t.toNat,by omega⟩
 obtain⟨k,rfl⟩:∃k:Nat,b=(k:Int):=⟨b.toNat,by omega⟩
 obtain⟨A,a1,a2⟩:=D3q m (by omega)
 obtain⟨B,b1,b2⟩:=D3q k (by omega)
 by_cases z:(m:Int)*B8 ((B:Int)-A)<(k:Int)*B8 (-((B:Int)-A))
 . refine⟨n-((B:Int)-A+1),?_⟩
   rw[show n-(n-((B:Int)-A+1))=(B:Int)-A+1 by omega]
   exact C4h a1 a2 b1 b2 z
 . refine⟨n-((B:Int)-A),?_⟩
   rw[show n-(n-((B:Int)-A))=(B:Int)-A by omega]
   exact D1r a1 a2 b1 b2 (by omega)
theorem D1w{v:Cv}{s t b n L i:Int}(ok:v.Ok)(ht:Sz t)(hb:Sz b)(hl:A0k t b (n-L))(no:("off":Str) ∉ (Z6 v s t b n L i).2):
   ∃f p,(Z6 v s t b n L i).1=⟨.plain,s,f,p⟩/\0<f/\f<B8 24/\ -83<=p/\p<=60/\∀lo,lo<=p ->lo<=n ->f*B8 (p-lo)*b=t*B8 (n-lo):=by
 have fin1:L-v.r+1<=v.fin L/\v.l-v.r+1<=v.fin L:=by unfold Cv.fin A4n;split<;>omega
 have r1:=ok.r1
 have r2:=ok.r2
 have l1:=ok.l1
 have m2:=ok.m2
 obtain⟨w0,w1⟩:=U1p (s2:=n-v.fin L) ht hb hl ok.r1 (by omega)
 unfold Z6 at no ⊢
 generalize v.fin L=q at*
 unfold C2x at no ⊢
 split at no
 . exact absurd (show("off":Str)∈(["burst","off","cut"]:List Str) by decide) no
 . rename_i nb
   rw[if_neg nb]
   by_cases z:ptI t b (n-q)=0
   . have hb0:0<b:=by have:=hb.1;omega
     have ex:=A0bh hb0 z
     have wp:whI t b (n-q)≠0:=fun e=>by
       rw[e,Int.zero_mul] at ex
       have h1:0<t*B8 (n-q):=Int.mul_pos (by have:=ht.1;omega) (G9 _)
       omega
     have en:A3s v s (whI t b (n-q)) (ptI t b (n-q)) q i=A1e i (whI t b (n-q)) q:=by unfold A3s;rw[if_pos z]
     rw[en] at nb ⊢
     generalize whI t b (n-q)=w at*
     unfold A1e at nb ⊢
     obtain⟨sw,sp⟩:=U1m i (i-q).toNat w q
     have sn:=G5h i (i-q).toNat w q wp
     obtain⟨s0,sl⟩:=C3r i (i-q).toNat w q w0
     generalize A1y i (i-q).toNat w q=r at*
     refine⟨r.1,r.2,rfl,by omega,Int.lt_of_le_of_lt sl (Int.lt_of_lt_of_le w1 (Z7 ok.r2)),by omega,?_,fun lo h1 h2=>?_⟩
     . unfold B3s at nb
       rw[if_neg sn] at nb
       have:¬r.2+U4c r.1-1>v.m:=fun h=>nb (decide_eq_true h)
       have fp:1<=U4c r.1:=A0bc (by omega)
       omega
     . obtain⟨lo',h3,h4,h5⟩:∃lo',lo'<=lo/\lo'<=q/\lo'<=n:=⟨Y7 lo q,by unfold Y7;split<;>omega,by unfold Y7;split<;>omega,by unfold Y7;split<;>omega⟩
       have e1:=Z5k ex h4 h5
       rw[<-sw,Int.mul_assoc r.1, <-J1a (by omega) (by omega),show r.2-q+(q-lo')=r.2-lo' by omega,B6g h3 h1,B6g h3 h2] at e1
       refine U2m (c:=lo-lo') ?_
       rw[<-e1,Int.mul_right_comm]
   . refine absurd ?_ no
     unfold A4c
     rw[if_neg z]
     exact List.mem_append_left _ (by decide)
structure Ex(x:Nm)(s:Int)(p0:Int)(W:Int ->Int):Prop where
 k:x.k= .plain
 s:x.s=s
 f0:0<=x.f
 f1:x.f<B8 24
 a: -83<=x.p
 b:x.p<=60
 w:∀lo,lo<=x.p ->lo<=p0 ->x.f*B8 (x.p-lo)=W lo
theorem Ex.bn{x:Nm}{s p0:Int}{W:Int ->Int}(h:Ex x s p0 W)(s0:0<=s)(s1:s<=1):Bn x:=⟨by rw[h.s];exact s0,by rw[h.s];exact s1,h.f0,Int.lt_of_lt_of_le h.f1 (Z7 (by decide)),by have:=h.a;omega,by have:=h.b;omega⟩
theorem B8k{v:Cv}{s i:Int}(ok:v.Ok)(p0:Int):Ex (C2v v s i) s p0 (fun _=>0):=by
 have r1:=ok.r1
 have r2:=ok.r2
 have l1:=ok.l1
 have l2:=ok.l2
 have m1:=ok.m1
 have m2:=ok.m2
 refine⟨rfl,rfl,Int.le_refl _,G9 _,?_,?_,fun _ _ _=>Int.zero_mul _⟩
 . show -83<=Y7 (A4n i (v.l-v.r+1)) v.m
   unfold Y7 A4n
   split<;>split<;>omega
 . show Y7 (A4n i (v.l-v.r+1)) v.m<=60
   unfold Y7 A4n
   split<;>split<;>omega
theorem D2e{v:Cv}{s t n L i:Int}(ok:v.Ok)(ht:Sz t)(hl:A0k t 1 (n-L))(no:("off":Str) ∉ (Z6 v s t 1 n L i).2):Ex (Z6 v s t 1 n L i).1 s n (fun lo=>t*B8 (n-lo)):=by
 obtain⟨f,p,e,f0,f1,a,b,w⟩:=D1w ok ht B8c hl no
 rw[e]
 exact⟨rfl,rfl,Int.le_of_lt f0,f1,a,b,fun lo h1 h2=>by have:=w lo h1 h2;rw[Int.mul_one] at this;exact this⟩
theorem G5j{x:Nm}{q lo:Int}(h1:lo<=q)(h2:q<=x.p):x.f*B8 (x.p-lo)=U0 x q*B8 (q-lo):=B6g h1 h2
theorem Y8r(x1 x2:Nm)(o1:x1.Ok)(o2:x2.Ok):∃L,Z4u x1 x2 L:=by
 obtain⟨w0,_⟩:=D5a o1 o2
 by_cases hf:J9 x1 x2=0
 . exact⟨0,fun _ z=>absurd hf z⟩
 . obtain⟨L,h⟩:=exL (t:=J9 x1 x2) (b:=1) (by omega) (by decide) 0
   exact⟨L,fun _ _=>h⟩
theorem Z4c(x1 x2:Nm)(o1:x1.Ok)(o2:x2.Ok):∃L,U5j x1 x2 L:=by
 by_cases h:0<(A9h x1 x2).f
 . obtain⟨L,e⟩:=exL (t:=(A9h x1 x2).f) (b:=1) h (by decide) (A9h x1 x2).p
   exact⟨L,fun _ _=>e⟩
 . refine⟨0,fun _ h2=>absurd ?_ h⟩
   suffices 0<=(A9h x1 x2).f by omega
   unfold A9h
   split
   . exact o1.f0
   . by_cases hf:x2.f=0
     . unfold A0j J9 U0
       rw[hf,Int.zero_mul,Int.ediv_zero,Int.zero_mul,Int.sub_zero]
       exact A9w o1
     . exact(J0s o1 o2 hf).1
theorem Y8t(x1 x2:Nm)(o1:x1.Ok)(o2:x2.Ok):∃L,V9 x1 x2 ->x1.f≠0 ->A0k x1.f x2.f (x1.p-x2.p-L):=by
 have a0:=o1.f0
 have b0:=o2.f0
 by_cases h:x1.f=0
 . exact⟨0,fun _ z=>absurd h z⟩
 . by_cases h2:x2.f=0
   . exact⟨0,fun z=>absurd h2 z.2.2⟩
   . obtain⟨L,e⟩:=exL (t:=x1.f) (b:=x2.f) (by omega) (by omega) (x1.p-x2.p)
     exact⟨L,fun _ _=>e⟩
theorem Z3q{t:Int}(h0:0<t)(h1:t<B8 500):Sz t:=⟨by omega,Int.lt_of_lt_of_le h1 (Z7 (by decide))⟩
section
variable{v:Cv}{x1 x2:Nm}{L:Int}
theorem Z9f(ok:v.Ok)(o1:x1.Ok)(o2:x2.Ok)(pq:V9 x1 x2)(pre:Z4u x1 x2 L)(hr:J9 x1 x2<B8 v.r)(no:("off":Str) ∉ (woR v x1 x2 L).2):Ex (woR v x1 x2 L).1 (Z8 x1.s x2.s) 0 (fun lo=>J9 x1 x2*B8 (0-lo)):=by
 obtain⟨w0,w1⟩:=D5a o1 o2
 have nn:¬(x1.k= .none\/x2.k= .none):=by rw[pq.1,pq.2.1];decide
 unfold woR at no ⊢
 rw[if_neg nn,if_pos pq,if_neg (by omega)] at no ⊢
 by_cases z:J9 x1 x2=0
 . rw[if_pos z]
   have:=B8k (s:=Z8 x1.s x2.s) (i:=A4n (x1.p-x2.p) 0) ok 0
   refine⟨this.k,this.s,this.f0,this.f1,this.a,this.b,fun lo h1 h2=>?_⟩
   rw[this.w lo h1 h2,z,Int.zero_mul]
 . rw[if_neg z] at no ⊢
   exact D2e ok (Z3q (by omega) w1) (pre pq z) no
theorem A0bm(ok:v.Ok)(o1:x1.Ok)(o2:x2.Ok)(pq:V9 x1 x2)(pre:U5j x1 x2 L)(hr:J9 x1 x2<B8 v.r)(no:("off":Str) ∉ (reR v x1 x2 L).2):Ex (reR v x1 x2 L).1 x1.s (U3 x1 x2) (fun lo=>U0 x1 (U3 x1 x2) % U0 x2 (U3 x1 x2)*B8 (U3 x1 x2-lo)):=by
 have nn:¬(x1.k= .none\/x2.k= .none):=by rw[pq.1,pq.2.1];decide
 have ne1:¬x1.k= .end_:=by rw[pq.1];decide
 have ne2:¬x2.k= .end_:=by rw[pq.2.1];decide
 obtain⟨l0,l1,_,_,le⟩:=J0s o1 o2 pq.2.2
 have last:A9h x1 x2=A0j x1 x2:=if_neg ne2
 unfold U5j at pre
 rw[last] at pre
 unfold reR at no ⊢
 rw[if_neg nn,if_neg ne1,if_neg (fun h=>pq.2.2 h.2),if_neg ne2,if_neg (by omega)] at no ⊢
 rw[<-le]
 show Ex (A3t v (A0j x1 x2) L).1 (A0j x1 x2).s (A0j x1 x2).p (fun lo=>(A0j x1 x2).f*B8 ((A0j x1 x2).p-lo))
 have hk:(A0j x1 x2).k= .plain:=rfl
 generalize A0j x1 x2=y at*
 unfold A3t at no ⊢
 rw[hk] at no ⊢
 dsimp only at no ⊢
 by_cases z:y.f=0
 . rw[if_pos z]
   have:=B8k (s:=y.s) (i:=y.p) ok y.p
   refine⟨this.k,this.s,this.f0,this.f1,this.a,this.b,fun lo h1 h2=>?_⟩
   exact(this.w lo h1 h2).trans (by show(0:Int)=y.f*B8 (y.p-lo);rw[z,Int.zero_mul])
 . rw[if_neg z] at no ⊢
   exact D2e ok (Z3q (by omega) l1) (pre hk z) no
theorem Y7u{a b:Int}(a0:0<=a)(a1:a<=1)(b0:0<=b)(b1:b<=1):(1-2*Z8 a b)*(1-2*b)=1-2*a:=by
 unfold Z8
 rcases(by omega:a=0\/a=1) with rfl|rfl<;>rcases(by omega:b=0\/b=1) with rfl|rfl<;>decide
theorem V1u{s z:Int}(s0:0<=s)(s1:s<=1)(h:0<=z):U3v ((1-2*s)*z)=z:=by
 unfold U3v
 rcases(by omega:s=0\/s=1) with rfl|rfl
 . rw[show(1-2*(0:Int))*z=z by omega,if_neg (by omega)]
 . rw[show(1-2*(1:Int))*z= -z by omega]
   split<;>omega
theorem Z4w{xw xl:Nm}(o1:x1.Ok)(o2:x2.Ok)(pq:V9 x1 x2)(ew:Ex xw (Z8 x1.s x2.s) 0 (fun lo=>J9 x1 x2*B8 (0-lo)))(el:Ex xl x1.s (U3 x1 x2) (fun lo=>U0 x1 (U3 x1 x2) % U0 x2 (U3 x1 x2)*B8 (U3 x1 x2-lo)))(hr:J9 x1 x2<B8 24):Fit x1 x2 xw xl ((1-2*Z8 x1.s x2.s)*J9 x1 x2):=by
 obtain⟨w0,w1⟩:=D5a o1 o2
 have us:=B8d x1.s x2.s
 have lb:=D2q x1 x2
 have t24:B8 24<=B8 200:=Z7 (by decide)
 have B0:0<U0 x2 (U3 x1 x2):=by
   have h1:=o2.f0
   have h2:=pq.2.2
   exact Int.mul_pos (by omega) (G9 _)
 have A0:=A9w (x:=x1) (q:=U3 x1 x2) o1
 have dm:=Int.emod_nonneg (U0 x1 (U3 x1 x2)) (show U0 x2 (U3 x1 x2)≠0 by omega)
 have dl:=Int.emod_lt_of_pos (U0 x1 (U3 x1 x2)) B0
 have ad:U0 x2 (U3 x1 x2)*J9 x1 x2+U0 x1 (U3 x1 x2) % U0 x2 (U3 x1 x2)=U0 x1 (U3 x1 x2):=Int.mul_ediv_add_emod _ _
 have lo_:∀{lo},Low x1 x2 xw xl lo ->lo<=U3 x1 x2:=fun h=>by
   obtain⟨_,h1,h2,_,_⟩:=h
   omega
 have e2:∀{lo},Low x1 x2 xw xl lo ->U7 x2 lo=(1-2*x2.s)*(U0 x2 (U3 x1 x2)*B8 (U3 x1 x2-lo)):=fun h=>by
   unfold U7
   rw[Int.mul_assoc,G5j (lo_ h) lb.2.1]
 have e1:∀{lo},Low x1 x2 xw xl lo ->U7 x1 lo=(1-2*x1.s)*(U0 x1 (U3 x1 x2)*B8 (U3 x1 x2-lo)):=fun h=>by
   unfold U7
   rw[Int.mul_assoc,G5j (lo_ h) lb.1]
 have e3:∀{lo},Low x1 x2 xw xl lo ->U7 xl lo=(1-2*x1.s)*(U0 x1 (U3 x1 x2) % U0 x2 (U3 x1 x2)*B8 (U3 x1 x2-lo)):=fun h=>by
   unfold U7
   rw[Int.mul_assoc,el.w _ h.2.2.2.2 (lo_ h),el.s]
 refine⟨?_,?_,fun lo h=>?_,fun lo h=>?_,el.s,fun lo h=>?_⟩
 . rcases(by omega:Z8 x1.s x2.s=0\/Z8 x1.s x2.s=1) with e|e<;>rw[e]<;>omega
 . rcases(by omega:Z8 x1.s x2.s=0\/Z8 x1.s x2.s=1) with e|e<;>rw[e]<;>omega
 . unfold U7
   rw[Int.mul_assoc,ew.w lo h.2.2.2.1 h.1,ew.s, <-Int.mul_assoc]
   exact Int.mul_ediv_cancel _ (Int.ne_of_gt (G9 _))
 . rw[e1 h,e2 h,e3 h, <-Y7u o1.s0 o1.s1 o2.s0 o2.s1]
   rw[show(1-2*Z8 x1.s x2.s)*J9 x1 x2*((1-2*x2.s)*(U0 x2 (U3 x1 x2)*B8 (U3 x1 x2-lo)))=(1-2*Z8 x1.s x2.s)*(1-2*x2.s)*(U0 x2 (U3 x1 x2)*J9 x1 x2*B8 (U3 x1 x2-lo)) by ac_rfl, <-Int.mul_add, <-Int.add_mul,ad]
 . have tp:=G9 (U3 x1 x2-lo)
   rw[e2 h,e3 h,V1u o1.s0 o1.s1 (Int.mul_nonneg dm (Int.le_of_lt tp)),V1u o2.s0 o2.s1 (Int.mul_nonneg (Int.le_of_lt B0) (Int.le_of_lt tp))]
   exact Int.mul_lt_mul_of_pos_right dl tp
theorem Y9c(ok:v.Ok)(o1:x1.Ok)(o2:x2.Ok)(pq:V9 x1 x2)(pre:V9 x1 x2 ->x1.f≠0 ->A0k x1.f x2.f (x1.p-x2.p-L))(no:("off":Str) ∉ (A3q v x1 x2 L).2){xw:Nm}(ew:Ex xw (Z8 x1.s x2.s) 0 (fun lo=>J9 x1 x2*B8 (0-lo)))(lz:U0 x1 (U3 x1 x2) % U0 x2 (U3 x1 x2)=0):
   Bn (A3q v x1 x2 L).1/\(A3q v x1 x2 L).1.k= .plain/\U7 xw (Y7 xw.p (A3q v x1 x2 L).1.p)=U7 (A3q v x1 x2 L).1 (Y7 xw.p (A3q v x1 x2 L).1.p):=by
 have nn:¬(x1.k= .none\/x2.k= .none):=by rw[pq.1,pq.2.1];decide
 have us:=B8d x1.s x2.s
 have lb:=D2q x1 x2
 have h1:=o2.f0
 have h2:=pq.2.2
 have h3:=o1.f0
 have ad:U0 x2 (U3 x1 x2)*J9 x1 x2+U0 x1 (U3 x1 x2) % U0 x2 (U3 x1 x2)=U0 x1 (U3 x1 x2):=Int.mul_ediv_add_emod _ _
 rw[lz,Int.add_zero] at ad
 suffices hq:∃f p:Int,(A3q v x1 x2 L).1=⟨.plain,Z8 x1.s x2.s,f,p⟩/\0<=f/\f<B8 24/\ -83<=p/\p<=60/\∀lo,lo<=p ->lo<=x1.p-x2.p ->f*B8 (p-lo)*x2.f=x1.f*B8 (x1.p-x2.p-lo) by
   obtain⟨f,p,e,f0,f1,pa,pb,w⟩:=hq
   rw[e]
   refine⟨⟨us.1,us.2,f0,Int.lt_of_lt_of_le f1 (Z7 (by decide)),by show -200<=p;omega,by show p<=200;omega⟩,rfl,?_⟩
   show U7 xw (Y7 xw.p p)=(1-2*Z8 x1.s x2.s)*f*B8 (p-Y7 xw.p p)
   have ml:Y7 xw.p p<=xw.p/\Y7 xw.p p<=p:=by unfold Y7;split<;>omega
   generalize Y7 xw.p p=lo at*
   unfold U7
   rw[ew.s,Int.mul_assoc,Int.mul_assoc]
   congr 1
   obtain⟨lo',a1,a2,a3⟩:∃lo',lo'<=lo/\lo'<=0/\lo'<=x1.p-x2.p:=⟨Y7 lo (Y7 0 (x1.p-x2.p)),by unfold Y7;split<;>split<;>omega,by unfold Y7;split<;>split<;>omega,by unfold Y7;split<;>split<;>omega⟩
   have b1:=ew.w lo' (by omega) a2
   have b2:=w lo' (by omega) a3
   have b3:x1.f*B8 (x1.p-x2.p-lo')=J9 x1 x2*B8 (0-lo')*x2.f:=by
     unfold U0 at ad
     rcases lb.2.2 with c|c
     . have c':=lb.2.1
       rw[c] at ad c'
       rw[U4u (show x1.p-x1.p<=0 by omega),Int.mul_one] at ad
       rw[<-ad,show 0-lo'=(x2.p-x1.p)+(x1.p-x2.p-lo') by omega,J1a (by omega) (by omega)]
       ac_rfl
     . have c':=lb.1
       rw[c] at ad c'
       rw[U4u (show x2.p-x2.p<=0 by omega),Int.mul_one] at ad
       rw[show x1.p-x2.p-lo'=(x1.p-x2.p)+(0-lo') by omega,J1a (by omega) (by omega), <-Int.mul_assoc, <-ad]
       ac_rfl
   rw[b3] at b2
   have b4:f*B8 (p-lo')=J9 x1 x2*B8 (0-lo'):=Int.eq_of_mul_eq_mul_right h2 b2
   rw[<-b4,B6g a1 ml.1,B6g a1 ml.2] at b1
   exact U2m b1
 unfold A3q at no ⊢
 rw[if_neg nn,if_pos pq] at no ⊢
 by_cases z:x1.f=0
 . rw[if_pos z]
   have:=B8k (s:=Z8 x1.s x2.s) (i:=x1.p-x2.p) ok 0
   exact⟨0,_,rfl,Int.le_refl _,G9 _,this.a,this.b,fun lo _ _=>by rw[z,Int.zero_mul,Int.zero_mul,Int.zero_mul]⟩
 . rw[if_neg z] at no ⊢
   have s1:Sz x1.f:=C4j h3 z o1.f1
   have s2:Sz x2.f:=C4j h1 h2 o2.f1
   obtain⟨f,p,e,f0,f1,pa,pb,w⟩:=D1w ok s1 s2 (pre pq z) no
   exact⟨f,p,e,Int.le_of_lt f0,f1,pa,pb,w⟩
end
noncomputable abbrev D4b:Stmt:=(top 82)
theorem V1g(H:Hp):V7 [] H=H:=funext fun b=>Y0 (by simp)
structure Made22(P:Program)(w:World)(K:Frag)(mg:Str ->Option Value)(base:Heap)(CC CB fI:Addr)(fdI:FuncData)(d60:Value):Prop where
 mc:MakeC P w K mg base CC CB fI fdI
 b2:Binds K fdI ["self","room","way","least","most"] [.none,d60]
 v2:Vals [.non,.int 60] [.none,d60]
structure N22(CN CC c b:Addr)(v:Cv)(q1 q2 n1 n2:Addr)(x1 x2:Nm)(us:List Str)(H:Hp)(a:Addr):Prop where
 ct:CtxV CC H c v a b us []
 e1:H q1=some (.tup x1.vs)
 e2:H q2=some (.tup x2.vs)
 m1:NumIs CN H n1 x1
 m2:NumIs CN H n2 x2
 c1:n1≠c
 c2:n2≠c
section
variable{CN CC c b:Addr}{v:Cv}{q1 q2 n1 n2:Addr}{x1 x2:Nm}{us:List Str}{H H':Hp}{a:Addr}
theorem N22.same(h:N22 CN CC c b v q1 q2 n1 n2 x1 x2 us H a)(s:Same H H'):N22 CN CC c b v q1 q2 n1 n2 x1 x2 us H' a:=⟨h.ct.same s,s _ _ h.e1,s _ _ h.e2,h.m1.same s,h.m2.same s,h.c1,h.c2⟩
theorem N22.tup(h:N22 CN CC c b v q1 q2 n1 n2 x1 x2 us H a)(s:Exc c H H'){q:Addr}{xs:List V}(e:H q=some (.tup xs)):H' q=some (.tup xs):=by
 obtain⟨dx,ec⟩:=h.ct.ins
 exact s _ _ e (U2b e ec (by intro z;cases z))
theorem N22.exc{us':List Str}{a':Addr}(h:N22 CN CC c b v q1 q2 n1 n2 x1 x2 us H a)(s:Exc c H H')(ct:CtxV CC H' c v a' b us' []):N22 CN CC c b v q1 q2 n1 n2 x1 x2 us' H' a':=by
 obtain⟨d1,z1⟩:=h.m1
 obtain⟨d2,z2⟩:=h.m2
 exact⟨ct,h.tup s h.e1,h.tup s h.e2,⟨d1,s _ _ z1 h.c1⟩,⟨d2,s _ _ z2 h.c2⟩,h.c1,h.c2⟩
end
theorem Z3u(us:List Str):(Y6 us).length<=7:=List.length_filter_le _ _
theorem U1s(us:List Str):Y6 (Y6 us)=Y6 us:=by
 unfold Y6
 refine List.filter_congr fun z hz=>?_
 rw[Bool.eq_iff_iff,List.contains_iff_mem,List.contains_iff_mem,List.mem_filter,List.contains_iff_mem]
 exact⟨fun h=>h.2,fun h=>⟨hz,h⟩⟩
theorem notF{b:Bool}(h:(!b)=false):b=true:=by
 cases b with
 |true=>rfl
 |false=>cases h
noncomputable def U5s:PyData:= .tuple [.str "none",.str "none"]
theorem rd2{K:Frag}{H:Hp}{d:Addr}(h:H d=some (.tup [.str "none",.str "none"])):RdD K H (.ref d) U5s:= .tup (SqT.of h) (.cons (.str _) (.cons (.str _) .nil))
theorem sh2:SeqAt.shaped U5s=true:=by decide+kernel
theorem eq2:PyData.eqv U5s U5s=true:=by decide+kernel
theorem okV:OkL ["void"]:=⟨by decide,fun z hz=>by rw[List.mem_singleton.mp hz];decide+kernel⟩
theorem D5c{xs:List Str}(h:("off":Str) ∉ Y6 xs):("off":Str) ∉ xs:=fun z=>h (by
 unfold Y6
 exact List.mem_filter.mpr ⟨by decide,List.contains_iff_mem.mpr z⟩)
theorem U1v{xs ys:List Str}(h:("off":Str) ∉ Y6 (xs++ys)):("off":Str) ∉ xs/\("off":Str) ∉ ys:=⟨fun z=>D5c h (List.mem_append_left _ z),fun z=>D5c h (List.mem_append_right _ z)⟩
theorem C2h{v:Cv}{s t b n L i:Int}:(Z6 v s t b n L i).1.k≠ .none:=by
 unfold Z6 C2x
 split
 . show(C4s v s).k≠ .none
   unfold C4s
   split
   . exact fun z=>by cases z
   . exact fun z=>by cases z
 . exact fun z=>by cases z
theorem Y8z{v:Cv}{x1 x2:Nm}{L:Int}(pq:V9 x1 x2)(hr:J9 x1 x2<B8 v.r):(woR v x1 x2 L).1.k≠ .none:=by
 have nn:¬(x1.k= .none\/x2.k= .none):=by rw[pq.1,pq.2.1];decide
 unfold woR
 rw[if_neg nn,if_pos pq,if_neg (by omega)]
 split
 . exact fun z=>by cases z
 . exact C2h
theorem Y7d{v:Cv}{x1 x2:Nm}{L:Int}(pq:V9 x1 x2)(hr:J9 x1 x2<B8 v.r):(reR v x1 x2 L).1.k≠ .none:=by
 have nn:¬(x1.k= .none\/x2.k= .none):=by rw[pq.1,pq.2.1];decide
 have ne1:¬x1.k= .end_:=by rw[pq.1];decide
 have ne2:¬x2.k= .end_:=by rw[pq.2.1];decide
 unfold reR
 rw[if_neg nn,if_neg ne1,if_neg (fun h=>pq.2.2 h.2),if_neg ne2,if_neg (by omega)]
 show(A3t v (A0j x1 x2) L).1.k≠ .none
 unfold A3t
 show(if(A0j x1 x2).f=0 then _ else _:Nm×List Str).1.k≠ .none
 split
 . exact fun z=>by cases z
 . exact C2h
theorem U9u{v:Cv}{x1 x2:Nm}{L L':Int}(pq:V9 x1 x2)(hr:¬J9 x1 x2<B8 v.r):woR v x1 x2 L=(A9j,(["void"]:List Str))/\reR v x1 x2 L'=(A9j,(["void"]:List Str)):=by
 have nn:¬(x1.k= .none\/x2.k= .none):=by rw[pq.1,pq.2.1];decide
 have ne1:¬x1.k= .end_:=by rw[pq.1];decide
 have ne2:¬x2.k= .end_:=by rw[pq.2.1];decide
 refine⟨?_,?_⟩
 . unfold woR
   rw[if_neg nn,if_pos pq,if_pos (by omega)]
 . unfold reR
   rw[if_neg nn,if_neg ne1,if_neg (fun h=>pq.2.2 h.2),if_neg ne2,if_pos (by omega)]
noncomputable def Y8a:List V:=[.str Wy.halfEven.name,.str Wy.down.name,.str Wy.up.name,.str Wy.floor.name,.str Wy.ceiling.name,.str Wy.halfUp.name,.str Wy.halfDown.name,.str Wy.fiveUp.name]
theorem Z4r{v:V}(h:v∈Y8a):∃y:Wy,v= .str y.name:=by
 unfold Y8a at h
 simp only[List.mem_cons,List.not_mem_nil,or_false] at h
 rcases h with h|h|h|h|h|h|h|h<;>exact⟨_,h⟩
noncomputable abbrev stL (sc l:Addr) (ce:Int) (x3 x4 x5 x6 x7 x8 x9 x10:Option V):L2.St:=[some (.ref sc),some (.ref l),some (.int ce),x3,x4,x5,x6,x7,x8,x9,x10]
section
variable{P:Program}{w:World}{K:Frag}{mg:Str ->Option Value}{base:Heap}
noncomputable def U1w (K:Frag) (P0:Addr):Sp:=fun vs H Q _=>∃a ns,vs=[.ref a]/\(ns:List Int).length<=63/\SqL K H a (ns.map V.int)/\H P0=some (.tbl #[])/\∀H',Q (.bl true) H'
theorem scLaw:FnScope ["_law_script","_law_ways","_law_cell","_law_context","_law_one","_law_other","_law_first","_law_second","_law_whole","_law_left","_law_quotient"] ["_law_script"] (A3 D4b):=scK
theorem Z4s{f P0 f1 f2 f3 f4 f5 f6 f7 f8 f9 f10 fI CC CN CB CB' CT:Addr}{fd fd1 fd2 fd3 fd4 fd5 fd6 fd7 fd8 fd9 fd10 fdI:FuncData}{d60:Value}(D:Def K mg "law" ["_law_script"] D4b f fd)
   (dE:Def K mg "_law_cell_at" ["_law_script","_law_k"] B6p f1 fd1) (dF:FnOk P w K mg base (CX1 P w) 1 f1 fd1 ["_law_script","_law_k"] (D4c K)) (dG:Def K mg "_law_refused" ["_law_context","_law_script"] A4u f2 fd2) (dH:FnOkG P w K mg base (CX1 P w) 11 f2 fd2 ["_law_context","_law_script"] (G6f CC P0 K))
   (dJ:Def K mg "_law_pair" ["_law_script"] B5a f3 fd3) (dL:FnOk P w K mg base (CX1 P w) 4 f3 fd3 ["_law_script"] (U0x K)) (dC:Def K mg "_law_made" ["_law_one"] B4y f4 fd4) (dD:FnOk P w K mg base (CX1 P w) 4 f4 fd4 ["_law_one"] (U1k CN))
   (dA:Def K mg "told" ["number"] C4n f5 fd5) (dB:FnOk P w K mg base (CX1 P w) 2 f5 fd5 ["number"] (V0s K CN CB')) (dM:Def K mg "whole_over" ["context","one","other"] Y4 f6 fd6) (dN:FnOk P w K mg base (CX1 P w) 7 f6 fd6 ["context","one","other"] (C2b CN CC CT))
   (dP:Def K mg "rest_of" ["context","one","other"] A3b f7 fd7) (dQ:FnOk P w K mg base (CX1 P w) 8 f7 fd7 ["context","one","other"] (V0n CN CC CT)) (dS:Def K mg "over" ["context","one","other"] B6w f8 fd8) (dU:FnOk P w K mg base (CX1 P w) 7 f8 fd8 ["context","one","other"] (V2n CN CC CT))
   (dW:Def K mg "_law_fits" ["_law_one","_law_other","_law_whole","_law_left"] A3r f9 fd9) (dX:FnOk P w K mg base (CX1 P w) 3 f9 fd9 ["_law_one","_law_other","_law_whole","_law_left"] D2b) (dY:Def K mg "_law_is_same" ["_law_whole","_law_quotient"] A4e f10 fd10) (dZ:FnOk P w K mg base (CX1 P w) 3 f10 fd10 ["_law_whole","_law_quotient"] D2g)
   (M:Made22 P w K mg base CC CB fI fdI d60) (C:CtxC K mg CC) (MF:Has P w K mg base CC "flags" 1 ["self"] (A6p CC)) (O:Own mg):FnOkG P w K mg base (CX1 P w) 12 f fd ["_law_script"] (U1w K P0):=by
 refine D.F.okEG scLaw (fun vs H Q E h=>?_) (fun X cdv A outer s H vs Q E hX HG hr hx h=>?_)
 . obtain⟨a,ns,rfl,_⟩:=h
   rfl
 . subst hX
   obtain⟨sc,ns,rfl,n63,hS,hP,kk⟩:=h
   obtain⟨ff,fdf,mf,gf,bf⟩:=MF
   have HU:=Nat.lt_of_le_of_lt (Nat.add_le_add_left (by decide:1<=64) _) hr.units
   have CZE:∀N env,CellsZ [] [] N env:=fun _ _=>⟨fun i x c h=>by cases h⟩
   refine⟨_,(A6 (D6 (D7 (i:=1) scLaw.nd rfl (Or.inl rfl) (U1 (A1 C9 (A1 C9 (A1 C9 (A1 C9 (A1 C9 (A1 C9 (A1 C9 (A1 C9 A5)))))))))))
     (A6 (D6 (D7 (i:=2) scLaw.nd rfl (Or.inl rfl) (C6 dE dF hr hx (A1 (pv 0) (A1 A7 A5)))))
     (A6 (D6 (D7 (i:=3) scLaw.nd rfl (Or.inl rfl) (A5v M.mc.m M.mc.g hr C.g M.b2 M.v2 hx (A1 (C7 Y3 A7 (C7 U4 (pv 2) A7)) (A1 (U2 A6y (pv 1) (C7 U4 (C7 U6 (pv 2) A7) A7) (fun _ _=>rfl)) A5)))))
     (A6 (D6 (G0 (A1h (V4 (D3w dG dH HG hr hx (CZE _ _) (A1 (pv 3) (A1 (pv 0) A5))))) (A8 (B7 A2y)) D3))
     (A6 (D6 (V1b (C6 dJ dL hr hx (A1 (pv 0) A5)) (V1x rfl (A5u (A0b (i:=4) scLaw.nd rfl (Or.inl rfl)) (A5u (A0b (i:=5) scLaw.nd rfl (Or.inl rfl)) D3u)))))
     (A6 (D6 (D7 (i:=6) scLaw.nd rfl (Or.inl rfl) (C6 dC dD hr hx (A1 (pv 4) A5))))
     (A6 (D6 (D7 (i:=7) scLaw.nd rfl (Or.inl rfl) (C6 dC dD hr hx (A1 (pv 5) A5))))
     (A6 (D6 (D7 (i:=8) scLaw.nd rfl (Or.inl rfl) (C6 dA dB hr hx (A1 (C6 dM dN hr hx (A1 (pv 3) (A1 (pv 6) (A1 (pv 7) A5)))) A5))))
     (A6 (D6 (D7 (i:=9) scLaw.nd rfl (Or.inl rfl) (C6 dA dB hr hx (A1 (C6 dP dQ hr hx (A1 (pv 3) (A1 (pv 6) (A1 (pv 7) A5)))) A5))))
     (A6 (D6 (G0 (PW.pt (B4k (D0 B4n (U2 G8 (pv 4) A7 (fun _ _=>rfl)) C9 (C8 _)) (B4k (D0 B4n (U2 G8 (pv 5) A7 (fun _ _=>rfl)) C9 (C8 _)) (A6s (D0 G4 (U2 G8 (pv 5) A7 (fun _ _=>rfl)) A7 (C8 _)))))) (A8 (B7 (A6r (J0 (B7q hr.units) (C6 dA dB hr hx (A1 (pv 6) A5)) (pv 4) (C8 _)) (A5h (J0 (B7q hr.units) (C6 dA dB hr hx (A1 (pv 7) A5)) (pv 5) (C8 _)))))) D3))
     (A6 (D6 (G0 (PW.pt (B4k (D0 G4 (U2 G8 (pv 8) A7 (fun _ _=>rfl)) C9 (C8 _)) (A6s (D0 G4 (U2 G8 (pv 9) A7 (fun _ _=>rfl)) C9 (C8 _))))) (A8 (B7 (A6r (J0 (B7q hr.units) (V3 (A1 (U2 G8 (pv 8) A7 (fun _ _=>rfl)) (A1 (U2 G8 (pv 9) A7 (fun _ _=>rfl)) A5))) (V3 (A1 C9 (A1 C9 A5))) (C8 _)) (A5h (J0 (B7q hr.units) (A1j (pv 3) C.cl mf gf hr bf .nil hx) (U1 (A1 C9 A5)) (C8 _)))))) D3))
     (A6 (D6 (G0 (D0 A5x C9 (A1j (pv 3) C.cl mf gf hr bf .nil hx) (by rfl)) (A8 (B7 A2y)) D3))
     (A6 (D6 (G0 (A1h (V4 (C6 dW dX hr hx (A1 (pv 4) (A1 (pv 5) (A1 (pv 8) (A1 (pv 9) A5))))))) (A8 (B7 A2y)) D3))
     (A6 (D6 (D7 (i:=10) scLaw.nd rfl (Or.inl rfl) (C6 dA dB hr hx (A1 (C6 dS dU hr hx (A1 (pv 3) (A1 (pv 6) (A1 (pv 7) A5)))) A5))))
     (A8 (B7 (V2t (J0 G5r (U2 G8 (pv 9) A7 (fun _ _=>rfl)) A7 (C8 _)) (V2t (J0 A5x C9 (A1j (pv 3) C.cl mf gf hr bf .nil hx) (by rfl)) (A5h (C6 dY dZ hr hx (A1 (pv 8) (A1 (pv 10) A5)))))))))))))))))))))),?_⟩
   have z8:8<=sizeLine:=D8 (by decide)
   refine⟨fun σ' H'=>∃l,Same H H'/\H' l=some (.lst Y8a)/\σ'=[some (.ref sc),some (.ref l),none,none,none,none,none,none,none,none,none],⟨z8,fun l nl=>⟨l,Same.upd nl,B5,rfl⟩⟩,?_⟩
   rintro σ' H1 ⟨l,s1,el,rfl⟩
   refine⟨fun σ' H'=>∃ce:Int,H'=H1/\σ'=stL sc l ce none none none none none none none none,⟨_,rfl,sc,ns,0,rfl,s1.seq hS,by decide,fun ce=>⟨ce,rfl,rfl⟩⟩,?_⟩
   rintro σ' H2 ⟨ce,rfl,rfl⟩
   have tb:∀p,TabOk P0 p B8g H:=fun p=>⟨_,hP,trivial,.inl rfl⟩
   refine⟨fun σ' H'=>∃c v a b,J22 CC P0 K sc ns c b v a H'/\v.Ok/\σ'=stL sc l ce (some (.ref c)) none none none none none none none,?_,?_⟩
   . have e0:=Int.emod_nonneg ce (show(13:Int)≠0 by decide)
     have e1:=Int.emod_lt_of_pos ce (show(0:Int)<13 by decide)
     obtain⟨o,ho,ix⟩:=ixv (xs:=Y8a) (i:=ce/13 % 8) (Int.emod_nonneg _ (by decide)) (by show ce/13 % 8<8;exact Int.emod_lt_of_pos _ (by decide))
     obtain⟨y,rfl⟩:=Z4r ho
     refine⟨_,rfl,_,_,rfl,rfl,(by decide:(0:Int)<13),_,_,rfl,rfl,_,rfl,_,rfl,_,_,rfl,rfl,dv (n:=13) (by decide) (by decide+kernel),_,_,rfl,rfl,(by decide:(0:Int)<8),l,_,_,_,rfl,rfl,SqL.of el,ix,fun x dx n1 n2 ne=>A0az n1 n2 ne rfl (by omega) (by omega) (y:=y) rfl (.inl ⟨rfl,rfl⟩) rfl (by decide) (by decide) fun a b H3 s3 hc=>⟨rfl,x,⟨12+ce % 13,y, -60,60⟩,a,b,?_,?_,rfl⟩⟩
     . have ss:=s1.trans s3
       exact⟨hc,ss.seq hS,(tb _).same ss,(tb _).same ss,(tb _).same ss⟩
     . exact⟨by show 1<=12+ce % 13;omega,by show 12+ce % 13<=24;omega,by show(-60:Int)<= -60;decide,by show(-60:Int)<=0;decide,by show(0:Int)<=60;decide,by show(60:Int)<=60;decide⟩
   clear el s1
   rintro σ' H3 ⟨c,v,a,b,h3,ok,rfl⟩
   refine⟨fun σ' H'=>J22 CC P0 K sc ns c b v a H'/\σ'=stL sc l ce (some (.ref c)) none none none none none none none,?_,?_⟩
   . refine⟨_,rfl,_,rfl,?_⟩
     intro hn H4 ho A4 kn
     obtain rfl:H4=H3:=funext fun b=>ho b (by simp)
     refine⟨sc,ns,c,b,v,a,rfl,h3,fun H5 h5 _=>?_⟩
     have h6:J22 CC P0 K sc ns c b v a (V7 [] H5):=by rw[V1g];exact h5
     exact⟨_,rfl,Y5 ⟨h6,rfl⟩⟩
   clear h3
   rintro σ' H4 ⟨h4,rfl⟩
   refine⟨fun σ' H'=>∃q1 q2 x1 x2,Same H4 H'/\H' q1=some (.tup (Nm.vs x1))/\H' q2=some (.tup (Nm.vs x2))/\x1.Wf/\x2.Wf/\σ'=stL sc l ce (some (.ref c)) (some (.ref q1)) (some (.ref q2)) none none none none none,?_,?_⟩
   . exact⟨_,rfl,sc,ns,rfl,h4.scr,fun p q1 q2 x1 x2 H' s' ep e1 e2 w1 w2=>⟨p,_,rfl,SqT.of ep,rfl,_,_,rfl,_,_,rfl,rfl,q1,q2,x1,x2,s',e1,e2,w1,w2,rfl⟩⟩
   rintro σ' H5 ⟨q1,q2,x1,x2,s5,e1,e2,w1,w2,rfl⟩
   refine⟨fun σ' H'=>∃n1,Same H5 H'/\NumIs CN H' n1 x1/\H5 n1=none/\σ'=stL sc l ce (some (.ref c)) (some (.ref q1)) (some (.ref q2)) (some (.ref n1)) none none none none,⟨_,rfl,q1,x1,rfl,e1,w1,fun n H' nn s' num=>⟨n,s',num,nn,rfl⟩⟩,?_⟩
   rintro σ' H6 ⟨n1,s6,m1,nn1,rfl⟩
   refine⟨fun σ' H'=>∃n2,N22 CN CC c b v q1 q2 n1 n2 x1 x2 [] H' a/\σ'=stL sc l ce (some (.ref c)) (some (.ref q1)) (some (.ref q2)) (some (.ref n1)) (some (.ref n2)) none none none,?_,?_⟩
   . have ct6:=(h4.ct.same s5).same s6
     refine⟨_,rfl,q2,x2,rfl,s6 _ _ e2,w2,fun n H' nn s' num=>⟨n,⟨ct6.same s',s' _ _ (s6 _ _ e1),s' _ _ (s6 _ _ e2),m1.same s',num,fun z=>?_,fun z=>?_⟩,rfl⟩⟩
     . obtain⟨dx,ec⟩:=(h4.ct.same s5).ins
       rw[z,ec] at nn1
       cases nn1
     . obtain⟨dx,ec⟩:=ct6.ins
       rw[z,ec] at nn
       cases nn
   clear e1 e2 m1 nn1 s6 s5 h4
   rintro σ' H7 ⟨n2,h7,rfl⟩
   have o1:=w1.ok
   have o2:=w2.ok
   obtain⟨Lw,pw⟩:=Y8r x1 x2 o1 o2
   obtain⟨Lr,pr⟩:=Z4c x1 x2 o1 o2
   obtain⟨Lo,po⟩:=Y8t x1 x2 o1 o2
   have hn:∀zs:List Str,hit [] zs=none:=fun zs=>rfl
   refine⟨fun σ' H'=>∃tw a,N22 CN CC c b v q1 q2 n1 n2 x1 x2 (Y6 (woR v x1 x2 Lw).2) H' a/\H' tw=some (.tup (woR v x1 x2 Lw).1.vs)/\σ'=stL sc l ce (some (.ref c)) (some (.ref q1)) (some (.ref q2)) (some (.ref n1)) (some (.ref n2)) (some (.ref tw)) none none,?_,?_⟩
   . refine⟨_,rfl,_,rfl,_,rfl,c,v,a,b,[],[],n1,n2,x1,x2,Lw,rfl,h7.ct,ok,by decide,rfl,⟨h7.m1,h7.m2⟩,o1,o2,pw,⟨fun _ m a' H' x' ct' num=>?_,fun z hz=>by rw[hn] at hz;cases hz⟩⟩
     exact⟨_,rfl,.inl ⟨m,_,_,_,_,rfl,num,fun t nt=>⟨t,a',(h7.exc x' ct').same (Same.upd nt),B5,rfl⟩⟩⟩
   clear h7
   rintro σ' H8 ⟨tw,a8,h8,etw,rfl⟩
   generalize hW:woR v x1 x2 Lw=W at*
   refine⟨fun σ' H'=>∃tl a,N22 CN CC c b v q1 q2 n1 n2 x1 x2 (Y6 (Y6 W.2++(reR v x1 x2 Lr).2)) H' a/\H' tw=some (.tup W.1.vs)/\H' tl=some (.tup (reR v x1 x2 Lr).1.vs)/\σ'=stL sc l ce (some (.ref c)) (some (.ref q1)) (some (.ref q2)) (some (.ref n1)) (some (.ref n2)) (some (.ref tw)) (some (.ref tl)) none,?_,?_⟩
   . refine⟨_,rfl,_,rfl,_,rfl,c,v,a8,b,Y6 W.2,[],n1,n2,x1,x2,Lr,rfl,h8.ct,ok,Nat.le_trans (Z3u W.2) (by decide),U1s W.2,⟨h8.m1,h8.m2⟩,o1,o2,pr,⟨fun _ m a' H' x' ct' num=>?_,fun z hz=>by rw[hn] at hz;cases hz⟩⟩
     exact⟨_,rfl,.inl ⟨m,_,_,_,_,rfl,num,fun t nt=>⟨t,a',(h8.exc x' ct').same (Same.upd nt),Same.upd nt _ _ (h8.tup x' etw),B5,rfl⟩⟩⟩
   clear h8 etw
   rintro σ' H9 ⟨tl,a9,h9,etw,etl,rfl⟩
   generalize hR:reR v x1 x2 Lr=R at*
   refine⟨fun σ' H'=>V9 x1 x2/\H'=H9/\σ'=stL sc l ce (some (.ref c)) (some (.ref q1)) (some (.ref q2)) (some (.ref n1)) (some (.ref n2)) (some (.ref tw)) (some (.ref tl)) none,?_,?_⟩
   . refine⟨_,rfl,q1,_,_,_,rfl,rfl,SqT.of h9.e1,G2 (j:=0) rfl,rfl,_,rfl,D4a (fun e=>?_) fun e=>?_⟩
     . refine Z1 ?_
       refine⟨_,rfl,_,rfl,.inl ⟨n1,_,_,_,_,rfl,h9.m1,fun t1 nt1=>⟨_,rfl,?_⟩⟩⟩
       have u1:=Same.upd (o:= .tup x1.vs) nt1
       have h10:=h9.same u1
       refine⟨A9k x1.k.str x1.s x1.f x1.p,A9k x1.k.str x1.s x1.f x1.p,rdD B5,rdD h10.e1,shD _ _ _ (okK _),shD _ _ _ (okK _),?_⟩
       rw[if_neg Bool.false_ne_true,eqD]
       refine⟨_,rfl,Z1 ⟨_,rfl,_,rfl,.inl ⟨n2,_,_,_,_,rfl,h10.m2,fun t2 nt2=>⟨_,rfl,?_⟩⟩⟩⟩
       have u2:=Same.upd (o:= .tup x2.vs) nt2
       have h11:=h10.same u2
       refine⟨A9k x2.k.str x2.s x2.f x2.p,A9k x2.k.str x2.s x2.f x2.p,rdD B5,rdD h11.e2,shD _ _ _ (okK _),shD _ _ _ (okK _),?_⟩
       rw[if_neg Bool.false_ne_true,eqD]
       exact kk _
     . refine⟨_,rfl,q2,_,_,_,rfl,rfl,SqT.of h9.e2,G2 (j:=0) rfl,rfl,_,rfl,D4a (fun e'=>?_) fun e'=>?_⟩
       . refine Z1 ?_
         refine⟨_,rfl,_,rfl,.inl ⟨n1,_,_,_,_,rfl,h9.m1,fun t1 nt1=>⟨_,rfl,?_⟩⟩⟩
         have u1:=Same.upd (o:= .tup x1.vs) nt1
         have h10:=h9.same u1
         refine⟨A9k x1.k.str x1.s x1.f x1.p,A9k x1.k.str x1.s x1.f x1.p,rdD B5,rdD h10.e1,shD _ _ _ (okK _),shD _ _ _ (okK _),?_⟩
         rw[if_neg Bool.false_ne_true,eqD]
         refine⟨_,rfl,Z1 ⟨_,rfl,_,rfl,.inl ⟨n2,_,_,_,_,rfl,h10.m2,fun t2 nt2=>⟨_,rfl,?_⟩⟩⟩⟩
         have u2:=Same.upd (o:= .tup x2.vs) nt2
         have h11:=h10.same u2
         refine⟨A9k x2.k.str x2.s x2.f x2.p,A9k x2.k.str x2.s x2.f x2.p,rdD B5,rdD h11.e2,shD _ _ _ (okK _),shD _ _ _ (okK _),?_⟩
         rw[if_neg Bool.false_ne_true,eqD]
         exact kk _
       . refine⟨_,rfl,q2,_,_,_,rfl,rfl,SqT.of h9.e2,G2 (j:=2) rfl,rfl,_,rfl,D4a (fun e2=>?_) fun e2=>?_⟩
         . refine⟨_,rfl,_,rfl,.inl ⟨n1,_,_,_,_,rfl,h9.m1,fun t1 nt1=>⟨_,rfl,?_⟩⟩⟩
           have u1:=Same.upd (o:= .tup x1.vs) nt1
           have h10:=h9.same u1
           refine⟨A9k x1.k.str x1.s x1.f x1.p,A9k x1.k.str x1.s x1.f x1.p,rdD B5,rdD h10.e1,shD _ _ _ (okK _),shD _ _ _ (okK _),?_⟩
           rw[if_neg Bool.false_ne_true,eqD]
           refine⟨_,rfl,Z1 ⟨_,rfl,_,rfl,.inl ⟨n2,_,_,_,_,rfl,h10.m2,fun t2 nt2=>⟨_,rfl,?_⟩⟩⟩⟩
           have u2:=Same.upd (o:= .tup x2.vs) nt2
           have h11:=h10.same u2
           refine⟨A9k x2.k.str x2.s x2.f x2.p,A9k x2.k.str x2.s x2.f x2.p,rdD B5,rdD h11.e2,shD _ _ _ (okK _),shD _ _ _ (okK _),?_⟩
           rw[if_neg Bool.false_ne_true,eqD]
           exact kk _
         . refine⟨⟨?_,?_,?_⟩,rfl,rfl⟩
           . exact eqS (b:= .plain) (of_decide_eq_true (notF e))
           . exact eqS (b:= .plain) (of_decide_eq_true (notF e'))
           . exact fun h=>of_decide_eq_false e2 (congrArg V.int h)
   rintro σ' H10 ⟨pq,rfl,rfl⟩
   have z2:2<=sizeLine:=D8 (by decide)
   have z1:1<=sizeLine:=D8 (by decide)
   refine⟨fun σ' H'=>J9 x1 x2<B8 v.r/\H'=H10/\σ'=stL sc l ce (some (.ref c)) (some (.ref q1)) (some (.ref q2)) (some (.ref n1)) (some (.ref n2)) (some (.ref tw)) (some (.ref tl)) none,?_,?_⟩
   . by_cases hb:J9 x1 x2<B8 v.r
     . have kw:=Y8z (L:=Lw) pq hb
       have kr:=Y7d (L:=Lr) pq hb
       rw[hW] at kw
       rw[hR] at kr
       refine⟨_,rfl,tw,_,_,_,rfl,rfl,SqT.of etw,G2 (j:=0) rfl,rfl,_,rfl,C3x (fun q=>kw (eqS (b:= .none) q)) ?_⟩
       refine⟨_,rfl,tl,_,_,_,rfl,rfl,SqT.of etl,G2 (j:=0) rfl,rfl,_,rfl,C3x (fun q=>kr (eqS (b:= .none) q)) ?_⟩
       exact⟨hb,rfl,rfl⟩
     . obtain⟨b1,b2⟩:=U9u (L:=Lw) (L':=Lr) pq hb
       obtain rfl:=hW.symm.trans b1
       obtain rfl:=hR.symm.trans b2
       refine⟨_,rfl,tw,_,_,_,rfl,rfl,SqT.of etw,G2 (j:=0) rfl,rfl,_,rfl,C4e rfl ?_⟩
       refine Z1 ?_
       refine⟨_,rfl,tw,_,_,_,rfl,rfl,SqT.of etw,G2 (j:=0) rfl,_,rfl,tl,_,_,_,rfl,rfl,SqT.of etl,G2 (j:=0) rfl,z2,fun p1 np1=>⟨z2,fun p2 np2=>?_⟩⟩
       have u1:=Same.upd (o:= .tup [.str "none",.str "none"]) np1
       have u2:=Same.upd (o:= .tup [.str "none",.str "none"]) np2
       have h11:=h9.same (u1.trans u2)
       refine⟨U5s,U5s,rd2 (u2 _ _ B5),rd2 B5,sh2,sh2,?_⟩
       rw[if_neg Bool.false_ne_true,eq2]
       obtain⟨dc,ec⟩:=h11.ct.ins
       refine⟨_,rfl,Z1 ⟨_,rfl,c,dc,_,rfl,ec,A3a _ _ _ _ _ _,c,v.r,v.y,v.l,v.m,a9,b,_,_,rfl,h11.ct,fun l1 nl1=>⟨z1,fun l2 nl2=>?_⟩⟩⟩
       have u3:=Same.upd (o:= .lst [.str "void"]) nl2
       refine⟨rdS ["void"],rdS ["void"],D3p (u3 _ _ B5),D3p B5,shS okV,shS okV,?_⟩
       rw[if_neg Bool.false_ne_true,eqSs]
       exact kk _
   rintro σ' H11 ⟨hb,rfl,rfl⟩
   refine⟨fun σ' H'=>Same H11 H'/\("off":Str) ∉ W.2/\("off":Str) ∉ R.2/\σ'=stL sc l ce (some (.ref c)) (some (.ref q1)) (some (.ref q2)) (some (.ref n1)) (some (.ref n2)) (some (.ref tw)) (some (.ref tl)) none,?_,?_⟩
   . obtain⟨dc,ec⟩:=h9.ct.ins
     refine⟨_,rfl,c,dc,_,rfl,ec,A3a _ _ _ _ _ _,c,v.r,v.y,v.l,v.m,a9,b,_,_,rfl,h9.ct,fun l1 nl1=>⟨l1,_,rfl,.inl (SqL.of B5),rfl,A0m _,_,rfl,D4a (fun _=>kk _) fun e=>?_⟩⟩
     rw[A3c] at e
     have nf:("off":Str) ∉ Y6 (Y6 W.2++R.2):=fun z=>by
       rw[List.contains_iff_mem.mpr z] at e
       cases e
     obtain⟨g1,g2⟩:=U1v nf
     exact⟨Same.upd nl1,D5c g1,g2,rfl⟩
   rintro σ' H12 ⟨s12,g1,g2,rfl⟩
   have h12:=h9.same s12
   have etw:=s12 _ _ etw
   have etl:=s12 _ _ etl
   have r2:=ok.r2
   have hb':J9 x1 x2<B8 24:=Int.lt_of_lt_of_le hb (Z7 r2)
   have ew:=Z9f ok o1 o2 pq pw hb (by rw[hW];exact g1)
   have er:=A0bm ok o1 o2 pq pr hb (by rw[hR];exact g2)
   rw[hW] at ew
   rw[hR] at er
   have us:=B8d x1.s x2.s
   have bn:∀{x:Nm},x.Ok ->Bn x:=fun o=>⟨o.s0,o.s1,o.f0,Int.lt_of_le_of_lt o.f1 (by decide+kernel),o.p0,o.p1⟩
   have bw:=ew.bn us.1 us.2
   have br:=er.bn o1.s0 o1.s1
   refine⟨fun σ' H'=>H'=H12/\σ'=stL sc l ce (some (.ref c)) (some (.ref q1)) (some (.ref q2)) (some (.ref n1)) (some (.ref n2)) (some (.ref tw)) (some (.ref tl)) none,⟨_,rfl,_,rfl,_,rfl,_,rfl,q1,q2,tw,tl,x1,x2,W.1,R.1,_,rfl,h12.e1,h12.e2,etw,etl,bn o1,bn o2,bw,br,Z4w o1 o2 pq ew er hb',_,rfl,Y5 ⟨rfl,rfl⟩⟩,?_⟩
   rintro σ' H13 ⟨rfl,rfl⟩
   refine⟨fun σ' H'=>∃tq a,N22 CN CC c b v q1 q2 n1 n2 x1 x2 (Y6 (Y6 (Y6 W.2++R.2)++(A3q v x1 x2 Lo).2)) H' a/\H' tw=some (.tup W.1.vs)/\H' tl=some (.tup R.1.vs)/\H' tq=some (.tup (A3q v x1 x2 Lo).1.vs)/\σ'=stL sc l ce (some (.ref c)) (some (.ref q1)) (some (.ref q2)) (some (.ref n1)) (some (.ref n2)) (some (.ref tw)) (some (.ref tl)) (some (.ref tq)),?_,?_⟩
   . refine⟨_,rfl,_,rfl,_,rfl,c,v,a9,b,Y6 (Y6 W.2++R.2),[],n1,n2,x1,x2,Lo,rfl,h12.ct,ok,Nat.le_trans (Z3u _) (by decide),U1s _,⟨h12.m1,h12.m2⟩,o1,o2,po,⟨fun _ m a' H' x' ct' num=>?_,fun z hz=>by rw[hn] at hz;cases hz⟩⟩
     exact⟨_,rfl,.inl ⟨m,_,_,_,_,rfl,num,fun t nt=>⟨t,a',(h12.exc x' ct').same (Same.upd nt),Same.upd nt _ _ (h12.tup x' etw),Same.upd nt _ _ (h12.tup x' etl),B5,rfl⟩⟩⟩
   rintro σ' H14 ⟨tq,a14,h14,etw',etl',etq,rfl⟩
   have lz:¬(0<R.1.f) ->U0 x1 (U3 x1 x2) % U0 x2 (U3 x1 x2)=0:=fun z=>by
     have f0:=er.f0
     have e0:R.1.f=0:=by omega
     obtain⟨lo,a1,a2⟩:∃lo,lo<=R.1.p/\lo<=U3 x1 x2:=⟨Y7 R.1.p (U3 x1 x2),by unfold Y7;split<;>omega,by unfold Y7;split<;>omega⟩
     have:=er.w lo a1 a2
     rw[e0,Int.zero_mul] at this
     rcases Int.mul_eq_zero.mp this.symm with h|h
     . exact h
     . exact absurd h (Int.ne_of_gt (G9 _))
   refine⟨_,rfl,tl,_,_,_,rfl,rfl,SqT.of etl',G2 (j:=2) rfl,_,_,rfl,rfl,_,rfl,D4a (fun _=>kk _) fun e=>?_⟩
   have hz:=lz (of_decide_eq_false e)
   obtain⟨dc,ec⟩:=h14.ct.ins
   refine⟨_,rfl,c,dc,_,rfl,ec,A3a _ _ _ _ _ _,c,v.r,v.y,v.l,v.m,a14,b,_,_,rfl,h14.ct,fun l1 nl1=>⟨l1,_,rfl,.inl (SqL.of B5),rfl,A0m _,_,rfl,D4a (fun _=>kk _) fun e=>?_⟩⟩
   rw[A3c] at e
   have nf:("off":Str) ∉ Y6 (Y6 (Y6 W.2++R.2)++(A3q v x1 x2 Lo).2):=fun z=>by
     rw[List.contains_iff_mem.mpr z] at e
     cases e
   obtain⟨_,g3⟩:=U1v nf
   obtain⟨bq,kq,eqw⟩:=Y9c ok o1 o2 pq po g3 ew hz
   have u1:=Same.upd (o:= .lst ((Y6 (Y6 (Y6 W.2++R.2)++(A3q v x1 x2 Lo).2)).map V.str)) nl1
   have p1:=bw.p0
   have p2:=bw.p1
   have p3:=bq.p0
   have p4:=bq.p1
   exact⟨_,rfl,_,rfl,tw,tq,W.1,(A3q v x1 x2 Lo).1,rfl,u1 _ _ etw',u1 _ _ etq,⟨bw.s0,bw.s1,bw.f0,bw.f1⟩,⟨bq.s0,bq.s1,bq.f0,bq.f1⟩,by omega,by omega,kq,eqw,kk _⟩
end
end TR
namespace TR
open PySem L2 PySem.W PyProof.Rows
theorem all_mk{cc P0:Addr}{l:OpenLaw}{w:World}{K:Frag}{h:Heap}{mg:Str ->Option Value}{fa CW W0 A6k W1 A6g W2 A6j W3 A6c W4 A6d W5 A6m W6 A6e W7 A6f CN D2z A0x A2s A0z A2m A1b A2k A1a A2h A1c A2t A0y A2q A0u A2p A0v A2n CC C7q U3n A4j A2r B2x A2g CQ D3m Y3e A1n B4c CE C1 C2 C3 C4 C5 CR fX aS B1b D9j C7s G2e G0q V5k B8s J7w J5x D7t B5q D9k C6c C0t V6x C1v B9v C5p C0d B1s C7g C6e G0w D8v C1a B9d C4x J7x G0d C0j J9j B1d C7h U0e J7z B2a D7q C0n G2z G2w J4j D5p J9n J6f J7j D9m D9w D9s C7a D8u D8x J5m V7x:Addr}(X:K.In h)(G:h.Ns mainGlobals mg)(hfa:mg "law"=some (.ref fa))
   {D6d G2j:Option Addr} {D6q:Array (Option Value)} {G0y D7z G3q G4e B7f G4t:Value}
   (B1q:nsIn K mainGlobals "product_of"=some (some (.ref B1b))) (B0n:K.lookup B1b=some ⟨G0y,D6d,.func (fnOf "product_of" "product_of" (C0 A0d) (B9 A0d) (A3 A0d) .none D7z G3q G4e G2j B7f G4t),D6q⟩) (B0k:codeIn K B7f "product_of"=true) (B0w:keepIn K (.ref B1b)=true)
   {Y2w Y3s:Option Addr} {Y2y:Array (Option Value)} {Y1r Y4f Y0r V6m G7q V4d:Value}
   (G0h:nsIn K mainGlobals "ten_to"=some (some (.ref D9j))) (G0v:K.lookup D9j=some ⟨Y1r,Y2w,.func (fnOf "ten_to" "ten_to" (C0 Z9) (B9 Z9) (A3 Z9) .none Y4f Y0r V6m Y3s G7q V4d),Y2y⟩) (G5c:codeIn K G7q "ten_to"=true) (G3f:keepIn K (.ref D9j)=true)
   {U6h U7a:Option Addr} {U8u:Array (Option Value)} {U6d U6f U6e U8d D3g U9d:Value}
   (C5z:nsIn K mainGlobals "part_of"=some (some (.ref C7s))) (C5t:K.lookup C7s=some ⟨U6d,U6h,.func (fnOf "part_of" "part_of" (C0 A6w) (B9 A6w) (A3 A6w) .none U6f U6e U8d U7a D3g U9d),U8u⟩) (C5b:codeIn K D3g "part_of"=true) (C7e:keepIn K (.ref C7s)=true)
   {Y3h V9h:Option Addr} {V4m:Array (Option Value)} {Y1y V6n Y5d Y1u G8a V7k:Value}
   (D7f:nsIn K mainGlobals "whole_lead"=some (some (.ref G2e))) (G1k:K.lookup G2e=some ⟨Y1y,Y3h,.func (fnOf "whole_lead" "whole_lead" (C0 A9q) (B9 A9q) (A3 A9q) .none V6n Y5d Y1u V9h G8a V7k),V4m⟩) (D7u:codeIn K G8a "whole_lead"=true) (G3r:keepIn K (.ref G2e)=true)
   {Y4y V8e:Option Addr} {V6q:Array (Option Value)} {Y1p V7c V8c Y5b G7m V3v:Value}
   (G1m:nsIn K mainGlobals "plain"=some (some (.ref G0q))) (D6c:K.lookup G0q=some ⟨Y1p,Y4y,.func (fnOf "plain" "plain" (C0 B0c) (B9 B0c) (A3 B0c) .none V7c V8c Y5b V8e G7m V3v),V6q⟩) (G2n:codeIn K G7m "plain"=true) (D6w:keepIn K (.ref G0q)=true)
   {Z6t Z6q:Option Addr} {Z7q:Array (Option Value)} {Z7m Z8b Z7s Z7t V4p Z6s:Value}
   (V7g:nsIn K mainGlobals "end"=some (some (.ref V5k))) (Y2z:K.lookup V5k=some ⟨Z7m,Z6t,.func (fnOf "end" "end" (C0 C8a) (B9 C8a) (A3 C8a) .none Z8b Z7s Z7t Z6q V4p Z6s),Z7q⟩) (V6v:codeIn K V4p "end"=true) (Y2m:keepIn K (.ref V5k)=true)
   {J2w U0r:Option Addr} {J2q:Array (Option Value)} {J2r J8u U0k J9v C6p J7v:Value}
   (C0p:nsIn K mainGlobals "nothing"=some (some (.ref B8s))) (B9h:K.lookup B8s=some ⟨J2r,J2w,.func (fnOf "nothing" "nothing" (C0 V8) (B9 V8) (A3 V8) .none J8u U0k J9v U0r C6p J7v),J2q⟩) (C0w:codeIn K C6p "nothing"=true) (C0m:keepIn K (.ref B8s)=true)
   {Z1v Z2n:Option Addr} {Z3k:Array (Option Value)} {Z0t Z3c Z2k Z1p U2y Z1k:Value}
   (U0p:nsIn K mainGlobals "told"=some (some (.ref J7w))) (J3d:K.lookup J7w=some ⟨Z0t,Z1v,.func (fnOf "told" "told" (C0 C4n) (B9 C4n) (A3 C4n) .none Z3c Z2k Z1p Z2n U2y Z1k),Z3k⟩) (J1x:codeIn K U2y "told"=true) (J1z:keepIn K (.ref J7w)=true)
   {Z0c Z0s:Option Addr} {Z1j:Array (Option Value)} {Y9n Z3m Y9s Z2h U3e Z2j:Value}
   (J2k:nsIn K mainGlobals "lead_of"=some (some (.ref J5x))) (J4x:K.lookup J5x=some ⟨Y9n,Z0c,.func (fnOf "lead_of" "lead_of" (C0 C3g) (B9 C3g) (A3 C3g) .none Z3m Y9s Z2h Z0s U3e Z2j),Z1j⟩) (J8t:codeIn K U3e "lead_of"=true) (J6t:keepIn K (.ref J5x)=true)
   {Y5u V5z:Option Addr} {Y0a:Array (Option Value)} {Y3k Y3d Y2h V3m G8k V6c:Value}
   (G1n:nsIn K mainGlobals "need_number"=some (some (.ref D7t))) (D5n:K.lookup D7t=some ⟨Y3k,Y5u,.func (fnOf "need_number" "need_number" (C0 A6v) (B9 A6v) (A3 A6v) .none Y3d Y2h V3m V5z G8k V6c),Y0a⟩) (D8w:codeIn K G8k "need_number"=true) (G1x:keepIn K (.ref D7t)=true)
   {G6z G7w:Option Addr} {G7s:Array (Option Value)} {G8t G8b G7x G8m C2m G8p:Value}
   (B6a:nsIn K mainGlobals "need_numbers"=some (some (.ref B5q))) (B5y:K.lookup B5q=some ⟨G8t,G6z,.func (fnOf "need_numbers" "need_numbers" (C0 A0c) (B9 A0c) (A3 A0c) .none G8b G7x G8m G7w C2m G8p),G7s⟩) (B5h:codeIn K C2m "need_numbers"=true) (B5p:keepIn K (.ref B5q)=true)
   {V7m V8v:Option Addr} {V9r:Array (Option Value)} {V7a Y4t Y1v V7v G8z V8a:Value}
   (D7n:nsIn K mainGlobals "some_of_kind"=some (some (.ref D9k))) (G2q:K.lookup D9k=some ⟨V7a,V7m,.func (fnOf "some_of_kind" "some_of_kind" (C0 A2u) (B9 A2u) (A3 A2u) .none Y4t Y1v V7v V8v G8z V8a),V9r⟩) (G2b:codeIn K G8z "some_of_kind"=true) (G1d:keepIn K (.ref D9k)=true)
   {U9n U6r:Option Addr} {U8s:Array (Option Value)} {U8r U8q U6v U7h D2w U8j:Value}
   (C5w:nsIn K mainGlobals "unlike_sign"=some (some (.ref C6c))) (C6r:K.lookup C6c=some ⟨U8r,U9n,.func (fnOf "unlike_sign" "unlike_sign" (C0 A0t) (B9 A0t) (A3 A0t) .none U8q U6v U7h U6r D2w U8j),U8s⟩) (C6y:codeIn K D2w "unlike_sign"=true) (C7u:keepIn K (.ref C6c)=true)
   {J5v J7c:Option Addr} {J3g:Array (Option Value)} {J5b J5r J3z J8k C6n J9h:Value}
   (C0q:nsIn K mainGlobals "whole_at"=some (some (.ref C0t))) (C1r:K.lookup C0t=some ⟨J5b,J5v,.func (fnOf "whole_at" "whole_at" (C0 A0s) (B9 A0s) (A3 A0s) .none J5r J3z J8k J7c C6n J9h),J3g⟩) (B8t:codeIn K C6n "whole_at"=true) (C0y:keepIn K (.ref C0t)=true)
   {Z7e Z7c:Option Addr} {Z8h:Array (Option Value)} {Z6f Z6z Z7p Z8e Y1w Z7y:Value}
   (V8u:nsIn K mainGlobals "is_between"=some (some (.ref V6x))) (Y4x:K.lookup V6x=some ⟨Z6f,Z7e,.func (fnOf "is_between" "is_between" (C0 C8g) (B9 C8g) (A3 C8g) .none Z6z Z7p Z8e Z7c Y1w Z7y),Z8h⟩) (V8w:codeIn K Y1w "is_between"=true) (V5g:keepIn K (.ref V6x)=true)
   {J6m J4y:Option Addr} {J8v:Array (Option Value)} {J3q J1u J1t J6s C6a J9f:Value}
   (B9z:nsIn K mainGlobals "need_between"=some (some (.ref C1v))) (C1b:K.lookup C1v=some ⟨J3q,J6m,.func (fnOf "need_between" "need_between" (C0 A2a) (B9 A2a) (A3 A2a) .none J1u J1t J6s J4y C6a J9f),J8v⟩) (C0b:codeIn K C6a "need_between"=true) (B8z:keepIn K (.ref C1v)=true)
   {J7f J5t:Option Addr} {U0c:Array (Option Value)} {J7h J6e J6d J8x C6b J7e:Value}
   (B9b:nsIn K mainGlobals "settled"=some (some (.ref B9v))) (C0h:K.lookup B9v=some ⟨J7h,J7f,.func (fnOf "settled" "settled" (C0 Z4) (B9 Z4) (A3 Z4) .none J6e J6d J8x J5t C6b J7e),U0c⟩) (C1y:codeIn K C6b "settled"=true) (C0s:keepIn K (.ref B9v)=true)
   {U7r U6b:Option Addr} {U8z:Array (Option Value)} {U7f U6q U6p U6z D2x U9g:Value}
   (C4y:nsIn K mainGlobals "finest_power"=some (some (.ref C5p))) (C5q:K.lookup C5p=some ⟨U7f,U7r,.func (fnOf "finest_power" "finest_power" (C0 A4r) (B9 A4r) (A3 A4r) .none U6q U6p U6z U6b D2x U9g),U8z⟩) (C7k:codeIn K D2x "finest_power"=true) (C6z:keepIn K (.ref C5p)=true)
   {J3e U0g:Option Addr} {J6g:Array (Option Value)} {J4w J4s J3f J3m C6k J7t:Value}
   (B9p:nsIn K mainGlobals "nearest_to"=some (some (.ref C0d))) (B9x:K.lookup C0d=some ⟨J4w,J3e,.func (fnOf "nearest_to" "nearest_to" (C0 A2c) (B9 A2c) (A3 A2c) .none J4s J3f J3m U0g C6k J7t),J6g⟩) (B9u:codeIn K C6k "nearest_to"=true) (C0u:keepIn K (.ref C0d)=true)
   {D6r G4z:Option Addr} {G2d:Array (Option Value)} {G3j G1j D6x G0r B6z G4y:Value}
   (B3h:nsIn K mainGlobals "neighbour"=some (some (.ref B1s))) (B0j:K.lookup B1s=some ⟨G3j,D6r,.func (fnOf "neighbour" "neighbour" (C0 Z3) (B9 Z3) (A3 Z3) .none G1j D6x G0r G4z B6z G4y),G2d⟩) (B2w:codeIn K B6z "neighbour"=true) (B3m:keepIn K (.ref B1s)=true)
   {U7c U6y:Option Addr} {U8v:Array (Option Value)} {U7e U9b U7n U6j D2y U9j:Value}
   (C5s:nsIn K mainGlobals "within_room"=some (some (.ref C7g))) (C7j:K.lookup C7g=some ⟨U7e,U7c,.func (fnOf "within_room" "within_room" (C0 A4q) (B9 A4q) (A3 A4q) .none U9b U7n U6j U6y D2y U9j),U8v⟩) (C6j:codeIn K D2y "within_room"=true) (C6h:keepIn K (.ref C7g)=true)
   {U6n U6a:Option Addr} {U6k:Array (Option Value)} {U7j U9f U7k U7x D3h U6m:Value}
   (C7t:nsIn K mainGlobals "is_beyond"=some (some (.ref C6e))) (C7v:K.lookup C6e=some ⟨U7j,U6n,.func (fnOf "is_beyond" "is_beyond" (C0 A4p) (B9 A4p) (A3 A4p) .none U9f U7k U7x U6a D3h U6m),U6k⟩) (C5d:codeIn K D3h "is_beyond"=true) (C5y:keepIn K (.ref C6e)=true)
   {Y5p Y0j:Option Addr} {Y3u:Array (Option Value)} {V3w V7j Y2k Y1n G6v Y2v:Value}
   (G3h:nsIn K mainGlobals "burst"=some (some (.ref G0w))) (D6p:K.lookup G0w=some ⟨V3w,Y5p,.func (fnOf "burst" "burst" (C0 B0b) (B9 B0b) (A3 B0b) .none V7j Y2k Y1n Y0j G6v Y2v),Y3u⟩) (D7v:codeIn K G6v "burst"=true) (G0f:keepIn K (.ref G0w)=true)
   {V7f Y4d:Option Addr} {Y1s:Array (Option Value)} {Y5j Y6d V5x V3r G6w Y4r:Value}
   (D5v:nsIn K mainGlobals "nines"=some (some (.ref D8v))) (D8q:K.lookup D8v=some ⟨Y5j,V7f,.func (fnOf "nines" "nines" (C0 A9p) (B9 A9p) (A3 A9p) .none Y6d V5x V3r Y4d G6w Y4r),Y1s⟩) (G4k:codeIn K G6w "nines"=true) (D5t:keepIn K (.ref D8v)=true)
   {J4b J2g:Option Addr} {J4f:Array (Option Value)} {J9g J3h J5d J7r C6u J2n:Value}
   (B8y:nsIn K mainGlobals "signals_of_rest"=some (some (.ref C1a))) (C0z:K.lookup C1a=some ⟨J9g,J4b,.func (fnOf "signals_of_rest" "signals_of_rest" (C0 A4b) (B9 A4b) (A3 A4b) .none J3h J5d J7r J2g C6u J2n),J4f⟩) (C1h:codeIn K C6u "signals_of_rest"=true) (B9m:keepIn K (.ref C1a)=true)
   {J8m U0j:Option Addr} {J3r:Array (Option Value)} {J4p J4t J5p J9t C6t J6z:Value}
   (B9k:nsIn K mainGlobals "signals_of_lead"=some (some (.ref B9d))) (C0r:K.lookup B9d=some ⟨J4p,J8m,.func (fnOf "signals_of_lead" "signals_of_lead" (C0 A3x) (B9 A3x) (A3 A3x) .none J4t J5p J9t U0j C6t J6z),J3r⟩) (C1s:codeIn K C6t "signals_of_lead"=true) (B8p:keepIn K (.ref B9d)=true)
   {U6s U6g:Option Addr} {U7y:Array (Option Value)} {U7m U7t U8w U8t D3f U8b:Value}
   (C5g:nsIn K mainGlobals "nought"=some (some (.ref C4x))) (C6m:K.lookup C4x=some ⟨U7m,U6s,.func (fnOf "nought" "nought" (C0 Z5) (B9 Z5) (A3 Z5) .none U7t U8w U8t U6g D3f U8b),U7y⟩) (C5j:codeIn K D3f "nought"=true) (C5h:keepIn K (.ref C4x)=true)
   {Z3g Z2y:Option Addr} {Y9t:Array (Option Value)} {Z1x Z3h Z3p Y9z U2u Z0n:Value}
   (J7u:nsIn K mainGlobals "void"=some (some (.ref J7x))) (J4g:K.lookup J7x=some ⟨Z1x,Z3g,.func (fnOf "void" "void" (C0 A9s) (B9 A9s) (A3 A9s) .none Z3h Z3p Y9z Z2y U2u Z0n),Y9t⟩) (J4n:codeIn K U2u "void"=true) (J9m:keepIn K (.ref J7x)=true)
   {Y5v Y5g:Option Addr} {Y3z:Array (Option Value)} {V8m V4e Y5m Y4s G7k Y6p:Value}
   (D6u:nsIn K mainGlobals "split_to_end"=some (some (.ref G0d))) (G4n:K.lookup G0d=some ⟨V8m,Y5v,.func (fnOf "split_to_end" "split_to_end" (C0 B5g) (B9 B5g) (A3 B5g) .none V4e Y5m Y4s Y5g G7k Y6p),Y3z⟩) (D9t:codeIn K G7k "split_to_end"=true) (D5q:keepIn K (.ref G0d)=true)
   {J4a U0t:Option Addr} {J9x:Array (Option Value)} {J9a U0s J6b J2e C5a J5f:Value}
   (B9f:nsIn K mainGlobals "rounded"=some (some (.ref C0j))) (C1u:K.lookup C0j=some ⟨J9a,J4a,.func (fnOf "rounded" "rounded" (C0 A2b) (B9 A2b) (A3 A2b) .none U0s J6b J2e U0t C5a J5f),J9x⟩) (C0f:codeIn K C5a "rounded"=true) (B8w:keepIn K (.ref C0j)=true)
   {Z3a Z0m:Option Addr} {Z1b:Array (Option Value)} {Z2r Z2b Z1z Z1s U3j Y9r:Value}
   (U0q:nsIn K mainGlobals "over"=some (some (.ref J9j))) (J5n:K.lookup J9j=some ⟨Z2r,Z3a,.func (fnOf "over" "over" (C0 B6w) (B9 B6w) (A3 B6w) .none Z2b Z1z Z1s Z0m U3j Y9r),Z1b⟩) (J8q:codeIn K U3j "over"=true) (U0h:keepIn K (.ref J9j)=true)
   {G4m G1y:Option Addr} {D5g:Array (Option Value)} {G3b D6z D9z G3y B7a D8c:Value}
   (B1v:nsIn K mainGlobals "whole_over"=some (some (.ref B1d))) (B2y:K.lookup B1d=some ⟨G3b,G4m,.func (fnOf "whole_over" "whole_over" (C0 Y4) (B9 Y4) (A3 Y4) .none D6z D9z G3y G1y B7a D8c),D5g⟩) (B2c:codeIn K B7a "whole_over"=true) (B2s:keepIn K (.ref B1d)=true)
   {U8c U8a:Option Addr} {U9c:Array (Option Value)} {U8g U7b U8x U8y D3d U8n:Value}
   (C7p:nsIn K mainGlobals "rest_of"=some (some (.ref C7h))) (C6x:K.lookup C7h=some ⟨U8g,U8c,.func (fnOf "rest_of" "rest_of" (C0 A3b) (B9 A3b) (A3 A3b) .none U7b U8x U8y U8a D3d U8n),U9c⟩) (C5n:codeIn K D3d "rest_of"=true) (C7f:keepIn K (.ref C7h)=true)
   {Z1h Z3n:Option Addr} {Z2g:Array (Option Value)} {Z0x Z0z Z3f Z1c U3k Z2p:Value}
   (J7p:nsIn K mainGlobals "has_plain_quotient"=some (some (.ref U0e))) (J4h:K.lookup U0e=some ⟨Z0x,Z1h,.func (fnOf "has_plain_quotient" "has_plain_quotient" (C0 B4p) (B9 B4p) (A3 B4p) .none Z0z Z3f Z1c Z3n U3k Z2p),Z2g⟩) (J3n:codeIn K U3k "has_plain_quotient"=true) (J8g:keepIn K (.ref U0e)=true)
   {Z0a Z1y:Option Addr} {Z0y:Array (Option Value)} {Z2c Z0w Z0r Z2d U3h Y9u:Value}
   (J3a:nsIn K mainGlobals "odd_quotient"=some (some (.ref J7z))) (J9r:K.lookup J7z=some ⟨Z2c,Z0a,.func (fnOf "odd_quotient" "odd_quotient" (C0 B4m) (B9 B4m) (A3 B4m) .none Z0w Z0r Z2d Z1y U3h Y9u),Z0y⟩) (J3j:codeIn K U3h "odd_quotient"=true) (J6k:keepIn K (.ref J7z)=true)
   {D5z G5d:Option Addr} {G3z:Array (Option Value)} {D8g G0n D7a G1b B7g G0c:Value}
   (B2b:nsIn K mainGlobals "whole_part"=some (some (.ref B2a))) (B1h:K.lookup B2a=some ⟨D8g,D5z,.func (fnOf "whole_part" "whole_part" (C0 Y2) (B9 Y2) (A3 Y2) .none G0n D7a G1b G5d B7g G0c),G3z⟩) (B1n:codeIn K B7g "whole_part"=true) (B1y:keepIn K (.ref B2a)=true)
   {V7d V8r:Option Addr} {Y4j:Array (Option Value)} {Y4v Y4g Y2b Y1b G9f V5m:Value}
   (G3v:nsIn K mainGlobals "way_of"=some (some (.ref D7q))) (D8m:K.lookup D7q=some ⟨Y4v,V7d,.func (fnOf "way_of" "way_of" (C0 A9r) (B9 A9r) (A3 A9r) .none Y4g Y2b Y1b V8r G9f V5m),Y4j⟩) (D7d:codeIn K G9f "way_of"=true) (G1e:keepIn K (.ref D7q)=true)
   {J1r J8z:Option Addr} {J7y:Array (Option Value)} {J6h J1q J4c J1v C6f J8e:Value}
   (C0x:nsIn K mainGlobals "bounded"=some (some (.ref C0n))) (C1m:K.lookup C0n=some ⟨J6h,J1r,.func (fnOf "bounded" "bounded" (C0 A3y) (B9 A3y) (A3 A3y) .none J1q J4c J1v J8z C6f J8e),J7y⟩) (C1t:codeIn K C6f "bounded"=true) (C1k:keepIn K (.ref C0n)=true)
   {Y5a Y0c:Option Addr} {V6e:Array (Option Value)} {Y5w V6j V6b V8j G8c Y6h:Value}
   (D8h:nsIn K mainGlobals "need_signals"=some (some (.ref G2z))) (D7r:K.lookup G2z=some ⟨Y5w,Y5a,.func (fnOf "need_signals" "need_signals" (C0 B5d) (B9 B5d) (A3 B5d) .none V6j V6b V8j Y0c G8c Y6h),V6e⟩) (D5x:codeIn K G8c "need_signals"=true) (D6g:keepIn K (.ref G2z)=true)
   {Y2j V8t:Option Addr} {V6y:Array (Option Value)} {V5j Y6g V6s Y1e G8f V8z:Value}
   (D8b:nsIn K mainGlobals "in_order"=some (some (.ref G2w))) (G0z:K.lookup G2w=some ⟨V5j,Y2j,.func (fnOf "in_order" "in_order" (C0 B5b) (B9 B5b) (A3 B5b) .none Y6g V6s Y1e V8t G8f V8z),V6y⟩) (D6a:codeIn K G8f "in_order"=true) (D8e:keepIn K (.ref G2w)=true)
   {Z0b Z2w:Option Addr} {Z2t:Array (Option Value)} {Z1q Z1a Z3b Z0f U3d Z1d:Value}
   (J2v:nsIn K mainGlobals "_law_cell_at"=some (some (.ref J4j))) (J2b:K.lookup J4j=some ⟨Z1q,Z0b,.func (fnOf "_law_cell_at" "_law_cell_at" (C0 B6p) (B9 B6p) (A3 B6p) .none Z1a Z3b Z0f Z2w U3d Z1d),Z2t⟩) (J2s:codeIn K U3d "_law_cell_at"=true) (J4v:keepIn K (.ref J4j)=true)
   {Y0z Y2t:Option Addr} {Y0u:Array (Option Value)} {Y5r V4n Y2c Y0y G8x V8k:Value}
   (G3u:nsIn K mainGlobals "_law_mixed"=some (some (.ref D5p))) (D9q:K.lookup D5p=some ⟨Y5r,Y0z,.func (fnOf "_law_mixed" "_law_mixed" (C0 A9x) (B9 A9x) (A3 A9x) .none V4n Y2c Y0y Y2t G8x V8k),Y0u⟩) (G2v:codeIn K G8x "_law_mixed"=true) (D7s:keepIn K (.ref D5p)=true)
   {Y9v Z1e:Option Addr} {Y9q:Array (Option Value)} {Z2q Z0p Y9w Z2u U2t Z1t:Value}
   (J2m:nsIn K mainGlobals "_law_ten"=some (some (.ref J9n))) (J2j:K.lookup J9n=some ⟨Z2q,Y9v,.func (fnOf "_law_ten" "_law_ten" (C0 B6n) (B9 B6n) (A3 B6n) .none Z0p Y9w Z2u Z1e U2t Z1t),Y9q⟩) (J2d:codeIn K U2t "_law_ten"=true) (J8d:keepIn K (.ref J9n)=true)
   {Z2f Z2x:Option Addr} {Z1f:Array (Option Value)} {Z2m Z1w Z1g Z0e U3f Z0g:Value}
   (J7k:nsIn K mainGlobals "_law_figures"=some (some (.ref J6f))) (J9z:K.lookup J6f=some ⟨Z2m,Z2f,.func (fnOf "_law_figures" "_law_figures" (C0 A1f) (B9 A1f) (A3 A1f) .none Z1w Z1g Z0e Z2x U3f Z0g),Z1f⟩) (J9p:codeIn K U3f "_law_figures"=true) (J9e:keepIn K (.ref J6f)=true)
   {Z2z Z3e:Option Addr} {Z1n:Array (Option Value)} {Z0j Z3j Z0k Z1m U2q Z2v:Value}
   (J5c:nsIn K mainGlobals "_law_number"=some (some (.ref J7j))) (J8s:K.lookup J7j=some ⟨Z0j,Z2z,.func (fnOf "_law_number" "_law_number" (C0 A4f) (B9 A4f) (A3 A4f) .none Z3j Z0k Z1m Z3e U2q Z2v),Z1n⟩) (J9q:codeIn K U2q "_law_number"=true) (J9b:keepIn K (.ref J7j)=true)
   {V7q Y1h:Option Addr} {V9d:Array (Option Value)} {Y3q V6f Y5q V3y G6u V7n:Value}
   (D8y:nsIn K mainGlobals "_law_made"=some (some (.ref D9m))) (D8z:K.lookup D9m=some ⟨Y3q,V7q,.func (fnOf "_law_made" "_law_made" (C0 B4y) (B9 B4y) (A3 B4y) .none V6f Y5q V3y Y1h G6u V7n),V9d⟩) (D5m:codeIn K G6u "_law_made"=true) (G2c:keepIn K (.ref D9m)=true)
   {V5s V5w:Option Addr} {Y3v:Array (Option Value)} {Y3p V9c Y3m V6r G8w Y6k:Value}
   (G1h:nsIn K mainGlobals "_law_word"=some (some (.ref D9w))) (G5b:K.lookup D9w=some ⟨Y3p,V5s,.func (fnOf "_law_word" "_law_word" (C0 A4d) (B9 A4d) (A3 A4d) .none V9c Y3m V6r V5w G8w Y6k),Y3v⟩) (D5r:codeIn K G8w "_law_word"=true) (G4p:keepIn K (.ref D9w)=true)
   {V9a V3g:Option Addr} {V9m:Array (Option Value)} {Y4e Y4q Y0x V6a G7c Y2s:Value}
   (D6b:nsIn K mainGlobals "_law_pair"=some (some (.ref D9s))) (G3w:K.lookup D9s=some ⟨Y4e,V9a,.func (fnOf "_law_pair" "_law_pair" (C0 B5a) (B9 B5a) (A3 B5a) .none Y4q Y0x V6a V3g G7c Y2s),V9m⟩) (G2y:codeIn K G7c "_law_pair"=true) (D9x:keepIn K (.ref D9s)=true)
   {U8k U6u:Option Addr} {U6x:Array (Option Value)} {U9e U7g U8h U9h D3j U8m:Value}
   (C5x:nsIn K mainGlobals "_law_worth"=some (some (.ref C7a))) (C6v:K.lookup C7a=some ⟨U9e,U8k,.func (fnOf "_law_worth" "_law_worth" (C0 A0n) (B9 A0n) (A3 A0n) .none U7g U8h U9h U6u D3j U8m),U6x⟩) (C5k:codeIn K D3j "_law_worth"=true) (C4z:keepIn K (.ref C7a)=true)
   {V5q Y2p:Option Addr} {V7r:Array (Option Value)} {V7t V9j V9g Y6n G9e V8y:Value}
   (G1z:nsIn K mainGlobals "_law_fits"=some (some (.ref D8u))) (G5a:K.lookup D8u=some ⟨V7t,V5q,.func (fnOf "_law_fits" "_law_fits" (C0 A3r) (B9 A3r) (A3 A3r) .none V9j V9g Y6n Y2p G9e V8y),V7r⟩) (G1a:codeIn K G9e "_law_fits"=true) (D6y:keepIn K (.ref D8u)=true)
   {Y5s V4s:Option Addr} {V7p:Array (Option Value)} {V9w Y1k Y3x V6z G7y V9k:Value}
   (D7c:nsIn K mainGlobals "_law_is_same"=some (some (.ref D8x))) (G2a:K.lookup D8x=some ⟨V9w,Y5s,.func (fnOf "_law_is_same" "_law_is_same" (C0 A4e) (B9 A4e) (A3 A4e) .none Y1k Y3x V6z V4s G7y V9k),V7p⟩) (G1w:codeIn K G7y "_law_is_same"=true) (G0j:keepIn K (.ref D8x)=true)
   {Z3d Y9p:Option Addr} {Y9y:Array (Option Value)} {Z2a Z0h Z0d Z0v G2p Z1r:Value}
   (J6r:nsIn K mainGlobals "_law_refused"=some (some (.ref J5m))) (J2y:K.lookup J5m=some ⟨Z2a,Z3d,.func (fnOf "_law_refused" "_law_refused" (C0 A4u) (B9 A4u) (A3 A4u) .none Z0h Z0d Z0v Y9p G2p Z1r),Y9y⟩) (J1y:codeIn K G2p "_law_refused"=true) (J2z:keepIn K (.ref J5m)=true)
   {Z8f V5e:Option Addr} {Z8t:Array (Option Value)} {Z7k Y0b Y0p V3h J2h V6p:Value}
   (U3a:nsIn K mainGlobals "law"=some (some (.ref V7x))) (V7u:K.lookup V7x=some ⟨Z7k,Z8f,.func (fnOf "law" "law" (C0 D4b) (B9 D4b) (A3 D4b) .none Y0b Y0p V3h V5e J2h V6p),Z8t⟩) (Y1d:codeIn K J2h "law"=true) (Y1g:keepIn K (.ref V7x)=true)
   (A7v:nsIn K mainGlobals "isinstance"=some none)
   (Y3n:nsIn K mainGlobals "int"=some none)
   (J3v:nsIn K mainGlobals "bool"=some none)
   (V3n:nsIn K mainGlobals "str"=some none)
   (J7b:nsIn K mainGlobals "list"=some none)
   (D9d:nsIn K mainGlobals "tuple"=some none)
   (J5h:nsIn K mainGlobals "dict"=some none)
   (V6u:nsIn K mainGlobals "len"=some none)
   (G3d:nsIn K mainGlobals "range"=some none)
   (V8f:nsIn K mainGlobals "min"=some none)
   (V8b:nsIn K mainGlobals "max"=some none)
   (Y5z:nsIn K mainGlobals "abs"=some none)
   (Y5e:nsIn K mainGlobals "any"=some none)
   (Y4m:nsIn K mainGlobals "all"=some none)
   (V4k:nsIn K mainGlobals "sum"=some none)
   (U0m:nsIn K mainGlobals "repr"=some none)
   (B1e:nsIn K mainGlobals "enumerate"=some none)
   (B5k:nsIn K mainGlobals "reversed"=some none)
   (V9p:nsIn K mainGlobals "zip"=some none)
   (C5r:nsIn K mainGlobals "sorted"=some none)
   (C6s:nsIn K mainGlobals "divmod"=some none)
   (V3k:nsIn K mainGlobals "set"=some none)
   (A7k:nsIn K mainGlobals "ValueError"=some none)
   (B6c:kitOne K (.type "int") (.type "int")=some true)
   (B3n:kitOne K (.type "int") (.type "bool")=some false)
   (B5w:kitOne K (.type "int") (.type "str")=some false)
   (B0s:kitOne K (.type "int") (.type "list")=some false)
   (A7q:kitOne K (.type "int") (.type "tuple")=some false)
   (B2h:kitOne K (.type "int") (.type "dict")=some false)
   (B1a:kitOne K (.type "bool") (.type "int")=some true)
   (A8h:kitOne K (.type "bool") (.type "bool")=some true)
   (B3f:kitOne K (.type "bool") (.type "str")=some false)
   (A9f:kitOne K (.type "bool") (.type "list")=some false)
   (A5p:kitOne K (.type "bool") (.type "tuple")=some false)
   (A7d:kitOne K (.type "bool") (.type "dict")=some false)
   (B5j:kitOne K (.type "str") (.type "int")=some false)
   (B2t:kitOne K (.type "str") (.type "bool")=some false)
   (B5v:kitOne K (.type "str") (.type "str")=some true)
   (B0u:kitOne K (.type "str") (.type "list")=some false)
   (A7t:kitOne K (.type "str") (.type "tuple")=some false)
   (B1w:kitOne K (.type "str") (.type "dict")=some false)
   (B1t:kitOne K (.type "list") (.type "int")=some false)
   (A8u:kitOne K (.type "list") (.type "bool")=some false)
   (B2f:kitOne K (.type "list") (.type "str")=some false)
   (A9g:kitOne K (.type "list") (.type "list")=some true)
   (A1w:kitOne K (.type "list") (.type "tuple")=some false)
   (A7j:kitOne K (.type "list") (.type "dict")=some false)
   (A8q:kitOne K (.type "tuple") (.type "int")=some false)
   (A5r:kitOne K (.type "tuple") (.type "bool")=some false)
   (A7x:kitOne K (.type "tuple") (.type "str")=some false)
   (A5n:kitOne K (.type "tuple") (.type "list")=some false)
   (A4k:kitOne K (.type "tuple") (.type "tuple")=some true)
   (A5s:kitOne K (.type "tuple") (.type "dict")=some false)
   (B0r:kitOne K (.type "dict") (.type "int")=some false)
   (A7h:kitOne K (.type "dict") (.type "bool")=some false)
   (B2m:kitOne K (.type "dict") (.type "str")=some false)
   (A9e:kitOne K (.type "dict") (.type "list")=some false)
   (A5q:kitOne K (.type "dict") (.type "tuple")=some false)
   (A8z:kitOne K (.type "dict") (.type "dict")=some true)
   (A2v:kitOne K (.type "NoneType") (.type "int")=some false)
   (A1r:kitOne K (.type "NoneType") (.type "bool")=some false)
   (A2w:kitOne K (.type "NoneType") (.type "str")=some false)
   (A1p:kitOne K (.type "NoneType") (.type "list")=some false)
   (A0w:kitOne K (.type "NoneType") (.type "tuple")=some false)
   (A1q:kitOne K (.type "NoneType") (.type "dict")=some false)
   (sn:specialIn K (.builtin "object.__class__") "__get__"=some (some (.builtin "getset_descriptor.__get__")))
   (tk:takesIn K (.builtin "object.__class__")=some true)
   (io:nsIn K mainGlobals "Way"=some (some (.ref CW)))
   (Z8r:nsIn K mainGlobals "Down"=some (some (.ref W0)))
   (V3t:plainGet K W0 Str.empty=true)
   (V4h:hasDictIn K W0=true)
   (Y3j:plainOver K W0=true)
   (Y4a:findIn K (.ref W0) "__setattr__"=some (some (.builtin "object.__setattr__")))
   (Y0w:makesIn K W0=true)
   (Y5t:keepIn K (.ref W0)=true)
   (V4y:findIn K (.ref W0) "__class__"=some (some (.builtin "object.__class__")))
   (V5u:mroIn K W0 (.type "object")=some true)
   (V8d:findIn K (.ref W0) "__init__"=some (some (.builtin "object.__init__")))
   (V9y:kitOne K (.ref W0) (.ref CW)=some true)
   (B8q:findIn K (.ref W0) "name"=some (some (.ref A6k)))
   (C1c:isFn K (.ref A6k)=true)
   {J5e J3p:Option Addr} {J9w:Array (Option Value)} {J3k J6x J6y J2a C5c J7d:Value} (B9t:K.lookup A6k=some ⟨J3k,J5e,.func (fnOf "name" "Down.name" (C0 sN0) (B9 sN0) (A3 sN0) .none J6x J6y J2a J3p C5c J7d),J9w⟩)
   (C0c:codeIn K C5c "Down.name"=true)
   (B4d:keepIn K (.ref A6k)=true)
   (Z6g:nsIn K mainGlobals "Up"=some (some (.ref W1)))
   (Y3c:plainGet K W1 Str.empty=true)
   (Y0f:hasDictIn K W1=true)
   (V8n:plainOver K W1=true)
   (Y3b:findIn K (.ref W1) "__setattr__"=some (some (.builtin "object.__setattr__")))
   (V9n:makesIn K W1=true)
   (Y5k:keepIn K (.ref W1)=true)
   (Y1a:findIn K (.ref W1) "__class__"=some (some (.builtin "object.__class__")))
   (V4u:mroIn K W1 (.type "object")=some true)
   (Y1c:findIn K (.ref W1) "__init__"=some (some (.builtin "object.__init__")))
   (V3f:kitOne K (.ref W1) (.ref CW)=some true)
   (C1x:findIn K (.ref W1) "name"=some (some (.ref A6g)))
   (C1d:isFn K (.ref A6g)=true)
   {J2c J3c:Option Addr} {J1p:Array (Option Value)} {U0u J4r J8y J6p C5u J3x:Value} (B9q:K.lookup A6g=some ⟨U0u,J2c,.func (fnOf "name" "Up.name" (C0 sN1) (B9 sN1) (A3 sN1) .none J4r J8y J6p J3c C5u J3x),J1p⟩)
   (C1g:codeIn K C5u "Up.name"=true)
   (B4e:keepIn K (.ref A6g)=true)
   (Z6x:nsIn K mainGlobals "Floor"=some (some (.ref W2)))
   (Y1q:plainGet K W2 Str.empty=true)
   (Y2f:hasDictIn K W2=true)
   (V7s:plainOver K W2=true)
   (V9f:findIn K (.ref W2) "__setattr__"=some (some (.builtin "object.__setattr__")))
   (Y2x:makesIn K W2=true)
   (Y3g:keepIn K (.ref W2)=true)
   (V7y:findIn K (.ref W2) "__class__"=some (some (.builtin "object.__class__")))
   (Y4n:mroIn K W2 (.type "object")=some true)
   (V8g:findIn K (.ref W2) "__init__"=some (some (.builtin "object.__init__")))
   (V5c:kitOne K (.ref W2) (.ref CW)=some true)
   (C1p:findIn K (.ref W2) "name"=some (some (.ref A6j)))
   (B9e:isFn K (.ref A6j)=true)
   {J4m J6a:Option Addr} {J6v:Array (Option Value)} {J2x J6n J5s J8r C6d J9c:Value} (B8x:K.lookup A6j=some ⟨J2x,J4m,.func (fnOf "name" "Floor.name" (C0 sN2) (B9 sN2) (A3 sN2) .none J6n J5s J8r J6a C6d J9c),J6v⟩)
   (B9g:codeIn K C6d "Floor.name"=true)
   (B4h:keepIn K (.ref A6j)=true)
   (Z7a:nsIn K mainGlobals "Ceiling"=some (some (.ref W3)))
   (V3s:plainGet K W3 Str.empty=true)
   (Y0t:hasDictIn K W3=true)
   (V5b:plainOver K W3=true)
   (V9u:findIn K (.ref W3) "__setattr__"=some (some (.builtin "object.__setattr__")))
   (Y3t:makesIn K W3=true)
   (Y0m:keepIn K (.ref W3)=true)
   (V9b:findIn K (.ref W3) "__class__"=some (some (.builtin "object.__class__")))
   (Y2a:mroIn K W3 (.type "object")=some true)
   (Y2q:findIn K (.ref W3) "__init__"=some (some (.builtin "object.__init__")))
   (Y6f:kitOne K (.ref W3) (.ref CW)=some true)
   (B9n:findIn K (.ref W3) "name"=some (some (.ref A6c)))
   (C1q:isFn K (.ref A6c)=true)
   {J6c J3t:Option Addr} {J5j:Array (Option Value)} {U0n J8p J4z J6q C5f J6w:Value} (B8u:K.lookup A6c=some ⟨U0n,J6c,.func (fnOf "name" "Ceiling.name" (C0 sN3) (B9 sN3) (A3 sN3) .none J8p J4z J6q J3t C5f J6w),J5j⟩)
   (C1f:codeIn K C5f "Ceiling.name"=true)
   (B3z:keepIn K (.ref A6c)=true)
   (Z6h:nsIn K mainGlobals "HalfUp"=some (some (.ref W4)))
   (V5d:plainGet K W4 Str.empty=true)
   (V4w:hasDictIn K W4=true)
   (Y3y:plainOver K W4=true)
   (V3q:findIn K (.ref W4) "__setattr__"=some (some (.builtin "object.__setattr__")))
   (Y2g:makesIn K W4=true)
   (Y1t:keepIn K (.ref W4)=true)
   (Y4w:findIn K (.ref W4) "__class__"=some (some (.builtin "object.__class__")))
   (V4q:mroIn K W4 (.type "object")=some true)
   (V8h:findIn K (.ref W4) "__init__"=some (some (.builtin "object.__init__")))
   (V4t:kitOne K (.ref W4) (.ref CW)=some true)
   (B9w:findIn K (.ref W4) "name"=some (some (.ref A6d)))
   (B9s:isFn K (.ref A6d)=true)
   {J5g J5k:Option Addr} {J1s:Array (Option Value)} {J8b J7q J4k J6j C7d J7n:Value} (B8r:K.lookup A6d=some ⟨J8b,J5g,.func (fnOf "name" "HalfUp.name" (C0 sN4) (B9 sN4) (A3 sN4) .none J7q J4k J6j J5k C7d J7n),J1s⟩)
   (C1e:codeIn K C7d "HalfUp.name"=true)
   (B4b:keepIn K (.ref A6d)=true)
   (Z8n:nsIn K mainGlobals "HalfDown"=some (some (.ref W5)))
   (Y6e:plainGet K W5 Str.empty=true)
   (V7z:hasDictIn K W5=true)
   (V4f:plainOver K W5=true)
   (V8p:findIn K (.ref W5) "__setattr__"=some (some (.builtin "object.__setattr__")))
   (Y1f:makesIn K W5=true)
   (V8x:keepIn K (.ref W5)=true)
   (V5h:findIn K (.ref W5) "__class__"=some (some (.builtin "object.__class__")))
   (Y4h:mroIn K W5 (.type "object")=some true)
   (V3p:findIn K (.ref W5) "__init__"=some (some (.builtin "object.__init__")))
   (Y3r:kitOne K (.ref W5) (.ref CW)=some true)
   (C1n:findIn K (.ref W5) "name"=some (some (.ref A6m)))
   (C1j:isFn K (.ref A6m)=true)
   {J3y U0a:Option Addr} {J9d:Array (Option Value)} {J3u J3b J1n J8h C6w J9y:Value} (B9c:K.lookup A6m=some ⟨J3u,J3y,.func (fnOf "name" "HalfDown.name" (C0 sN5) (B9 sN5) (A3 sN5) .none J3b J1n J8h U0a C6w J9y),J9d⟩)
   (C0a:codeIn K C6w "HalfDown.name"=true)
   (B4g:keepIn K (.ref A6m)=true)
   (Z8c:nsIn K mainGlobals "HalfEven"=some (some (.ref W6)))
   (Y6j:plainGet K W6 Str.empty=true)
   (Y1x:hasDictIn K W6=true)
   (V5f:plainOver K W6=true)
   (Y0v:findIn K (.ref W6) "__setattr__"=some (some (.builtin "object.__setattr__")))
   (Y4z:makesIn K W6=true)
   (Y0d:keepIn K (.ref W6)=true)
   (V7h:findIn K (.ref W6) "__class__"=some (some (.builtin "object.__class__")))
   (V3j:mroIn K W6 (.type "object")=some true)
   (V7w:findIn K (.ref W6) "__init__"=some (some (.builtin "object.__init__")))
   (V9v:kitOne K (.ref W6) (.ref CW)=some true)
   (C1z:findIn K (.ref W6) "name"=some (some (.ref A6e)))
   (B9a:isFn K (.ref A6e)=true)
   {J7g J3s:Option Addr} {J8n:Array (Option Value)} {J2u J4q J9k J1w C7m J9u:Value} (B9j:K.lookup A6e=some ⟨J2u,J7g,.func (fnOf "name" "HalfEven.name" (C0 sN6) (B9 sN6) (A3 sN6) .none J4q J9k J1w J3s C7m J9u),J8n⟩)
   (B8n:codeIn K C7m "HalfEven.name"=true)
   (B3y:keepIn K (.ref A6e)=true)
   (Z7g:nsIn K mainGlobals "FiveUp"=some (some (.ref W7)))
   (V6k:plainGet K W7 Str.empty=true)
   (Y0s:hasDictIn K W7=true)
   (V3u:plainOver K W7=true)
   (V5r:findIn K (.ref W7) "__setattr__"=some (some (.builtin "object.__setattr__")))
   (V9q:makesIn K W7=true)
   (V5y:keepIn K (.ref W7)=true)
   (Y5y:findIn K (.ref W7) "__class__"=some (some (.builtin "object.__class__")))
   (V4z:mroIn K W7 (.type "object")=some true)
   (V5t:findIn K (.ref W7) "__init__"=some (some (.builtin "object.__init__")))
   (V6t:kitOne K (.ref W7) (.ref CW)=some true)
   (B9r:findIn K (.ref W7) "name"=some (some (.ref A6f)))
   (C2a:isFn K (.ref A6f)=true)
   {J4d U0b:Option Addr} {J8j:Array (Option Value)} {J2f J5y J3w J8c C7c U0d:Value} (C0k:K.lookup A6f=some ⟨J2f,J4d,.func (fnOf "name" "FiveUp.name" (C0 sN7) (B9 sN7) (A3 sN7) .none J5y J3w J8c U0b C7c U0d),J8j⟩)
   (C0v:codeIn K C7c "FiveUp.name"=true)
   (B4a:keepIn K (.ref A6f)=true)
   (Z7u:nsIn K mainGlobals "Number"=some (some (.ref CN)))
   (Y0h:plainGet K CN Str.empty=true)
   (V5a:hasDictIn K CN=true)
   (Y0e:plainOver K CN=true)
   (V7b:findIn K (.ref CN) "__setattr__"=some (some (.builtin "object.__setattr__")))
   (V9s:makesIn K CN=true)
   (Y1m:keepIn K (.ref CN)=true)
   (V5v:findIn K (.ref CN) "__class__"=some (some (.builtin "object.__class__")))
   (Y0q:mroIn K CN (.type "object")=some true)
   (B9y:findIn K (.ref CN) "kind"=some none)
   (C0g:findIn K (.ref CN) "sign"=some none)
   (A8s:findIn K (.ref CN) "figures"=some none)
   (B5t:findIn K (.ref CN) "power"=some none)
   (V6w:findIn K (.ref CN) "__init__"=some (some (.ref D2z)))
   (V9t:isFn K (.ref D2z)=true)
   {Z8j Z6w:Option Addr} {Z7f:Array (Option Value)} {Z6y Z8u Z7x Z8s V4c Z8q:Value} (V4r:K.lookup D2z=some ⟨Z6y,Z8j,.func (fnOf "__init__" "Number.__init__" (C0 D2k) (B9 D2k) (A3 D2k) .none Z8u Z7x Z8s Z6w V4c Z8q),Z7f⟩)
   (V4b:codeIn K V4c "Number.__init__"=true)
   (Y5x:keepIn K (.ref D2z)=true)
   (G1s:kitOne K (.ref CN) (.ref CN)=some true)
   (A8v:findIn K (.ref W0) "goes_up"=some (some (.ref A0x)))
   (A9a:isFn K (.ref A0x)=true)
   {D0h D0z:Option Addr} {D0f:Array (Option Value)} {D1d C9p C8k C9f B4v D1h:Value} (A8p:K.lookup A0x=some ⟨D1d,D0h,.func (fnOf "goes_up" "Down.goes_up" (C0 sU0) (B9 sU0) (A3 sU0) .none C9p C8k C9f D0z B4v D1h),D0f⟩)
   (A7n:codeIn K B4v "Down.goes_up"=true)
   (A3k:keepIn K (.ref A0x)=true)
   (B2k:findIn K (.ref W0) "to_end"=some (some (.ref A2s)))
   (B0t:isFn K (.ref A2s)=true)
   {D7x D8a:Option Addr} {G2u:Array (Option Value)} {G1q G0e D9f G1p B7b G0x:Value} (B3d:K.lookup A2s=some ⟨G1q,D7x,.func (fnOf "to_end" "Down.to_end" (C0 sT0) (B9 sT0) (A3 sT0) .none G0e D9f G1p D8a B7b G0x),G2u⟩)
   (B3k:codeIn K B7b "Down.to_end"=true)
   (A4x:keepIn K (.ref A2s)=true)
   (A8e:findIn K (.ref W1) "goes_up"=some (some (.ref A0z)))
   (A7g:isFn K (.ref A0z)=true)
   {C9h C9s:Option Addr} {C9m:Array (Option Value)} {D1f D1b D0u D0q B4q C9c:Value} (A8t:K.lookup A0z=some ⟨D1f,C9h,.func (fnOf "goes_up" "Up.goes_up" (C0 sU1) (B9 sU1) (A3 sU1) .none D1b D0u D0q C9s B4q C9c),C9m⟩)
   (A8c:codeIn K B4q "Up.goes_up"=true)
   (A3m:keepIn K (.ref A0z)=true)
   (B3c:findIn K (.ref W1) "to_end"=some (some (.ref A2m)))
   (B0v:isFn K (.ref A2m)=true)
   {G3s D5s:Option Addr} {D6m:Array (Option Value)} {G1t D8d G1r G2x B7n D8k:Value} (B0y:K.lookup A2m=some ⟨G1t,G3s,.func (fnOf "to_end" "Up.to_end" (C0 sT1) (B9 sT1) (A3 sT1) .none D8d G1r G2x D5s B7n D8k),D6m⟩)
   (B3j:codeIn K B7n "Up.to_end"=true)
   (A4y:keepIn K (.ref A2m)=true)
   (A8x:findIn K (.ref W2) "goes_up"=some (some (.ref A1b)))
   (A7s:isFn K (.ref A1b)=true)
   {C8r D0p:Option Addr} {C8x:Array (Option Value)} {C8q C9b D1g D0m B4x C8t:Value} (A8b:K.lookup A1b=some ⟨C8q,C8r,.func (fnOf "goes_up" "Floor.goes_up" (C0 sU2) (B9 sU2) (A3 sU2) .none C9b D1g D0m D0p B4x C8t),C8x⟩)
   (A8a:codeIn K B4x "Floor.goes_up"=true)
   (A3h:keepIn K (.ref A1b)=true)
   (B0x:findIn K (.ref W2) "to_end"=some (some (.ref A2k)))
   (B1r:isFn K (.ref A2k)=true)
   {G4h G2f:Option Addr} {G4c:Array (Option Value)} {D7b D7w G2t G0u B7e D5j:Value} (B0z:K.lookup A2k=some ⟨D7b,G4h,.func (fnOf "to_end" "Floor.to_end" (C0 sT2) (B9 sT2) (A3 sT2) .none D7w G2t G0u G2f B7e D5j),G4c⟩)
   (B2n:codeIn K B7e "Floor.to_end"=true)
   (A5c:keepIn K (.ref A2k)=true)
   (A8d:findIn K (.ref W3) "goes_up"=some (some (.ref A1a)))
   (A7r:isFn K (.ref A1a)=true)
   {D0v D0b:Option Addr} {C8n:Array (Option Value)} {D0n D1c C8w C9j B4u C9q:Value} (A7y:K.lookup A1a=some ⟨D0n,D0v,.func (fnOf "goes_up" "Ceiling.goes_up" (C0 sU3) (B9 sU3) (A3 sU3) .none D1c C8w C9j D0b B4u C9q),C8n⟩)
   (A8n:codeIn K B4u "Ceiling.goes_up"=true)
   (A3g:keepIn K (.ref A1a)=true)
   (B0q:findIn K (.ref W3) "to_end"=some (some (.ref A2h)))
   (B1z:isFn K (.ref A2h)=true)
   {D6v G2h:Option Addr} {G0a:Array (Option Value)} {D8s G0m D9y G3a B7d G4b:Value} (B1m:K.lookup A2h=some ⟨D8s,D6v,.func (fnOf "to_end" "Ceiling.to_end" (C0 sT3) (B9 sT3) (A3 sT3) .none G0m D9y G3a G2h B7d G4b),G0a⟩)
   (B1f:codeIn K B7d "Ceiling.to_end"=true)
   (A4v:keepIn K (.ref A2h)=true)
   (A7m:findIn K (.ref W4) "goes_up"=some (some (.ref A1c)))
   (A7f:isFn K (.ref A1c)=true)
   {C8y C9k:Option Addr} {C8s:Array (Option Value)} {D0d D1j D0c D0r B4r D0a:Value} (A8w:K.lookup A1c=some ⟨D0d,C8y,.func (fnOf "goes_up" "HalfUp.goes_up" (C0 sU4) (B9 sU4) (A3 sU4) .none D1j D0c D0r C9k B4r D0a),C8s⟩)
   (A7b:codeIn K B4r "HalfUp.goes_up"=true)
   (A3d:keepIn K (.ref A1c)=true)
   (B2p:findIn K (.ref W4) "to_end"=some (some (.ref A2t)))
   (B1x:isFn K (.ref A2t)=true)
   {D9h D8f:Option Addr} {G3e:Array (Option Value)} {G3c G4w G4x G3t B6x G5e:Value} (B2r:K.lookup A2t=some ⟨G3c,D9h,.func (fnOf "to_end" "HalfUp.to_end" (C0 sT4) (B9 sT4) (A3 sT4) .none G4w G4x G3t D8f B6x G5e),G3e⟩)
   (B0g:codeIn K B6x "HalfUp.to_end"=true)
   (A5d:keepIn K (.ref A2t)=true)
   (A7u:findIn K (.ref W5) "goes_up"=some (some (.ref A0y)))
   (A8r:isFn K (.ref A0y)=true)
   {C9w D0s:Option Addr} {C9e:Array (Option Value)} {C8p C9y D0e D0k B4w D0t:Value} (A8j:K.lookup A0y=some ⟨C8p,C9w,.func (fnOf "goes_up" "HalfDown.goes_up" (C0 sU5) (B9 sU5) (A3 sU5) .none C9y D0e D0k D0s B4w D0t),C9e⟩)
   (A7e:codeIn K B4w "HalfDown.goes_up"=true)
   (A3f:keepIn K (.ref A0y)=true)
   (B3a:findIn K (.ref W5) "to_end"=some (some (.ref A2q)))
   (B2g:isFn K (.ref A2q)=true)
   {D8t G4q:Option Addr} {G2m:Array (Option Value)} {D7p G4a D9e G0g B7p D7m:Value} (B2e:K.lookup A2q=some ⟨D7p,D8t,.func (fnOf "to_end" "HalfDown.to_end" (C0 sT5) (B9 sT5) (A3 sT5) .none G4a D9e G0g G4q B7p D7m),G2m⟩)
   (B0p:codeIn K B7p "HalfDown.to_end"=true)
   (A5a:keepIn K (.ref A2q)=true)
   (A7w:findIn K (.ref W6) "goes_up"=some (some (.ref A0u)))
   (A9d:isFn K (.ref A0u)=true)
   {C8u D1m:Option Addr} {D0j:Array (Option Value)} {D0w C8m C9z C9u B4t C9t:Value} (A7p:K.lookup A0u=some ⟨D0w,C8u,.func (fnOf "goes_up" "HalfEven.goes_up" (C0 sU6) (B9 sU6) (A3 sU6) .none C8m C9z C9u D1m B4t C9t),D0j⟩)
   (A8k:codeIn K B4t "HalfEven.goes_up"=true)
   (A3j:keepIn K (.ref A0u)=true)
   (B1g:findIn K (.ref W6) "to_end"=some (some (.ref A2p)))
   (B1j:isFn K (.ref A2p)=true)
   {D6t G3m:Option Addr} {D7k:Array (Option Value)} {G5f G0t D7j G2s B7k D7y:Value} (B3b:K.lookup A2p=some ⟨G5f,D6t,.func (fnOf "to_end" "HalfEven.to_end" (C0 sT6) (B9 sT6) (A3 sT6) .none G0t D7j G2s G3m B7k D7y),D7k⟩)
   (B3g:codeIn K B7k "HalfEven.to_end"=true)
   (A5e:keepIn K (.ref A2p)=true)
   (A8m:findIn K (.ref W7) "goes_up"=some (some (.ref A0v)))
   (A9b:isFn K (.ref A0v)=true)
   {C9r D1a:Option Addr} {C8z:Array (Option Value)} {D0x C9n C8v D1k B4s C9v:Value} (A9c:K.lookup A0v=some ⟨D0x,C9r,.func (fnOf "goes_up" "FiveUp.goes_up" (C0 sU7) (B9 sU7) (A3 sU7) .none C9n C8v D1k D1a B4s C9v),C8z⟩)
   (A7c:codeIn K B4s "FiveUp.goes_up"=true)
   (A3e:keepIn K (.ref A0v)=true)
   (B1p:findIn K (.ref W7) "to_end"=some (some (.ref A2n)))
   (B0e:isFn K (.ref A2n)=true)
   {D9p D9u:Option Addr} {G3p:Array (Option Value)} {D6s G0p G4r G2k B7c G0s:Value} (B2z:K.lookup A2n=some ⟨D6s,D9p,.func (fnOf "to_end" "FiveUp.to_end" (C0 sT7) (B9 sT7) (A3 sT7) .none G0p G4r G2k D9u B7c G0s),G3p⟩)
   (B2v:codeIn K B7c "FiveUp.to_end"=true)
   (A4w:keepIn K (.ref A2n)=true)
   (Z6k:nsIn K mainGlobals "Context"=some (some (.ref CC)))
   (V8s:plainGet K CC Str.empty=true)
   (Y6b:hasDictIn K CC=true)
   (Y4p:plainOver K CC=true)
   (V4v:findIn K (.ref CC) "__setattr__"=some (some (.builtin "object.__setattr__")))
   (V4g:makesIn K CC=true)
   (V9x:keepIn K (.ref CC)=true)
   (B8v:findIn K (.ref CC) "room"=some none)
   (C1w:findIn K (.ref CC) "rule"=some none)
   (B6f:findIn K (.ref CC) "least"=some none)
   (C0e:findIn K (.ref CC) "most"=some none)
   (B5z:findIn K (.ref CC) "risen"=some none)
   (A8g:findIn K (.ref CC) "trapped"=some none)
   (Y2u:findIn K (.ref CC) "__init__"=some (some (.ref C7q)))
   (Y2r:isFn K (.ref C7q)=true)
   {Z7w J5u:Option Addr} {Z8a:Array (Option Value)} {Z7b J7m J8a J5a D8n J2t:Value} (Y3w:K.lookup C7q=some ⟨Z7b,Z7w,.func (fnOf "__init__" "Context.__init__" (C0 Y8) (B9 Y8) (A3 Y8) (.ref U3n) J7m J8a J5a J5u D8n J2t),Z8a⟩)
   (V5p:codeIn K D8n "Context.__init__"=true)
   (V3z:keepIn K (.ref C7q)=true)
   {dw dy Z4a:Tok} {dz:Nat} {Z8g:Option Addr} {Z7h:Value} {Z8d:Array (Option Value)} (U2w:K.lookup U3n=some ⟨Z7h,Z8g,.seq #[.int 9 dw,.str "half even" dy,.none,.int 60 Z4a] dz,Z8d⟩)
   (B6b:findIn K (.ref CC) "flags"=some (some (.ref A4j)))
   (B5u:isFn K (.ref A4j)=true)
   {G8j G7e:Option Addr} {G8v:Array (Option Value)} {G7b G7u G7f G9b C2k G7d:Value} (B5s:K.lookup A4j=some ⟨G7b,G8j,.func (fnOf "flags" "Context.flags" (C0 A3p) (B9 A3p) (A3 A3p) .none G7u G7f G9b G7e C2k G7d),G8v⟩)
   (B5x:codeIn K C2k "Context.flags"=true)
   (A8y:keepIn K (.ref A4j)=true)
   (B2u:findIn K (.ref CC) "lowest"=some (some (.ref A2r)))
   (B1k:isFn K (.ref A2r)=true)
   {G4v D8r:Option Addr} {D6e:Array (Option Value)} {D9r D8p D7e G1c B7h G4f:Value} (B0h:K.lookup A2r=some ⟨D9r,G4v,.func (fnOf "lowest" "Context.lowest" (C0 B3v) (B9 B3v) (A3 B3v) .none D8p D7e G1c D8r B7h G4f),D6e⟩)
   (B1c:codeIn K B7h "Context.lowest"=true)
   (A4z:keepIn K (.ref A2r)=true)
   (C5e:findIn K (.ref CC) "way"=some (some (.ref B2x)))
   (C5v:isFn K (.ref B2x)=true)
   {U8e U7v:Option Addr} {U9m:Array (Option Value)} {U7q U7s U6w U7z D3e U6c:Value} (C6q:K.lookup B2x=some ⟨U7q,U8e,.func (fnOf "way" "Context.way" (C0 B3r) (B9 B3r) (A3 B3r) .none U7s U6w U7z U7v D3e U6c),U9m⟩)
   (C7n:codeIn K D3e "Context.way"=true)
   (B7m:keepIn K (.ref B2x)=true)
   (B2j:findIn K (.ref CC) "raised"=some (some (.ref A2g)))
   (B0f:isFn K (.ref A2g)=true)
   {G0b G3n:Option Addr} {D9b:Array (Option Value)} {G4s G2g G0k D7h B7j G4d:Value} (B1u:K.lookup A2g=some ⟨G4s,G0b,.func (fnOf "raised" "Context.raised" (C0 A1m) (B9 A1m) (A3 A1m) .none G2g G0k D7h G3n B7j G4d),D9b⟩)
   (B2q:codeIn K B7j "Context.raised"=true)
   (A5f:keepIn K (.ref A2g)=true)
   (Z6r:nsIn K mainGlobals "Ratio"=some (some (.ref CQ)))
   (Y6c:plainGet K CQ Str.empty=true)
   (V6g:hasDictIn K CQ=true)
   (V5n:plainOver K CQ=true)
   (Y4c:findIn K (.ref CQ) "__setattr__"=some (some (.builtin "object.__setattr__")))
   (V4j:makesIn K CQ=true)
   (Y6a:keepIn K (.ref CQ)=true)
   (V4a:findIn K (.ref CQ) "__class__"=some (some (.builtin "object.__class__")))
   (Y5n:mroIn K CQ (.type "object")=some true)
   (C7b:findIn K (.ref CQ) "top"=some none)
   (B2d:findIn K (.ref CQ) "bottom"=some none)
   (B5r:findIn K (.ref CQ) "power"=some none)
   (V7e:findIn K (.ref CQ) "__init__"=some (some (.ref D3m)))
   (V9z:isFn K (.ref D3m)=true)
   {Z8m Y2e:Option Addr} {Z8k:Array (Option Value)} {Z7v Y4b Y6m Y4k J2p V6h:Value} (Y3a:K.lookup D3m=some ⟨Z7v,Z8m,.func (fnOf "__init__" "Ratio.__init__" (C0 A6n) (B9 A6n) (A3 A6n) (.ref Y3e) Y4b Y6m Y4k Y2e J2p V6h),Z8k⟩)
   (Y0k:codeIn K J2p "Ratio.__init__"=true)
   (Y5c:keepIn K (.ref D3m)=true)
   {Z3z:Tok} {d_:Nat} {Z6p:Option Addr} {Z7n:Value} {Z8p:Array (Option Value)} (G7a:K.lookup Y3e=some ⟨Z7n,Z6p,.seq #[.int 0 Z3z] d_,Z8p⟩)
   (B6e:findIn K (.ref CQ) "first"=some (some (.ref A1n)))
   (B5n:isFn K (.ref A1n)=true)
   {G7t G8d:Option Addr} {G7j:Array (Option Value)} {G8y G9c G8q G7n C2j G8u:Value} (B5m:K.lookup A1n=some ⟨G8y,G7t,.func (fnOf "first" "Ratio.first" (C0 A3w) (B9 A3w) (A3 A3w) .none G9c G8q G7n G8d C2j G8u),G7j⟩)
   (B6d:codeIn K C2j "Ratio.first"=true)
   (A8f:keepIn K (.ref A1n)=true)
   (D6f:findIn K (.ref CQ) "at"=some (some (.ref B4c)))
   (D5h:isFn K (.ref B4c)=true)
   {Y5h Y2d:Option Addr} {Y5f:Array (Option Value)} {V6d V8q Y0n Y0g G7z Y1j:Value} (G2r:K.lookup B4c=some ⟨V6d,Y5h,.func (fnOf "at" "Ratio.at" (C0 C3m) (B9 C3m) (A3 C3m) .none V8q Y0n Y0g Y2d G7z Y1j),Y5f⟩)
   (G4g:codeIn K G7z "Ratio.at"=true)
   (C3b:keepIn K (.ref B4c)=true)
   (Z7j:nsIn K mainGlobals "Exact"=some (some (.ref CE)))
   (Y3f:kitOne K (.ref CQ) (.ref CE)=some true)
   (Z0q:nsIn K mainGlobals "BadContext"=some (some (.ref C1)))
   (Z2e:nsIn K mainGlobals "BadNumber"=some (some (.ref C2)))
   (Z1u:nsIn K mainGlobals "NoText"=some (some (.ref C3)))
   (Y9x:nsIn K mainGlobals "BadCount"=some (some (.ref C4)))
   (Z2s:nsIn K mainGlobals "Trapped"=some (some (.ref C5)))
   (Z6m:nsIn K mainGlobals "ReckonError"=some (some (.ref CR)))
   (cty:typeIn K (.ref CR)=some (.type "type"))
   {dR:ClassData} (ccl:clsIn K CR=some dR)
   (cex:subIn K (.ref CR) (.type "BaseException")=some true)
   (sub5:subIn K (.ref C5) (.ref CR)=some true)
   (xga5:findIn K (.ref C5) "__getattribute__"=some (some (.builtin "BaseException.__getattribute__")))
   (xgh5:findIn K (.ref C5) "__getattr__"=some none)
   (xca5:findIn K (.ref C5) "__class__"=some (some (.builtin "object.__class__")))
   (xob5:mroIn K C5 (.type "object")=some true)
   (xbe5:subIn K (.ref C5) (.type "BaseException")=some true)
   {d5:ClassData} (xcl5:clsIn K C5=some d5)
   (ip:kitOne K (.ref C5) (.ref C1)=some false)
   (iq:kitOne K (.ref C5) (.ref C2)=some false)
   (ir:kitOne K (.ref C5) (.ref C3)=some false)
   (iu:kitOne K (.ref C5) (.ref C4)=some false)
   (iv:kitOne K (.ref C5) (.ref C5)=some true)
   (hv5:kitOne K (.ref C5) (.type "ValueError")=some true)
   {nmT qT:Str} {NT:Addr} {bsT bmT:List Value} {snT:List Str} {suT:List Value} {abT:Bool} {coT:Option Bool} {ddT:Option Addr} {kT0 kT1 kT2 kT3 kT5:Option Value} (lT:K.lookup C5=some (excClassObj nmT qT C5 NT bsT bmT true snT suT abT coT ddT kT0 kT1 kT2 kT3 kT5 "ValueError.__new__"))
   {ocN:Value} {odN:Option Addr} {esN:Array DictEntry} {epN:Nat} {slN:Array (Option Value)} (lN:K.lookup NT=some ⟨ocN,odN,.dict esN epN,slN⟩)
   (alN:(esN.all fun e=>match e.key with| .str _ _=>true|_=>false)=true)
   (niT:nsIn K NT "__init__"=some (some (.ref fX)))
   {nmU qU:Str} {NU:Addr} {bsU:List Value} {snU:List Str} {suU:List Value} {abU:Bool} {coU:Option Bool} {ddU:Option Addr} {kU0 kU1 kU2 kU3 kU5:Option Value} (lT1:K.lookup C1=some (excClassObj nmU qU C1 NU bsU bmT true snU suU abU coU ddU kU0 kU1 kU2 kU3 kU5 "ValueError.__new__"))
   (saT:findIn K (.ref C5) "__setattr__"=some (some (.builtin "object.__setattr__")))
   (nsg5:findIn K (.ref C5) "signal"=some none)
   {eg eh:Option Addr} {ek:Array (Option Value)} {Z4b em eu ez Z3y e_:Value} (Z0u:K.lookup fX=some ⟨Z4b,eg,.func (fnOf "__init__" "Trapped.__init__" (C0 B3u) (B9 B3u) (A3 B3u) .none em eu ez eh Z3y e_),ek⟩)
   (Z6u:codeIn K Z3y "Trapped.__init__"=true)
   (Z7r:keepIn K (.ref fX)=true)
   (fcT:Z4b= .type "function")
   (kTR:kitOne K (.ref C5) (.ref CR)=some true)
   (q1:excIn K C1 [.type "ValueError",.type "Exception",.type "BaseException",.type "object"] "ValueError.__new__"=true)
   (q2:excIn K C2 [.type "ValueError",.type "Exception",.type "BaseException",.type "object"] "ValueError.__new__"=true)
   (q3:excIn K C3 [.type "ValueError",.type "Exception",.type "BaseException",.type "object"] "ValueError.__new__"=true)
   (q4:excIn K C4 [.type "ValueError",.type "Exception",.type "BaseException",.type "object"] "ValueError.__new__"=true)
   (a_S:nsIn K mainGlobals "SIGNALS"=some (some (.ref aS)))
   {u0 u1 u2 u3 u4 u5 u6:Tok} {nS:Nat} {odS:Option Addr} {slS:Array (Option Value)} (lS:K.lookup aS=some ⟨.type "tuple",odS,.seq #[.str "void" u0,.str "split" u1,.str "burst" u2,.str "sunk" u3,.str "faint" u4,.str "off" u5,.str "cut" u6] nS,slS⟩)
   (B0m:kitOne K (.type "NoneType") (.ref CN)=some false)
   (J9s:kitOne K (.type "int") (.ref CN)=some false)
   (J4u:kitOne K (.type "str") (.ref CN)=some false)
   (G1v:kitOne K (.type "bool") (.ref CN)=some false)
   (C7r:kitOne K (.type "tuple") (.ref CN)=some false)
   (G3k:kitOne K (.type "list") (.ref CN)=some false)
   (D6h:kitOne K (.type "dict") (.ref CN)=some false)
   (sub2:subIn K (.ref C2) (.ref CR)=some true)
   (xga2:findIn K (.ref C2) "__getattribute__"=some (some (.builtin "BaseException.__getattribute__")))
   (xgh2:findIn K (.ref C2) "__getattr__"=some none)
   (xca2:findIn K (.ref C2) "__class__"=some (some (.builtin "object.__class__")))
   (xob2:mroIn K C2 (.type "object")=some true)
   (xbe2:subIn K (.ref C2) (.type "BaseException")=some true)
   {d2:ClassData} (xcl2:clsIn K C2=some d2)
   (Z6v:kitOne K (.ref C2) (.ref C1)=some false)
   (Z6j:kitOne K (.ref C2) (.ref C2)=some true)
   (Z7z:kitOne K (.ref C2) (.ref C3)=some false)
   (Z6n:kitOne K (.ref C2) (.ref C4)=some false)
   (Z7d:kitOne K (.ref C2) (.ref C5)=some false)
   (hv2:kitOne K (.ref C2) (.type "ValueError")=some true)
   (hcode:G2p= .ref cc):
   ∃fd:FuncData,(∀(s:Shared) (v:Value),BindsTo s fd ⟨[v],[]⟩ [("_law_script",v)])/\∀base:Heap,K.In base ->base.Ns mainGlobals mg ->LamB mg base cc P0 ->FnOkG l.prog w K mg base (CX1 l.prog w) 12 fa fd ["_law_script"] (U1w K P0):=by
 have e:=hfa.symm.trans (mg_of X G U3a)
 cases e
 have C2n:=D9 (ps:=["whole","count"]) (st:=A0d) X G B1q B0n B0k B0w fun _ _ _ _ _ _ us hl=>match us,hl with| [_,_],_=>rfl
 have A1x:=D9 (ps:=["count"]) (st:=Z9) X G G0h G0v G5c G3f fun _ _ _ _ _ _ us hl=>match us,hl with| [_],_=>rfl
 have G8h:=D9 (ps:=["size","middle"]) (st:=A6w) X G C5z C5t C5b C7e fun _ _ _ _ _ _ us hl=>match us,hl with| [_,_],_=>rfl
 have U3m:=D9 (ps:=["whole"]) (st:=A9q) X G D7f G1k D7u G3r fun _ _ _ _ _ _ us hl=>match us,hl with| [_],_=>rfl
 have bz:=D9 (ps:=["sign","figures","power"]) (st:=B0c) X G G1m D6c G2n D6w fun _ _ _ _ _ _ us hl=>match us,hl with| [_,_,_],_=>rfl
 have bj:=D9 (ps:=["sign"]) (st:=C8a) X G V7g Y2z V6v Y2m fun _ _ _ _ _ _ us hl=>match us,hl with| [_],_=>rfl
 have aa:=D9 (ps:=[]) (st:=V8) X G C0p B9h C0w C0m fun _ _ _ _ _ _ us hl=>match us,hl with| [],_=>rfl
 have cy:=D9 (ps:=["number"]) (st:=C4n) X G U0p J3d J1x J1z fun _ _ _ _ _ _ us hl=>match us,hl with| [_],_=>rfl
 have Y4u:=D9 (ps:=["number"]) (st:=C3g) X G J2k J4x J8t J6t fun _ _ _ _ _ _ us hl=>match us,hl with| [_],_=>rfl
 have C3a:=D9 (ps:=["thing"]) (st:=A6v) X G G1n D5n D8w G1x fun _ _ _ _ _ _ us hl=>match us,hl with| [_],_=>rfl
 have A0g:=D9 (ps:=["things"]) (st:=A0c) X G B6a B5y B5h B5p fun _ _ _ _ _ _ us hl=>match us,hl with| [_],_=>rfl
 have A7z:=D9 (ps:=["numbers","kind"]) (st:=A2u) X G D7n G2q G2b G1d fun _ _ _ _ _ _ us hl=>match us,hl with| [_,_],_=>rfl
 have A6h:=D9 (ps:=["one","other"]) (st:=A0t) X G C5w C6r C6y C7u fun _ _ _ _ _ _ us hl=>match us,hl with| [_,_],_=>rfl
 have B4f:=D9 (ps:=["number","power"]) (st:=A0s) X G C0q C1r B8t C0y fun _ _ _ _ _ _ us hl=>match us,hl with| [_,_],_=>rfl
 have Y1z:=D9 (ps:=["thing","least","most"]) (st:=C8g) X G V8u Y4x V8w V5g fun _ _ _ _ _ _ us hl=>match us,hl with| [_,_,_],_=>rfl
 have D3k:=D9 (ps:=["thing","least","most"]) (st:=A2a) X G B9z C1b C0b B8z fun _ _ _ _ _ _ us hl=>match us,hl with| [_,_,_],_=>rfl
 have ag:=D9 (ps:=["context","sign","exact","ideal"]) (st:=Z4) X G B9b C0h C1y C0s fun _ _ _ _ _ _ us hl=>match us,hl with| [_,_,_,_],_=>rfl
 have G8r:=D9 (ps:=["context","exact"]) (st:=A4r) X G C4y C5q C7k C6z fun _ _ _ _ _ _ us hl=>match us,hl with| [_,_],_=>rfl
 have D3a:=D9 (ps:=["ideal","sign","figures","power"]) (st:=A2c) X G B9p B9x B9u C0u fun _ _ _ _ _ _ us hl=>match us,hl with| [_,_,_,_],_=>rfl
 have aw:=D9 (ps:=["context","sign","pair"]) (st:=Z3) X G B3h B0j B2w B3m fun _ _ _ _ _ _ us hl=>match us,hl with| [_,_,_],_=>rfl
 have G7h:=D9 (ps:=["context","sign","figures","power"]) (st:=A4q) X G C5s C7j C6j C6h fun _ _ _ _ _ _ us hl=>match us,hl with| [_,_,_,_],_=>rfl
 have G8e:=D9 (ps:=["context","number"]) (st:=A4p) X G C7t C7v C5d C5y fun _ _ _ _ _ _ us hl=>match us,hl with| [_,_],_=>rfl
 have cm:=D9 (ps:=["context","sign"]) (st:=B0b) X G G3h D6p D7v G0f fun _ _ _ _ _ _ us hl=>match us,hl with| [_,_],_=>rfl
 have cn:=D9 (ps:=["context","sign"]) (st:=A9p) X G D5v D8q G4k D5t fun _ _ _ _ _ _ us hl=>match us,hl with| [_,_],_=>rfl
 have D3c:=D9 (ps:=["part","is_cut"]) (st:=A4b) X G B8y C0z C1h B9m fun _ _ _ _ _ _ us hl=>match us,hl with| [_,_],_=>rfl
 have D3b:=D9 (ps:=["context","lead","part"]) (st:=A3x) X G B9k C0r C1s B8p fun _ _ _ _ _ _ us hl=>match us,hl with| [_,_,_],_=>rfl
 have ae:=D9 (ps:=["context","sign","ideal"]) (st:=Z5) X G C5g C6m C5j C5h fun _ _ _ _ _ _ us hl=>match us,hl with| [_,_,_],_=>rfl
 have ai:=D9 (ps:=["context"]) (st:=A9s) X G J7u J4g J4n J9m fun _ _ _ _ _ _ us hl=>match us,hl with| [_],_=>rfl
 have U2v:=D9 (ps:=["context","sign"]) (st:=B5g) X G D6u G4n D9t D5q fun _ _ _ _ _ _ us hl=>match us,hl with| [_,_],_=>rfl
 have ak:=D9 (ps:=["context","number"]) (st:=A2b) X G B9f C1u C0f B8w fun _ _ _ _ _ _ us hl=>match us,hl with| [_,_],_=>rfl
 have bp:=D9 (ps:=["context","one","other"]) (st:=B6w) X G U0q J5n J8q U0h fun _ _ _ _ _ _ us hl=>match us,hl with| [_,_,_],_=>rfl
 have A5b:=D9 (ps:=["context","one","other"]) (st:=Y4) X G B1v B2y B2c B2s fun _ _ _ _ _ _ us hl=>match us,hl with| [_,_,_],_=>rfl
 have B6y:=D9 (ps:=["context","one","other"]) (st:=A3b) X G C7p C6x C5n C7f fun _ _ _ _ _ _ us hl=>match us,hl with| [_,_,_],_=>rfl
 have B3e:=D9 (ps:=["one","other"]) (st:=B4p) X G J7p J4h J3n J8g fun _ _ _ _ _ _ us hl=>match us,hl with| [_,_],_=>rfl
 have C5m:=D9 (ps:=["context","one","other","ideal"]) (st:=B4m) X G J3a J9r J3j J6k fun _ _ _ _ _ _ us hl=>match us,hl with| [_,_,_,_],_=>rfl
 have A2j:=D9 (ps:=["one","other"]) (st:=Y2) X G B2b B1h B1n B1y fun _ _ _ _ _ _ us hl=>match us,hl with| [_,_],_=>rfl
 have D6n:=D9 (ps:=["name"]) (st:=A9r) X G G3v D8m D7d G1e fun _ _ _ _ _ _ us hl=>match us,hl with| [_],_=>rfl
 have c3:=D9 (ps:=["thing","least","most"]) (st:=A3y) X G C0x C1m C1t C1k fun _ _ _ _ _ _ us hl=>match us,hl with| [_,_,_],_=>rfl
 have U2s:=D9 (ps:=["names"]) (st:=B5d) X G D8h D7r D5x D6g fun _ _ _ _ _ _ us hl=>match us,hl with| [_],_=>rfl
 have U2r:=D9 (ps:=["names"]) (st:=B5b) X G D8b G0z D6a D8e fun _ _ _ _ _ _ us hl=>match us,hl with| [_],_=>rfl
 have G1u:=D9 (ps:=["_law_script","_law_k"]) (st:=B6p) X G J2v J2b J2s J4v fun _ _ _ _ _ _ us hl=>match us,hl with| [_,_],_=>rfl
 have G4u:=D9 (ps:=["_law_cell","_law_k"]) (st:=A9x) X G G3u D9q G2v D7s fun _ _ _ _ _ _ us hl=>match us,hl with| [_,_],_=>rfl
 have D5u:=D9 (ps:=["_law_count"]) (st:=B6n) X G J2m J2j J2d J8d fun _ _ _ _ _ _ us hl=>match us,hl with| [_],_=>rfl
 have V4x:=D9 (ps:=["_law_cell","_law_way"]) (st:=A1f) X G J7k J9z J9p J9e fun _ _ _ _ _ _ us hl=>match us,hl with| [_,_],_=>rfl
 have V9e:=D9 (ps:=["_law_cell"]) (st:=A4f) X G J5c J8s J9q J9b fun _ _ _ _ _ _ us hl=>match us,hl with| [_],_=>rfl
 have U2x:=D9 (ps:=["_law_one"]) (st:=B4y) X G D8y D8z D5m G2c fun _ _ _ _ _ _ us hl=>match us,hl with| [_],_=>rfl
 have U3b:=D9 (ps:=["_law_deed"]) (st:=A4d) X G G1h G5b D5r G4p fun _ _ _ _ _ _ us hl=>match us,hl with| [_],_=>rfl
 have U2z:=D9 (ps:=["_law_script"]) (st:=B5a) X G D6b G3w G2y D9x fun _ _ _ _ _ _ us hl=>match us,hl with| [_],_=>rfl
 have C6g:=D9 (ps:=["_law_one","_law_low"]) (st:=A0n) X G C5x C6v C5k C4z fun _ _ _ _ _ _ us hl=>match us,hl with| [_,_],_=>rfl
 have U3c:=D9 (ps:=["_law_one","_law_other","_law_whole","_law_left"]) (st:=A3r) X G G1z G5a G1a D6y fun _ _ _ _ _ _ us hl=>match us,hl with| [_,_,_,_],_=>rfl
 have U2p:=D9 (ps:=["_law_whole","_law_quotient"]) (st:=A4e) X G D7c G2a G1w G0j fun _ _ _ _ _ _ us hl=>match us,hl with| [_,_],_=>rfl
 have V3x:=D9 (ps:=["_law_context","_law_script"]) (st:=A4u) X G J6r J2y J1y J2z fun _ _ _ _ _ _ us hl=>match us,hl with| [_,_],_=>rfl
 have g6:=D9 (ps:=["_law_script"]) (st:=D4b) X G U3a V7u Y1d Y1g fun _ _ _ _ _ _ us hl=>match us,hl with| [_],_=>rfl
 have O:Own mg:=⟨mg_none_of X G A7v,mg_none_of X G Y3n,mg_none_of X G J3v,mg_none_of X G V3n,mg_none_of X G J7b,mg_none_of X G D9d,mg_none_of X G J5h,mg_none_of X G V6u,mg_none_of X G G3d,mg_none_of X G V8f,mg_none_of X G V8b,mg_none_of X G Y5z,mg_none_of X G Y5e,mg_none_of X G Y4m,mg_none_of X G V4k,mg_none_of X G U0m,mg_none_of X G B1e,mg_none_of X G B5k,mg_none_of X G V9p,mg_none_of X G C5r,mg_none_of X G C6s,mg_none_of X G V3k,mg_none_of X G A7k⟩
 have T:Kit K:=⟨B6c,B3n,B5w,B0s,A7q,B2h,B1a,A8h,B3f,A9f,A5p,A7d,B5j,B2t,B5v,B0u,A7t,B1w,B1t,A8u,B2f,A9g,A1w,A7j,A8q,A5r,A7x,A5n,A4k,A5s,B0r,A7h,B2m,A9e,A5q,A8z,A2v,A1r,A2w,A1p,A0w,A1q⟩
 have g7:Cls K W0:=⟨V3t,V4h,Y3j,Y4a⟩
 have g8:Mk0 K W0:=⟨Y0w,V8d,Y5t⟩
 have c4:=U5 (st:=sN0) B9t C0c B4d
 have U9k:=c4.binds (ps:=["self"]) fun _ _ _ _ _ _ us hl=>match us,hl with| [_],_=>rfl
 have J4e:Meth K W0 "name" A6k:=⟨B8q,C1c,B4d⟩
 have WC0:WayC K mg "Down" W0 CW:=⟨mg_of X G Z8r,g7,g8,V4y,sn,tk,V5u,V9y⟩
 have g9:Cls K W1:=⟨Y3c,Y0f,V8n,Y3b⟩
 have gb:Mk0 K W1:=⟨V9n,Y1c,Y5k⟩
 have c5:=U5 (st:=sN1) B9q C1g B4e
 have U7d:=c5.binds (ps:=["self"]) fun _ _ _ _ _ _ us hl=>match us,hl with| [_],_=>rfl
 have J8f:Meth K W1 "name" A6g:=⟨C1x,C1d,B4e⟩
 have WC1:WayC K mg "Up" W1 CW:=⟨mg_of X G Z6g,g9,gb,Y1a,sn,tk,V4u,V3f⟩
 have gc:Cls K W2:=⟨Y1q,Y2f,V7s,V9f⟩
 have gd:Mk0 K W2:=⟨Y2x,V8g,Y3g⟩
 have c6:=U5 (st:=sN2) B8x B9g B4h
 have U9a:=c6.binds (ps:=["self"]) fun _ _ _ _ _ _ us hl=>match us,hl with| [_],_=>rfl
 have J8w:Meth K W2 "name" A6j:=⟨C1p,B9e,B4h⟩
 have WC2:WayC K mg "Floor" W2 CW:=⟨mg_of X G Z6x,gc,gd,V7y,sn,tk,Y4n,V5c⟩
 have gi:Cls K W3:=⟨V3s,Y0t,V5b,V9u⟩
 have gj:Mk0 K W3:=⟨Y3t,Y2q,Y0m⟩
 have c7:=U5 (st:=sN3) B8u C1f B3z
 have U7w:=c7.binds (ps:=["self"]) fun _ _ _ _ _ _ us hl=>match us,hl with| [_],_=>rfl
 have U0f:Meth K W3 "name" A6c:=⟨B9n,C1q,B3z⟩
 have WC3:WayC K mg "Ceiling" W3 CW:=⟨mg_of X G Z7a,gi,gj,V9b,sn,tk,Y2a,Y6f⟩
 have gk:Cls K W4:=⟨V5d,V4w,Y3y,V3q⟩
 have gl:Mk0 K W4:=⟨Y2g,V8h,Y1t⟩
 have c8:=U5 (st:=sN4) B8r C1e B4b
 have U8f:=c8.binds (ps:=["self"]) fun _ _ _ _ _ _ us hl=>match us,hl with| [_],_=>rfl
 have J6u:Meth K W4 "name" A6d:=⟨B9w,B9s,B4b⟩
 have WC4:WayC K mg "HalfUp" W4 CW:=⟨mg_of X G Z6h,gk,gl,Y4w,sn,tk,V4q,V4t⟩
 have gm:Cls K W5:=⟨Y6e,V7z,V4f,V8p⟩
 have gn:Mk0 K W5:=⟨Y1f,V3p,V8x⟩
 have c9:=U5 (st:=sN5) B9c C0a B4g
 have U7u:=c9.binds (ps:=["self"]) fun _ _ _ _ _ _ us hl=>match us,hl with| [_],_=>rfl
 have J5q:Meth K W5 "name" A6m:=⟨C1n,C1j,B4g⟩
 have WC5:WayC K mg "HalfDown" W5 CW:=⟨mg_of X G Z8n,gm,gn,V5h,sn,tk,Y4h,Y3r⟩
 have gp:Cls K W6:=⟨Y6j,Y1x,V5f,Y0v⟩
 have gq:Mk0 K W6:=⟨Y4z,V7w,Y0d⟩
 have cb:=U5 (st:=sN6) B9j B8n B3y
 have U8p:=cb.binds (ps:=["self"]) fun _ _ _ _ _ _ us hl=>match us,hl with| [_],_=>rfl
 have J5w:Meth K W6 "name" A6e:=⟨C1z,B9a,B3y⟩
 have WC6:WayC K mg "HalfEven" W6 CW:=⟨mg_of X G Z8c,gp,gq,V7h,sn,tk,V3j,V9v⟩
 have gr:Cls K W7:=⟨V6k,Y0s,V3u,V5r⟩
 have gs:Mk0 K W7:=⟨V9q,V5t,V5y⟩
 have cg:=U5 (st:=sN7) C0k C0v B4a
 have U6t:=cg.binds (ps:=["self"]) fun _ _ _ _ _ _ us hl=>match us,hl with| [_],_=>rfl
 have J7s:Meth K W7 "name" A6f:=⟨B9r,C2a,B4a⟩
 have WC7:WayC K mg "FiveUp" W7 CW:=⟨mg_of X G Z7g,gr,gs,Y5y,sn,tk,V4z,V6t⟩
 let cw:Wy ->Addr:=fun y=>match y with| .down=>W0| .up=>W1| .floor=>W2| .ceiling=>W3| .halfUp=>W4| .halfDown=>W5| .halfEven=>W6| .fiveUp=>W7
 have W:∀y:Wy,WayC K mg y.cls (cw y) CW:=fun y=>match y with| .down=>WC0| .up=>WC1| .floor=>WC2| .ceiling=>WC3| .halfUp=>WC4| .halfDown=>WC5| .halfEven=>WC6| .fiveUp=>WC7
 have gt:Cls K CN:=⟨Y0h,V5a,Y0e,V7b⟩
 have d8:=U5 (st:=D2k) V4r V4b Y5x
 have gu:=d8.binds (ps:=["self","kind","sign","figures","power"]) fun _ _ _ _ _ _ us hl=>match us,hl with| [_,_,_,_,_],_=>rfl
 have gv:Mk K CN D2z:=⟨V9s,V6w,V9t,Y1m⟩
 have N:Num K mg CN:=⟨mg_of X G Z7u,gt,B9y,C0g,A8s,B5t,V5v,sn,tk,Y0q,G1s⟩
 have al:=U5 (st:=sU0) A8p A7n A3k
 have D9v:=al.binds (ps:=["self","sign","last","part"]) fun _ _ _ _ _ _ us hl=>match us,hl with| [_,_,_,_],_=>rfl
 have D0y:Meth K W0 "goes_up" A0x:=⟨A8v,A9a,A3k⟩
 have ax:=U5 (st:=sT0) B3d B3k A4x
 have G6y:=ax.binds (ps:=["self","sign"]) fun _ _ _ _ _ _ us hl=>match us,hl with| [_,_],_=>rfl
 have G1f:Meth K W0 "to_end" A2s:=⟨B2k,B0t,A4x⟩
 have am:=U5 (st:=sU1) A8t A8c A3m
 have G3g:=am.binds (ps:=["self","sign","last","part"]) fun _ _ _ _ _ _ us hl=>match us,hl with| [_,_,_,_],_=>rfl
 have C9a:Meth K W1 "goes_up" A0z:=⟨A8e,A7g,A3m⟩
 have ay:=U5 (st:=sT1) B0y B3j A4y
 have G8n:=ay.binds (ps:=["self","sign"]) fun _ _ _ _ _ _ us hl=>match us,hl with| [_,_],_=>rfl
 have D8j:Meth K W1 "to_end" A2m:=⟨B3c,B0v,A4y⟩
 have ao:=U5 (st:=sU2) A8b A8a A3h
 have D6j:=ao.binds (ps:=["self","sign","last","part"]) fun _ _ _ _ _ _ us hl=>match us,hl with| [_,_,_,_],_=>rfl
 have C9g:Meth K W2 "goes_up" A1b:=⟨A8x,A7s,A3h⟩
 have az:=U5 (st:=sT2) B0z B2n A5c
 have G6x:=az.binds (ps:=["self","sign"]) fun _ _ _ _ _ _ us hl=>match us,hl with| [_,_],_=>rfl
 have D6k:Meth K W2 "to_end" A2k:=⟨B0x,B1r,A5c⟩
 have ap:=U5 (st:=sU3) A7y A8n A3g
 have D7g:=ap.binds (ps:=["self","sign","last","part"]) fun _ _ _ _ _ _ us hl=>match us,hl with| [_,_,_,_],_=>rfl
 have C9x:Meth K W3 "goes_up" A1a:=⟨A8d,A7r,A3g⟩
 have a_:=U5 (st:=sT3) B1m B1f A4v
 have G7g:=a_.binds (ps:=["self","sign"]) fun _ _ _ _ _ _ us hl=>match us,hl with| [_,_],_=>rfl
 have G1g:Meth K W3 "to_end" A2h:=⟨B0q,B1z,A4v⟩
 have aq:=U5 (st:=sU4) A8w A7b A3d
 have G4j:=aq.binds (ps:=["self","sign","last","part"]) fun _ _ _ _ _ _ us hl=>match us,hl with| [_,_,_,_],_=>rfl
 have D1e:Meth K W4 "goes_up" A1c:=⟨A7m,A7f,A3d⟩
 have b8:=U5 (st:=sT4) B2r B0g A5d
 have G9a:=b8.binds (ps:=["self","sign"]) fun _ _ _ _ _ _ us hl=>match us,hl with| [_,_],_=>rfl
 have D9n:Meth K W4 "to_end" A2t:=⟨B2p,B1x,A5d⟩
 have ar:=U5 (st:=sU5) A8j A7e A3f
 have G3x:=ar.binds (ps:=["self","sign","last","part"]) fun _ _ _ _ _ _ us hl=>match us,hl with| [_,_,_,_],_=>rfl
 have D0g:Meth K W5 "goes_up" A0y:=⟨A7u,A8r,A3f⟩
 have b9:=U5 (st:=sT5) B2e B0p A5a
 have G7r:=b9.binds (ps:=["self","sign"]) fun _ _ _ _ _ _ us hl=>match us,hl with| [_,_],_=>rfl
 have D9c:Meth K W5 "to_end" A2q:=⟨B3a,B2g,A5a⟩
 have au:=U5 (st:=sU6) A7p A8k A3j
 have D5w:=au.binds (ps:=["self","sign","last","part"]) fun _ _ _ _ _ _ us hl=>match us,hl with| [_,_,_,_],_=>rfl
 have C8j:Meth K W6 "goes_up" A0u:=⟨A7w,A9d,A3j⟩
 have bc:=U5 (st:=sT6) B3b B3g A5e
 have G7p:=bc.binds (ps:=["self","sign"]) fun _ _ _ _ _ _ us hl=>match us,hl with| [_,_],_=>rfl
 have D5y:Meth K W6 "to_end" A2p:=⟨B1g,B1j,A5e⟩
 have av:=U5 (st:=sU7) A9c A7c A3e
 have D5k:=av.binds (ps:=["self","sign","last","part"]) fun _ _ _ _ _ _ us hl=>match us,hl with| [_,_,_,_],_=>rfl
 have C9d:Meth K W7 "goes_up" A0v:=⟨A8m,A9b,A3e⟩
 have bg:=U5 (st:=sT7) B2z B2v A4w
 have G8s:=bg.binds (ps:=["self","sign"]) fun _ _ _ _ _ _ us hl=>match us,hl with| [_,_],_=>rfl
 have G5g:Meth K W7 "to_end" A2n:=⟨B1p,B0e,A4w⟩
 have gw:Cls K CC:=⟨V8s,Y6b,Y4p,V4v⟩
 have gx:=U1z (st:=Y8) Y3w V5p V3z
 have gy:Mk K CC C7q:=⟨V4g,Y2u,Y2r,V9x⟩
 have bu:=U5 (st:=A3p) B5s B5x A8y
 have J7a:=bu.binds (ps:=["self"]) fun _ _ _ _ _ _ us hl=>match us,hl with| [_],_=>rfl
 have G7v:Meth K CC "flags" A4j:=⟨B6b,B5u,A8y⟩
 have bh:=U5 (st:=B3v) B0h B1c A4z
 have G6t:=bh.binds (ps:=["self"]) fun _ _ _ _ _ _ us hl=>match us,hl with| [_],_=>rfl
 have D9g:Meth K CC "lowest" A2r:=⟨B2u,B1k,A4z⟩
 have ci:=U5 (st:=B3r) C6q C7n B7m
 have Y2n:=ci.binds (ps:=["self"]) fun _ _ _ _ _ _ us hl=>match us,hl with| [_],_=>rfl
 have U7p:Meth K CC "way" B2x:=⟨C5e,C5v,B7m⟩
 have bi:=U5 (st:=A1m) B1u B2q A5f
 have G6s:=bi.binds (ps:=["self","names"]) fun _ _ _ _ _ _ us hl=>match us,hl with| [_,_],_=>rfl
 have D9a:Meth K CC "raised" A2g:=⟨B2j,B0f,A5f⟩
 have gz:Cls K CQ:=⟨Y6c,V6g,V5n,Y4c⟩
 have g_:=U1z (st:=A6n) Y3a Y0k Y5c
 have h_:Mk K CQ D3m:=⟨V4j,V7e,V9z,Y6a⟩
 have bx:=U5 (st:=A3w) B5m B6d A8f
 have J5z:=bx.binds (ps:=["self"]) fun _ _ _ _ _ _ us hl=>match us,hl with| [_],_=>rfl
 have G8g:Meth K CQ "first" A1n:=⟨B6e,B5n,A8f⟩
 have cp:=U5 (st:=C3m) G2r G4g C3b
 have U3g:=cp.binds (ps:=["self","power"]) fun _ _ _ _ _ _ us hl=>match us,hl with| [_,_],_=>rfl
 have G9d:Meth K CQ "at" B4c:=⟨D6f,D5h,C3b⟩
 have xk5:ExcK K C5:=⟨xga5,xgh5,xca5,sn,tk,xob5,xbe5,by rw[xcl5];rfl⟩
 have nkT:nsOkIn K NT=true:=by unfold nsOkIn;rw[lN];exact alN
 have tlT:tailIn K U1x bmT=true:=by
   have z:=q1
   unfold excIn at z
   rw[lT1] at z
   simp only[excClassObj,Bool.and_eq_true] at z
   exact z.1.1.2
 have d9:=U5 (st:=B3u) Z0u Z6u Z7r
 have i0:=d9.binds (ps:=["self","signal"]) fun _ _ _ _ _ _ us hl=>match us,hl with| [_,_],_=>rfl
 have XI5:ExcI K C5 fX:=⟨⟨_,_,_,_,_,_,_,_,_,_,_,_,_,_,_,lT,nkT,niT,tlT⟩,⟨_,Z0u,fcT⟩,saT,xob5⟩
 have SG:SigK K mg aS:=⟨mg_of X G a_S,⟨_,lS,rfl⟩,fun H=> .inr ⟨_,_,_,lS,rfl,rfl,D8 (by show 7<=1000;decide),.cons ⟨_,rfl⟩ (.cons ⟨_,rfl⟩ (.cons ⟨_,rfl⟩ (.cons ⟨_,rfl⟩ (.cons ⟨_,rfl⟩ (.cons ⟨_,rfl⟩ (.cons ⟨_,rfl⟩ (.nil)))))))⟩⟩
 have O4:Own4 K CN:=⟨B0m,J9s,J4u,G1v,C7r,G3k,D6h,A1w⟩
 have xk2:ExcK K C2:=⟨xga2,xgh2,xca2,sn,tk,xob2,xbe2,by rw[xcl2];rfl⟩
 have C:CtxC K mg CC:=⟨mg_of X G Z6k,gw,B8v,C1w,B6f,C0e,B5z,A8g⟩
 have B1:Err K mg "BadContext" C1:=⟨mg_of X G Z0q,q1⟩
 have B2:Err K mg "BadNumber" C2:=⟨mg_of X G Z2e,q2⟩
 have B3:Err K mg "NoText" C3:=⟨mg_of X G Z1u,q3⟩
 have B4:Err K mg "BadCount" C4:=⟨mg_of X G Y9x,q4⟩
 have R:RatC K mg CQ CE:=⟨mg_of X G Z6r,mg_of X G Z7j,gz,C7b,B2d,B5r,V4a,sn,tk,Y5n,Y3f⟩
 have b4:=D3x (fd:=fnOf "__init__" "Context.__init__" (C0 Y8) (B9 Y8) (A3 Y8) (.ref U3n) J7m J8a J5a J5u D8n J2t) (ps:=["self","room","way","least","most"]) (ds:=[]) rfl U2w rfl fun us hl=>by obtain⟨a,b,c,d,e,rfl⟩:=len5 (V2m hl);exact⟨_,rfl,rfl⟩
 refine⟨fnOf "law" "law" (C0 D4b) (B9 D4b) (A3 D4b) .none Y0b Y0p V3h V5e J2h V6p,fun s v=> .of_eq rfl,fun base _ _ LB=>?_⟩
 have WN:∀y:Wy,WayN l.prog w K mg base (cw y) y.name:=fun y=>match y with| .down=>⟨_,_,J4e,Z9w c4,U9k⟩| .up=>⟨_,_,J8f,Z9t c5,U7d⟩| .floor=>⟨_,_,J8w,Z8v c6,U9a⟩| .ceiling=>⟨_,_,U0f,Z9n c7,U7w⟩| .halfUp=>⟨_,_,J6u,Z9q c8,U8f⟩| .halfDown=>⟨_,_,J5q,A0ac c9,U7u⟩| .halfEven=>⟨_,_,J5w,A0bq cb,U8p⟩| .fiveUp=>⟨_,_,J7s,Z9h cg,U6t⟩
 have U:∀y:Wy,Z9y l.prog w K mg base (cw y) y:=fun y=>match y with| .down=>⟨_,_,D0y,Z9d al,D9v⟩| .up=>⟨_,_,C9a,A0at am,G3g⟩| .floor=>⟨_,_,C9g,A0an ao,D6j⟩| .ceiling=>⟨_,_,C9x,A0av ap,D7g⟩| .halfUp=>⟨_,_,D1e,Z9s aq,G4j⟩| .halfDown=>⟨_,_,D0g,Z9k ar,G3x⟩| .halfEven=>⟨_,_,C8j,Z9m au,D5w⟩| .fiveUp=>⟨_,_,C9d,A0ax av,D5k⟩
 have E2:∀y:Wy,WayE l.prog w K mg base (cw y) y:=fun y=>match y with| .down=>⟨_,_,G1f,Z8z ax,G6y⟩| .up=>⟨_,_,D8j,Z9c ay,G8n⟩| .floor=>⟨_,_,D6k,A0ah az,G6x⟩| .ceiling=>⟨_,_,G1g,Z9b a_,G7g⟩| .halfUp=>⟨_,_,D9n,Z9j b8,G9a⟩| .halfDown=>⟨_,_,D9c,Z9e b9,G7r⟩| .halfEven=>⟨_,_,D5y,A0bp bc,G7p⟩| .fiveUp=>⟨_,_,G5g,A0be bg,G8s⟩
 have Gb:=J0n (P:=l.prog) (w:=w) (base:=base) c3 Y1z O T B1
 have Gw:=V0a (P:=l.prog) (w:=w) (base:=base) D6n O T B1 W
 have MC:MakeC l.prog w K mg base CC C1 C7q _:=⟨gy,J1d gx c3 D6n Gb Gw C W WN⟩
 have MR : MakeR l.prog w K mg base CQ D3m (fnOf "__init__" "Ratio.__init__" (C0 A6n) (B9 A6n) (A3 A6n) (.ref Y3e) Y4b Y6m Y4k Y2e J2p V6h) (.int 0 Z3z) (fun us ws=>match ws with| [a]=>us++ [a]|_=>[]) (fun us ws=>match ws with| [a]=>us++ [a]|_=>[]):=
   { m :=h_
     g:=V2c g_ R
     b3:=D3x rfl G7a rfl fun us hl=>by obtain⟨a,b,c,d,rfl⟩:=len4 (V2m hl);exact⟨_,rfl,rfl⟩
     b2:=D3x rfl G7a rfl fun us hl=>by obtain⟨a,b,c,rfl⟩:=Y7a (V2m hl);exact⟨_,rfl,rfl⟩
     r0:=⟨_,rfl⟩
     kP := ⟨(fun s us ws XK hl=>by
         rcases ws with _|⟨p,_|⟨q,t⟩⟩
         . cases hl
         . obtain⟨a,b,c,rfl⟩:=Y7a (V2m hl)
           exact binds_K XK rfl G7a rfl rfl rfl
         . cases hl),fun r z=>match z with
       | .cons a .nil=>r.append (.cons a .nil)
       | .nil=> .nil
       | .cons _ (.cons _ _)=> .nil⟩
     eP:=fun _ _ _ _=>rfl}
 have M:MakeN l.prog w K mg base CN D2z _:=⟨gv,Y8p d8 N,gu⟩
 have Gn:=V1a (P:=l.prog) (w:=w) (base:=base) U2s O T B1 SG
 have Go:=V1w (P:=l.prog) (w:=w) (base:=base) U2r SG
 have GX:=U3y (P:=l.prog) (w:=w) (mg:=mg) (base:=base) d9 XI5 nsg5
 have MF:Has l.prog w K mg base CC "flags" 1 ["self"] (A6p CC):=⟨_,_,G7v,G6m bu C O,J7a⟩
 have ML:Has l.prog w K mg base CC "lowest" 1 ["self"] (C3s CC):=⟨_,_,D9g,U4q bh C,G6t⟩
 have MW:Has l.prog w K mg base CC "way" 2 ["self"] (C3j CC cw):=⟨_,_,U7p,U5n ci D6n Gw C,Y2n⟩
 have MD:Has l.prog w K mg base CC "raised" 3 ["self","names"] (C3t K CC C1 C5):=⟨_,_,D9a,U3q bi U2s Gn U2r Go C (mg_of X G Z2s) XI5 GX i0,G6s⟩
 have CM:CtxM l.prog w K mg base CC C1 C5 CW cw:=⟨C,MW,ML,MD,W,U,E2⟩
 have cz:=G5y (P:=l.prog) (w:=w) (base:=base) C3a O T B2 N
 have dg:=Y7z (P:=l.prog) (w:=w) (base:=base) cy C3a O T B2 N
 have c_:=U9w (P:=l.prog) (w:=w) (base:=base) bz D3k Y1z O T B2 N M
 have cq:=Z5y (P:=l.prog) (w:=w) (base:=base) bj D3k Y1z O T B2 N M
 have ac:=J0p (P:=l.prog) (w:=w) (base:=base) aa N M
 have dh:=Y7q (P:=l.prog) (w:=w) (base:=base) Y4u O N
 have Gto:=V1y (P:=l.prog) (w:=w) (base:=base) A1x C2n (D4w C2n)
 have dj:=U5g (P:=l.prog) (w:=w) (base:=base) G8h
 have Gwl:=V0r (P:=l.prog) (w:=w) (base:=base) U3m A1x Gto
 have Gat:=Z4h (P:=l.prog) (w:=w) (base:=base) cp A1x Gto G8h dj R O
 have RM:RatM l.prog w K mg base CQ A1n B4c _ _:=⟨G8g,U4b bx U3m Gwl G9d Gat U3g R,J5z,G9d,Gat,U3g⟩
 have i4:=G9n (P:=l.prog) (w:=w) (base:=base) D3a N M
 have i5:=D4e (P:=l.prog) (w:=w) (base:=base) aw CM
 have i6:=U5k (P:=l.prog) (w:=w) (base:=base) G7h A1x Gto CM N M
 have i7:=U3p (P:=l.prog) (w:=w) (base:=base) G8e Y4u dh CM N
 have i8:=V0k (P:=l.prog) (w:=w) (base:=base) cn A1x Gto CM N M
 have i9:=U9z (P:=l.prog) (w:=w) (base:=base) cm cn i8 bj cq CM
 have Gsr:=J1m (P:=l.prog) (w:=w) (base:=base) D3c
 have Gsl:=G9m (P:=l.prog) (w:=w) (base:=base) D3b CM
 have b_:=U4z (P:=l.prog) (w:=w) (base:=base) ae CM N M O
 have ia:=U5q (P:=l.prog) (w:=w) (base:=base) G8r CM RM R O
 have cj:=J0q (P:=l.prog) (w:=w) (base:=base) ag G8r ia D3a i4 aw i5 G7h i6 G8e i7 cm i9 D3c Gsr D3b Gsl CM RM R N
 have ES:ErrsN mg C2 C3 C1 C4 C5:=⟨mg_of X G Z2e,mg_of X G Z1u,mg_of X G Z0q,mg_of X G Y9x,mg_of X G Z2s⟩
 have RB:CaughtN K mg CR C2 C3 C1 C4 C5:=⟨mg_of X G Z6m,⟨cty,by rw[ccl];rfl,cex⟩,sub2,⟨xk2,Z6j,Z7z,Z6v,Z6n,Z7d,hv2⟩⟩
 have Gro:=U3t (CB:=C1) (CW:=CW) (cw:=cw) (P:=l.prog) (w:=w) (base:=base) ak C3a cz ae b_ ag cj MR R N
 have b2:=D3x (fd:=fnOf "__init__" "Context.__init__" (C0 Y8) (B9 Y8) (A3 Y8) (.ref U3n) J7m J8a J5a J5u D8n J2t) (ps:=["self","room","way","least","most"]) (ds:=[.none,.int 60 Z4a]) rfl U2w rfl fun us hl=>by obtain⟨a,b,c,rfl⟩:=Y7a (V2m hl);exact⟨_,rfl,rfl⟩
 have M22:Made22 l.prog w K mg base CC C1 C7q _ _:=⟨MC,b2,.cons rfl (.cons ⟨_,rfl⟩ .nil)⟩
 have ah:=U4s (P:=l.prog) (w:=w) (base:=base) A0g C3a cz
 have aj:=V1h (P:=l.prog) (w:=w) (base:=base) A7z O N
 have Gun:=U5h (P:=l.prog) (w:=w) (base:=base) A6h N
 have Gvo:=Y7h (P:=l.prog) (w:=w) (base:=base) ai aa ac CM
 have Gsp:=V1d (P:=l.prog) (w:=w) (base:=base) U2v bj cq CM
 have cr:=Y8g (P:=l.prog) (w:=w) (base:=base) C5m A6h Gun ai Gvo bj cq ae b_ U2v Gsp N
 have Gov:=Y8b (P:=l.prog) (w:=w) (base:=base) bp A0g ah A7z aj B3e (C2u B3e N) C5m cr A6h Gun ae b_ ag cj aa ac CM N MR R
 have Gwa:=J0z (P:=l.prog) (w:=w) (base:=base) B4f A1x Gto N
 have Gwp:=D5b (P:=l.prog) (w:=w) (base:=base) A2j B4f Gwa N O
 have Gwo:=D4t (P:=l.prog) (w:=w) (base:=base) A5b A0g ah A7z aj B3e (C2u B3e N) C5m cr A6h Gun ae b_ ag cj aa ac ai Gvo A2j Gwp A1x Gto CM N MR R O
 have Gre:=U4j (P:=l.prog) (w:=w) (base:=base) B6y A0g ah A7z aj aa ac ai Gvo ak Gro A2j Gwp A1x Gto B4f Gwa CM N M O
 have ib:=G9x (P:=l.prog) (w:=w) (base:=base) bp A0g ah A7z aj B3e (C2u B3e N) C5m cr A6h Gun ae b_ ag cj aa ac CM N MR R
 have ic:=C2q (P:=l.prog) (w:=w) (base:=base) A5b A0g ah A7z aj B3e (C2u B3e N) C5m cr A6h Gun ae b_ ag cj aa ac ai Gvo A2j Gwp A1x Gto CM N MR R O
 have ie:=G9v (P:=l.prog) (w:=w) (base:=base) B6y A0g ah A7z aj aa ac ai Gvo ak Gro A2j Gwp A1x Gto B4f Gwa CM N M O
 have cu:=Y8v (P:=l.prog) (w:=w) (base:=base) G1u O
 have db:=V0q (P:=l.prog) (w:=w) (base:=base) G4u
 have cx:=Y7r (P:=l.prog) (w:=w) (base:=base) D5u O
 have dk:=G6d (P:=l.prog) (w:=w) (base:=base) V4x G4u db D5u cx O
 have du:=J0g (P:=l.prog) (w:=w) (base:=base) V9e G4u db V4x dk O
 have ig:=V0w (P:=l.prog) (w:=w) (base:=base) U2x bz c_ bj cq aa ac
 have ii:=V2z (P:=l.prog) (w:=w) (base:=base) U2z G1u cu V9e du O
 have df:=G6k (P:=l.prog) (w:=w) (base:=base) C6g D5u cx
 have ij:=J0y (P:=l.prog) (w:=w) (base:=base) U3c C6g df D5u cx O
 have ik:=G9u (P:=l.prog) (w:=w) (base:=base) U2p C6g df O
 have il:=J0w (P:=l.prog) (w:=w) (base:=base) (k:=9) U3b RB ES O
 have im:=U5f (P:=l.prog) (w:=w) (base:=base) V3x hcode LB G1u cu bz c_ aa ac U3b (TR.FnOk.toG il) bp ib A5b ic B6y ie O4 C MF
 exact Z4s g6 G1u cu V3x im U2z ii U2x ig cy dg A5b Gwo B6y Gre bp Gov U3c ij U2p ik M22 C MF O
theorem walk{cc P0:Addr}{l:OpenLaw}{q:Program}{loose:List Str}{XP:(Str ->Option Value) ->Heap ->Prop}{YP:World ->Heap ->Prop}{d:DefRec}{K:Params ->Frag}(hn:l.most=some 63)(hdf:d.params.defaults=[])
   (hY:∀(w:World) (h:Heap),YP w h ->(K w.params).In h/\CodeHd h cc P0/\h.get? P0=some (tabObj #[])) (hKP:∀p,(K p).lookup P0=none)
   (F:∀(w:World) (mg:Str ->Option Value) (fa:Addr) (h:Heap),(K w.params).In h ->h.Ns mainGlobals mg ->mg d.name=some (.ref fa) ->
     ∃fd:FuncData,(∀(s:Shared) (u:Value),BindsTo s fd ⟨[u],[]⟩ [("_law_script",u)])/\∀base:Heap,(K w.params).In base ->base.Ns mainGlobals mg ->LamB mg base cc P0 ->FnOkG l.prog w (K w.params) mg base (CX1 l.prog w) 12 fa fd ["_law_script"] ((U1w (K w.params) P0))):
   WalkO q loose XP YP l.row.toRowW d [] (fun f vs=>PySem.call f vs):=
 L2.walk_ofL (n:=63) (k:=12) (x:="_law_script") (CX:=fun w=>CX1 l.prog w) (sp:=fun w=>(U1w (K w.params) P0)) hn (by decide) hdf ⟨rfl,by decide,by decide⟩ hY hKP F (fun _ _ a ns hl hP hS=>⟨a,ns,rfl,hl,hS,hP,fun _=>rfl⟩) fun _ _ _ _ _ z=>by
   obtain⟨_,_,_,_,_,_,_,_,_,_,z,_⟩:=z
   exact z
end TR
namespace PySem.W.Fast
theorem tw6015955400760626926:True:=trivial
theorem tw3482006428424666053:True:=trivial
theorem tw13935832643785850741:True:=trivial
theorem tw5190147121676632654:True:=trivial
theorem tw8064327961810628054:True:=trivial
theorem tw7150339413500033954:True:=trivial
theorem tw3816918736016106861:True:=trivial
theorem tw12141656594985085125:True:=trivial
theorem tw16642875454898238325:True:=trivial
theorem tw18401758817256166634:True:=trivial
theorem tw5145346415429050700:True:=trivial
theorem tw6679783736565109770:True:=trivial
theorem tw14286448438724311899:True:=trivial
theorem tw7758267039184704375:True:=trivial
theorem tw16235578868105174430:True:=trivial
theorem tw2051177721006010211:True:=trivial
theorem tw9229309578409868629:True:=trivial
theorem tw7430185543954326660:True:=trivial
theorem tw17368213005087295526:True:=trivial
theorem tw5666615399899790412:True:=trivial
theorem tw11575710551242479085:True:=trivial
theorem tw8422701603840217321:True:=trivial
theorem tw1645734246993751288:True:=trivial
theorem tw1655181936034612772:True:=trivial
theorem tw6355265301032207414:True:=trivial
theorem tw1094873177200382256:True:=trivial
theorem tw3159741839846591306:True:=trivial
theorem tw8132889253018212506:True:=trivial
theorem tw18417526403928123609:True:=trivial
theorem tw180418560356672757:True:=trivial
theorem tw3774964482751544524:True:=trivial
theorem tw7990335493005166988:True:=trivial
theorem tw11713983614725817962:True:=trivial
theorem tw17687598865559137950:True:=trivial
theorem tw2758815431507497687:True:=trivial
theorem tw12989867449100848270:True:=trivial
theorem tw13478922291322311440:True:=trivial
theorem tw13068665479568820650:True:=trivial
theorem tw3540625823462908631:True:=trivial
theorem tw3333964295988143980:True:=trivial
theorem tw18206653430582504236:True:=trivial
theorem tw11418563165582058633:True:=trivial
theorem tw13668262712815078898:True:=trivial
theorem tw10065650665115706845:True:=trivial
theorem tw7688972790175375546:True:=trivial
theorem tw11562599223401942516:True:=trivial
theorem tw4752319297892825979:True:=trivial
theorem tw384799651453934546:True:=trivial
theorem tw2795831002866434824:True:=trivial
theorem tw6452238932935628678:True:=trivial
theorem tw2370317770616201950:True:=trivial
theorem tw13028341031885549591:True:=trivial
theorem tw8872332779148655006:True:=trivial
theorem tw12939224836106617586:True:=trivial
theorem tw5918075532094193039:True:=trivial
theorem tw3690036135485632619:True:=trivial
theorem tw679055888569833732:True:=trivial
theorem tw17408059167295705920:True:=trivial
theorem tw5531900480238074890:True:=trivial
theorem tw8007512872412307423:True:=trivial
theorem tw12131022355089770013:True:=trivial
theorem tw8505816691064130769:True:=trivial
theorem tw16164528508765112079:True:=trivial
theorem tw14216896027230549782:True:=trivial
theorem tw4704704534261504978:True:=trivial
theorem tw9329636806203351117:True:=trivial
theorem tw634472945453215513:True:=trivial
theorem tw2091520766661635530:True:=trivial
theorem tw13575527861206652513:True:=trivial
theorem tw5624421961595785388:True:=trivial
theorem tw12254539416846632730:True:=trivial
theorem tw10491451367079514336:True:=trivial
theorem tw1347640381547038984:True:=trivial
theorem tw13252937238475215248:True:=trivial
theorem tw5118037230908160273:True:=trivial
theorem tw15576197213931248332:True:=trivial
theorem tw13054558234550692733:True:=trivial
theorem tw1007411523921747253:True:=trivial
theorem tw10123447052617648186:True:=trivial
theorem tw7052007497108104975:True:=trivial
theorem tw14966219029913185882:True:=trivial
theorem tw13167917845649681190:True:=trivial
theorem tw5957319909082872192:True:=trivial
theorem tw13792956975180744441:True:=trivial
theorem tw12502374410277028438:True:=trivial
theorem tw7090978552883325449:True:=trivial
theorem tw3927682483108536770:True:=trivial
theorem tw4983744438166291870:True:=trivial
theorem tw6898106927854036587:True:=trivial
theorem tw7751158776385651650:True:=trivial
theorem tw902812284416753230:True:=trivial
theorem tw921026870470416474:True:=trivial
theorem tw15094104977398009388:True:=trivial
theorem tw17753466558430564546:True:=trivial
theorem tw1575367511904699359:True:=trivial
theorem tw10236024653859937732:True:=trivial
theorem tw13205557422253048708:True:=trivial
theorem tw7678346755058564810:True:=trivial
theorem tw17464810693317328326:True:=trivial
theorem tw13307974557252041398:True:=trivial
theorem tw6324732128633232187:True:=trivial
theorem tw7790347918335983614:True:=trivial
theorem tw9229280073521203040:True:=trivial
theorem tw6182825072929699948:True:=trivial
theorem tw16410822579115828015:True:=trivial
theorem tw14374785708351772984:True:=trivial
theorem tw14672118544760892992:True:=trivial
theorem tw3868094622580885887:True:=trivial
theorem tw9832680444608732821:True:=trivial
theorem tw99152517369095010:True:=trivial
theorem tw17794545668362714960:True:=trivial
theorem tw15409745199189347467:True:=trivial
theorem tw9070465352097182071:True:=trivial
theorem tw17931326920202895230:True:=trivial
theorem tw14910277212350352981:True:=trivial
theorem tw13702452990286771896:True:=trivial
theorem tw8601148646423638991:True:=trivial
theorem tw496029270635349646:True:=trivial
theorem tw10016059406760129920:True:=trivial
theorem tw2606732942606469751:True:=trivial
theorem tw8217820726811723097:True:=trivial
theorem tw4776949272568820182:True:=trivial
theorem tw11099026003327634567:True:=trivial
theorem tw13865583543239838633:True:=trivial
theorem tw10132254264395957669:True:=trivial
theorem tw10219566265900299999:True:=trivial
theorem tw11908136084413674732:True:=trivial
theorem tw16407033664908607608:True:=trivial
theorem tw3922871544009749755:True:=trivial
theorem tw4770410518239790934:True:=trivial
theorem tw10141568021845912962:True:=trivial
theorem tw9895454761142849185:True:=trivial
theorem tw11392080434121536292:True:=trivial
theorem tw5274112219451824605:True:=trivial
theorem tw4908653697719528007:True:=trivial
theorem tw16303375802163311936:True:=trivial
theorem tw15855888866542327748:True:=trivial
theorem tw4031125320017224167:True:=trivial
theorem tw181841253293763396:True:=trivial
theorem tw902815794519037249:True:=trivial
theorem tw2006655019950045215:True:=trivial
theorem tw6470355122347908801:True:=trivial
theorem tw11954612402671809850:True:=trivial
theorem tw6349937268503348657:True:=trivial
theorem tw11942657265838158468:True:=trivial
theorem tw11553340731814716776:True:=trivial
theorem tw11514996974325590626:True:=trivial
theorem tw8087882572021984430:True:=trivial
theorem tw15111709716716090855:True:=trivial
theorem tw8691953739059569929:True:=trivial
theorem tw10351783209290739469:True:=trivial
theorem tw17522813942236674274:True:=trivial
theorem tw14039119763130967053:True:=trivial
theorem tw1274270603645144371:True:=trivial
theorem tw15096589467355539936:True:=trivial
theorem tw15735443471101378708:True:=trivial
theorem tw2490238753689544251:True:=trivial
theorem tw2061736643684991417:True:=trivial
theorem tw16416912250988876606:True:=trivial
theorem tw14606603843864726877:True:=trivial
theorem tw7723931283569496119:True:=trivial
theorem tw12089870513078814319:True:=trivial
theorem tw2656154621628550799:True:=trivial
theorem tw16494686932328190562:True:=trivial
theorem tw10956266216679003097:True:=trivial
theorem tw9617887860892812702:True:=trivial
theorem tw12576966560823683073:True:=trivial
theorem tw5772333516776279456:True:=trivial
theorem tw11409398593033970975:True:=trivial
theorem tw3383678935951570483:True:=trivial
theorem tw11207872910053886221:True:=trivial
theorem tw7988551602660709688:True:=trivial
theorem tw12454506758268713331:True:=trivial
theorem tw11139380523872677541:True:=trivial
theorem tw13461167249778260955:True:=trivial
theorem tw906486302929429279:True:=trivial
theorem tw17281332940971707491:True:=trivial
theorem tw11772385096316200765:True:=trivial
theorem tw7749549542718495671:True:=trivial
theorem tw14868048594125928295:True:=trivial
theorem tw15971520714239416966:True:=trivial
theorem tw7956495301703206024:True:=trivial
theorem tw9738211944190964085:True:=trivial
theorem tw1656127168690113673:True:=trivial
theorem tw9842341128471927378:True:=trivial
theorem tw9892458936518063989:True:=trivial
theorem tw15503930194852973623:True:=trivial
theorem tw17408812182011555444:True:=trivial
theorem tw8092260734597845822:True:=trivial
theorem tw9185543052202260043:True:=trivial
theorem tw6385273897055217283:True:=trivial
theorem tw14468984016444091501:True:=trivial
theorem tw11438977500598965837:True:=trivial
theorem tw1829547325811454203:True:=trivial
theorem tw10946362254262856599:True:=trivial
theorem tw2399446229453510195:True:=trivial
theorem tw12832211039475079583:True:=trivial
theorem tw7939368709021740314:True:=trivial
theorem tw5665276791122559947:True:=trivial
theorem tw9745125427798575094:True:=trivial
theorem tw12997953557181129353:True:=trivial
theorem tw9683433099896390341:True:=trivial
theorem tw1754866246649085984:True:=trivial
theorem tw10322268704544408492:True:=trivial
theorem tw6908369677199386300:True:=trivial
theorem tw9464476828360530268:True:=trivial
theorem tw721699391097337964:True:=trivial
theorem tw15190629510231834343:True:=trivial
theorem tw2988638061264633792:True:=trivial
theorem tw3944422337398205558:True:=trivial
theorem tw11910129595980776578:True:=trivial
theorem tw15055656583190075561:True:=trivial
theorem tw1673825378857811212:True:=trivial
theorem tw14272841307062403010:True:=trivial
theorem tw5299968077853625720:True:=trivial
theorem tw11540058982416959964:True:=trivial
theorem tw3985793204698672362:True:=trivial
theorem tw13326306669952555140:True:=trivial
theorem tw7432609061189613970:True:=trivial
theorem tw3973957812375302592:True:=trivial
theorem tw11668155174770644654:True:=trivial
theorem tw13608912752942160624:True:=trivial
theorem tw9166976907707694914:True:=trivial
theorem tw8871042513743605802:True:=trivial
theorem tw5324137407598975961:True:=trivial
theorem tw17866293425187176087:True:=trivial
theorem tw892299933389868353:True:=trivial
theorem tw17927708327061182566:True:=trivial
theorem tw5482139884455011910:True:=trivial
theorem tw9884490193782437360:True:=trivial
theorem tw3340779941472710503:True:=trivial
theorem tw16961341975975740273:True:=trivial
theorem tw3708596002953656452:True:=trivial
theorem tw17492820084905418468:True:=trivial
theorem tw11447607008893071156:True:=trivial
theorem tw5500785087335073858:True:=trivial
theorem tw4005721869213400231:True:=trivial
theorem tw3063367492974393321:True:=trivial
theorem tw596003284216625122:True:=trivial
theorem tw15977331986058963439:True:=trivial
theorem tw12271622197893113395:True:=trivial
theorem tw6204016039760418851:True:=trivial
theorem tw15444997672538059895:True:=trivial
theorem tw13071393983579737173:True:=trivial
theorem tw750668867833079242:True:=trivial
theorem tw14421404050594767180:True:=trivial
theorem tw12309005469739827356:True:=trivial
theorem tw8000795884166868879:True:=trivial
theorem tw8084049145617477481:True:=trivial
theorem tw7472400469655334510:True:=trivial
theorem tw18315886849221624984:True:=trivial
theorem tw2821176655529844464:True:=trivial
theorem tw188844179900347049:True:=trivial
theorem tw3030418920356046311:True:=trivial
theorem tw10963334789821714621:True:=trivial
theorem tw11104712881759044196:True:=trivial
theorem tw12530923874810252485:True:=trivial
theorem tw12991890436664493733:True:=trivial
theorem tw3556021308482450035:True:=trivial
theorem tw12532546150155517917:True:=trivial
theorem tw2402798450846282184:True:=trivial
theorem tw13658102138726913390:True:=trivial
theorem tw10217595386405545231:True:=trivial
theorem tw11624939181224593865:True:=trivial
theorem tw14100553211164362428:True:=trivial
theorem tw3904336057553155387:True:=trivial
theorem tw9429611080222019307:True:=trivial
theorem tw6928943962384605569:True:=trivial
theorem tw11338516403984448222:True:=trivial
theorem tw15400510280652831788:True:=trivial
theorem tw2509562135371628864:True:=trivial
theorem tw14119451129666340468:True:=trivial
theorem tw7062377717307115765:True:=trivial
theorem tw2503414054123719226:True:=trivial
theorem tw13382085509616490690:True:=trivial
theorem tw5798827717815700401:True:=trivial
theorem tw10414149482991710339:True:=trivial
theorem tw5772195939503718273:True:=trivial
theorem tw10321825258288382409:True:=trivial
theorem tw5714831292623611127:True:=trivial
theorem tw15016544507968010179:True:=trivial
theorem tw13394707206106428729:True:=trivial
theorem tw7303803852745764188:True:=trivial
theorem tw15778790427330949591:True:=trivial
theorem tw3031204045776791687:True:=trivial
theorem tw11804932528333122208:True:=trivial
theorem tw402203548460538434:True:=trivial
theorem tw3674436948258671136:True:=trivial
theorem tw4354518328983523942:True:=trivial
theorem tw5155598368119584597:True:=trivial
theorem tw17143575140414381932:True:=trivial
theorem tw18289433671771928738:True:=trivial
theorem tw17516913551478133763:True:=trivial
theorem tw2994084603321730146:True:=trivial
theorem tw899957706024009028:True:=trivial
theorem tw18374711025854192861:True:=trivial
theorem tw7976199767480140526:True:=trivial
theorem tw14283548496866382027:True:=trivial
theorem tw88594461365378007:True:=trivial
theorem tw16797836748484692404:True:=trivial
theorem tw13497779466534288015:True:=trivial
theorem tw748435237803694161:True:=trivial
theorem tw8398295916262811461:True:=trivial
theorem tw10125588876084998887:True:=trivial
theorem tw10803012053414964817:True:=trivial
theorem tw2636949232170577927:True:=trivial
theorem tw17468571750990487448:True:=trivial
theorem tw3056922169791036657:True:=trivial
theorem tw5765353893701170874:True:=trivial
theorem tw907208209954300052:True:=trivial
theorem tw15518993642180152513:True:=trivial
theorem tw14094891108743850337:True:=trivial
theorem tw14981593664686218165:True:=trivial
theorem tw11987817118098405975:True:=trivial
theorem tw8449612203446543766:True:=trivial
theorem tw7391236821082256594:True:=trivial
theorem tw11696503442542630547:True:=trivial
theorem tw4398915895893732248:True:=trivial
theorem tw15563891214707972932:True:=trivial
theorem tw6289061189191619484:True:=trivial
theorem tw2570139705877841701:True:=trivial
theorem tw11948987954141333146:True:=trivial
theorem tw4924023665218010266:True:=trivial
theorem tw12044269336882558406:True:=trivial
theorem tw8005957788845906115:True:=trivial
theorem tw10771816295019834078:True:=trivial
theorem tw9361595153745153739:True:=trivial
theorem tw6949810481979660342:True:=trivial
theorem tw8634045857646127764:True:=trivial
theorem tw3821873499270677547:True:=trivial
theorem tw4159280930440322966:True:=trivial
theorem tw5076525874500569916:True:=trivial
theorem tw5547439932997906565:True:=trivial
theorem tw13698888287593093600:True:=trivial
theorem tw865295239092090080:True:=trivial
theorem tw11595356251754257270:True:=trivial
theorem tw6785135253321366865:True:=trivial
theorem tw16814136817131431615:True:=trivial
theorem tw8976106913133830541:True:=trivial
theorem tw5558248958568194933:True:=trivial
theorem tw2027631017734635895:True:=trivial
theorem tw17036349982667707716:True:=trivial
theorem tw9296354317979563169:True:=trivial
theorem tw6715566013555769163:True:=trivial
theorem tw2289594599066330058:True:=trivial
theorem tw1426728404093268322:True:=trivial
theorem tw13101019948493584507:True:=trivial
theorem tw15848885105679018450:True:=trivial
theorem tw6296444950441225491:True:=trivial
theorem tw15896946699315308840:True:=trivial
theorem tw11841148002876890582:True:=trivial
theorem tw15300692476977044636:True:=trivial
theorem tw11423668804997501894:True:=trivial
theorem tw575710165205030939:True:=trivial
theorem tw11826566583043169599:True:=trivial
theorem tw11003483021975403998:True:=trivial
theorem tw6957233907478960928:True:=trivial
theorem tw9928821125006427439:True:=trivial
theorem tw13018609156909663875:True:=trivial
theorem tw16950573274201001853:True:=trivial
theorem tw12485871469621731045:True:=trivial
theorem tw9708293407296321473:True:=trivial
theorem tw1396172700872468706:True:=trivial
theorem tw3844464901026863631:True:=trivial
theorem tw4704624389192608873:True:=trivial
theorem tw8228318817866983651:True:=trivial
theorem tw1111924368138606041:True:=trivial
theorem tw343946681255923029:True:=trivial
theorem tw11719958278188574200:True:=trivial
theorem tw14465578489177261696:True:=trivial
theorem tw4799085879609810713:True:=trivial
theorem tw15999276175796646216:True:=trivial
theorem tw16015758043760022840:True:=trivial
theorem tw3651682100494553525:True:=trivial
theorem tw1389795831835150396:True:=trivial
theorem tw7933679556200096970:True:=trivial
theorem tw14860919007183198968:True:=trivial
theorem tw10519178044887934139:True:=trivial
theorem tw9077032135651293730:True:=trivial
theorem tw11412836700431917336:True:=trivial
theorem tw3488044382552695139:True:=trivial
theorem tw10505001912314763657:True:=trivial
theorem tw17600122557785016136:True:=trivial
theorem tw16201166072414034514:True:=trivial
theorem tw15972698499501412763:True:=trivial
theorem tw3395907087618668357:True:=trivial
theorem tw15343942771437208532:True:=trivial
theorem tw12658090445253104937:True:=trivial
theorem tw17163960158702044058:True:=trivial
theorem tw11454620140576700873:True:=trivial
theorem tw11614697130465687770:True:=trivial
theorem tw4408825862667282413:True:=trivial
theorem tw2152674124543657501:True:=trivial
theorem tw7579169869682665800:True:=trivial
theorem tw5560974450315803998:True:=trivial
theorem tw213851145674549723:True:=trivial
theorem tw4977030601070050064:True:=trivial
theorem tw63504282700944852:True:=trivial
theorem tw10971491409109518788:True:=trivial
theorem tw11730004502216813802:True:=trivial
theorem tw13259863530339535848:True:=trivial
theorem tw822523817625512242:True:=trivial
theorem tw4144542905822366261:True:=trivial
theorem tw10626306065680840104:True:=trivial
theorem tw7212853040729371411:True:=trivial
theorem tw18220623550089201494:True:=trivial
theorem tw9378272661401497269:True:=trivial
theorem tw14429493691432238966:True:=trivial
theorem tw8580357918149436158:True:=trivial
theorem tw17442018253448295511:True:=trivial
theorem tw8337989046273363543:True:=trivial
theorem tw464361336086635709:True:=trivial
theorem tw15943680194743720562:True:=trivial
theorem tw13393811455096021247:True:=trivial
theorem tw12378532458150536142:True:=trivial
theorem tw796166214717505729:True:=trivial
theorem tw17093520759160456266:True:=trivial
theorem tw14000780045767214574:True:=trivial
theorem tw12026347110850250420:True:=trivial
theorem tw11212620043501751162:True:=trivial
theorem tw5123410653049574286:True:=trivial
theorem tw1934883126269623454:True:=trivial
theorem tw1775216352845843133:True:=trivial
theorem tw3734979937003724145:True:=trivial
theorem tw13484415856711909416:True:=trivial
theorem tw12114910478701904763:True:=trivial
theorem tw415733071986425052:True:=trivial
theorem tw9368045838778414623:True:=trivial
theorem tw8786591306456986174:True:=trivial
theorem tw12942509119596717780:True:=trivial
theorem tw14883111467901715035:True:=trivial
theorem tw13728812790836694722:True:=trivial
theorem tw3780552145203167397:True:=trivial
theorem tw12995651757556034096:True:=trivial
theorem tw17554569667216082762:True:=trivial
theorem tw14097168423013116711:True:=trivial
theorem tw3697330491525494260:True:=trivial
theorem tw18057590658118109548:True:=trivial
theorem tw4627123875768767340:True:=trivial
theorem tw1813410177539831307:True:=trivial
theorem tw682902200356333757:True:=trivial
theorem tw18081598447101524975:True:=trivial
theorem tw8687489252640737216:True:=trivial
theorem tw16058269746315872075:True:=trivial
theorem tw12038048054769257221:True:=trivial
theorem tw5662758253749763252:True:=trivial
theorem tw1883097514650562301:True:=trivial
theorem tw11863962154448275956:True:=trivial
theorem tw10661550389780128834:True:=trivial
theorem tw14689037776550048272:True:=trivial
theorem tw17629800848682046783:True:=trivial
theorem tw13599207611221444535:True:=trivial
theorem tw5634610284286234380:True:=trivial
theorem tw10355833554592061255:True:=trivial
theorem tw9106021306566301831:True:=trivial
theorem tw15984936389613006055:True:=trivial
theorem tw1599292914197439072:True:=trivial
theorem tw18050901192513285570:True:=trivial
theorem tw17948246118844986104:True:=trivial
theorem tw13502994823484229256:True:=trivial
theorem tw8683165396478613567:True:=trivial
theorem tw2598190606617496218:True:=trivial
theorem tw10623213726214785037:True:=trivial
theorem tw15291818511361541714:True:=trivial
theorem tw17361961646643196280:True:=trivial
theorem tw14620562978164382002:True:=trivial
theorem tw15006939257097584841:True:=trivial
theorem tw13861602292184046103:True:=trivial
theorem tw13968120370200033739:True:=trivial
theorem tw5208817451127557772:True:=trivial
theorem tw17897403576830235842:True:=trivial
theorem tw8864522142731449180:True:=trivial
theorem tw4934775444375400046:True:=trivial
theorem tw9151925229318513232:True:=trivial
theorem tw2668735689611141560:True:=trivial
theorem tw15479810272656687336:True:=trivial
theorem tw8264144365795702363:True:=trivial
theorem tw10209054907183326880:True:=trivial
theorem tw15543171978542637097:True:=trivial
theorem tw2482995488089554774:True:=trivial
theorem tw3188547157048108257:True:=trivial
theorem tw9139834706568346454:True:=trivial
theorem tw7785364811415370897:True:=trivial
theorem tw6900477286071208946:True:=trivial
theorem tw15968446490245145312:True:=trivial
theorem tw17400470865474707304:True:=trivial
theorem tw12381482253993110406:True:=trivial
theorem tw78156653810611093:True:=trivial
theorem tw1854663125331764171:True:=trivial
theorem tw9702797666676306966:True:=trivial
theorem tw6700432128759571739:True:=trivial
theorem tw4597850623588483590:True:=trivial
theorem tw16260049236972200727:True:=trivial
theorem tw12095784655297808372:True:=trivial
theorem tw2861771583039698716:True:=trivial
theorem tw4817649494453343820:True:=trivial
theorem tw17260246346982639572:True:=trivial
theorem tw9928314461481979328:True:=trivial
theorem tw11853269156285056555:True:=trivial
theorem tw11903339290406328274:True:=trivial
theorem tw7610749323337869272:True:=trivial
theorem tw16835065684346716472:True:=trivial
theorem tw13699730112247901442:True:=trivial
theorem tw972807070292533634:True:=trivial
theorem tw12134062239049336376:True:=trivial
theorem tw6051383033917942243:True:=trivial
theorem tw2185861827775155009:True:=trivial
theorem tw16668508492243686785:True:=trivial
theorem tw4145666574451168037:True:=trivial
theorem tw16549307783544190554:True:=trivial
theorem tw7758699185050128550:True:=trivial
theorem tw4740869661424905317:True:=trivial
theorem tw17007140809547676962:True:=trivial
theorem tw3107870922807998627:True:=trivial
theorem tw15037852374633982883:True:=trivial
theorem tw14750777713083236056:True:=trivial
theorem tw3861080681857259503:True:=trivial
theorem tw17112127469680624537:True:=trivial
theorem tw14871748788045021577:True:=trivial
theorem tw6734358633751151810:True:=trivial
theorem tw15160153883720648884:True:=trivial
theorem tw11771645455983384880:True:=trivial
theorem tw15500553207282957393:True:=trivial
theorem tw18077152736308588692:True:=trivial
theorem tw17520660594894887700:True:=trivial
theorem tw7610245537491273413:True:=trivial
theorem tw4640769092910484920:True:=trivial
theorem tw12024312297636648329:True:=trivial
theorem tw12063098452380668631:True:=trivial
theorem tw3721626348499342787:True:=trivial
theorem tw13840631274970648841:True:=trivial
theorem tw11211363072519981156:True:=trivial
theorem tw11333145816810805501:True:=trivial
theorem tw9246141128746820978:True:=trivial
theorem tw8775712594966037175:True:=trivial
theorem tw14363305241824201118:True:=trivial
theorem tw9704721260185499947:True:=trivial
theorem tw1469263630558450839:True:=trivial
theorem tw10301414273110009803:True:=trivial
theorem tw11379811645994006458:True:=trivial
theorem tw8239522940803337234:True:=trivial
theorem tw6701142833248424592:True:=trivial
theorem tw14299280043777912044:True:=trivial
theorem tw8400286768085185201:True:=trivial
theorem tw5538068897494100049:True:=trivial
theorem tw6568379547778461402:True:=trivial
theorem tw1251161620986842272:True:=trivial
theorem tw879872402902161936:True:=trivial
theorem tw13548081056202847522:True:=trivial
theorem tw10842738161786890691:True:=trivial
theorem tw16299041163408784963:True:=trivial
theorem tw5013693206267492798:True:=trivial
theorem tw5151687390550540792:True:=trivial
theorem tw4552202189899704984:True:=trivial
theorem tw9298517568158641907:True:=trivial
theorem tw15955541566046278019:True:=trivial
theorem tw11796721186036106083:True:=trivial
theorem tw7338954628646831275:True:=trivial
theorem tw9193490360279599871:True:=trivial
theorem tw15941321872980615223:True:=trivial
theorem tw16056972400710845936:True:=trivial
theorem tw7103533316701998629:True:=trivial
theorem tw2469434776172092189:True:=trivial
theorem tw4900301316970850605:True:=trivial
theorem tw8966880475081702174:True:=trivial
theorem tw8907168694953988385:True:=trivial
theorem tw9579369216181839437:True:=trivial
theorem tw18275940622449789671:True:=trivial
theorem tw16957679025586035204:True:=trivial
theorem tw2133256904318286912:True:=trivial
theorem tw10935931161271915885:True:=trivial
theorem tw7663433416548254665:True:=trivial
theorem tw11776040149712767298:True:=trivial
theorem tw4761553677588583381:True:=trivial
theorem tw12453663364794758391:True:=trivial
theorem tw2927101798533450936:True:=trivial
theorem tw12963799953756472600:True:=trivial
theorem tw14335465185058889064:True:=trivial
theorem tw11811660803543261599:True:=trivial
theorem tw9248232232800903279:True:=trivial
theorem tw14071893997747566317:True:=trivial
theorem tw13096418976871895377:True:=trivial
theorem tw13029586220576245264:True:=trivial
theorem tw10749349389724386404:True:=trivial
theorem tw5084503209889756889:True:=trivial
theorem tw16185602490619470365:True:=trivial
theorem tw8028331680267981579:True:=trivial
theorem tw2602262029596588078:True:=trivial
theorem tw12682956826196639997:True:=trivial
theorem tw9561261791776118068:True:=trivial
theorem tw12917865574133779510:True:=trivial
theorem tw1136707365368424800:True:=trivial
theorem tw601328011484296644:True:=trivial
theorem tw6823954555149131023:True:=trivial
theorem tw14731115144334405530:True:=trivial
theorem tw10745163502311493353:True:=trivial
theorem tw3703053882097638749:True:=trivial
theorem tw2242353349309094437:True:=trivial
theorem tw8461090660375739783:True:=trivial
theorem tw13527734189717295963:True:=trivial
theorem tw3053687583274166506:True:=trivial
theorem tw4765173324027614352:True:=trivial
theorem tw759413117707209253:True:=trivial
theorem tw6278750109180318044:True:=trivial
theorem tw6650122205105357553:True:=trivial
theorem tw4287439351775294061:True:=trivial
theorem tw5767173492855802992:True:=trivial
theorem tw898270278731545935:True:=trivial
theorem tw17367277545624289963:True:=trivial
theorem tw17366443891182583014:True:=trivial
theorem tw247204130522589623:True:=trivial
theorem tw16765215616180196909:True:=trivial
theorem tw4373042318023526045:True:=trivial
theorem tw846380725702290362:True:=trivial
theorem tw15391584159597527841:True:=trivial
theorem tw12121756384438721752:True:=trivial
theorem tw5591506113428691133:True:=trivial
theorem tw8128017922566642501:True:=trivial
theorem tw6244127071106669054:True:=trivial
theorem tw10166695998597095131:True:=trivial
theorem tw16319432570258380098:True:=trivial
theorem tw18252679149633343591:True:=trivial
theorem tw9766757873850976841:True:=trivial
theorem tw12500026681311929758:True:=trivial
theorem tw5132765526625784116:True:=trivial
theorem tw1701599857779363513:True:=trivial
theorem tw13664657563323774045:True:=trivial
theorem tw17840974009733234432:True:=trivial
theorem tw16075823593726612930:True:=trivial
theorem tw5081680735711105420:True:=trivial
theorem tw11245440129343893921:True:=trivial
theorem tw17445284950844933285:True:=trivial
theorem tw11077502031529022495:True:=trivial
theorem tw16361519533204580465:True:=trivial
theorem tw16523060902574341281:True:=trivial
theorem tw7056452163911712086:True:=trivial
theorem tw1736837907338221481:True:=trivial
theorem tw18210576603335323386:True:=trivial
theorem tw2140524551809448285:True:=trivial
theorem tw16900006336236488477:True:=trivial
theorem tw304863701792836708:True:=trivial
theorem tw14746501054604078715:True:=trivial
theorem tw126009901442899463:True:=trivial
theorem tw5723142924901676898:True:=trivial
theorem tw15342339208885023203:True:=trivial
theorem tw8526178793403226980:True:=trivial
theorem tw15379448334138933164:True:=trivial
theorem tw15484630340684000061:True:=trivial
theorem tw14207047210615179549:True:=trivial
theorem tw10943636592644042816:True:=trivial
theorem tw4277583927476069982:True:=trivial
theorem tw10073745708862423980:True:=trivial
theorem tw4069965420241509129:True:=trivial
theorem tw15458415468509466771:True:=trivial
theorem tw10413297626423236406:True:=trivial
theorem tw7241964167832990177:True:=trivial
theorem tw15371712681542840677:True:=trivial
theorem tw4081744319790432286:True:=trivial
theorem tw6978598646394707227:True:=trivial
theorem tw2047307843660030940:True:=trivial
theorem tw12723078129022906248:True:=trivial
theorem tw7431587390257663272:True:=trivial
theorem tw10543250150660431845:True:=trivial
theorem tw10689485624075790474:True:=trivial
theorem tw1345877518956327547:True:=trivial
theorem tw17208310562541356985:True:=trivial
theorem tw8026103506601775998:True:=trivial
theorem tw17544138462044611452:True:=trivial
theorem tw7158890582901406435:True:=trivial
theorem tw4574304238289706473:True:=trivial
theorem tw2848867898883888211:True:=trivial
theorem tw5558163938870893896:True:=trivial
theorem tw11291907317217712686:True:=trivial
theorem tw17583879927112601884:True:=trivial
theorem tw17197140309490539119:True:=trivial
theorem tw480668611568780780:True:=trivial
theorem tw10683382145434742389:True:=trivial
theorem tw13986857931166725765:True:=trivial
theorem tw1803192100133156226:True:=trivial
theorem tw7323212788456434945:True:=trivial
theorem tw6407536396522956499:True:=trivial
theorem tw1683818632007264453:True:=trivial
theorem tw1014497155023151363:True:=trivial
theorem tw1693146226010125217:True:=trivial
theorem tw12994728846020025740:True:=trivial
theorem tw7647717772003901611:True:=trivial
theorem tw15552954105007680223:True:=trivial
theorem tw8211933758048284362:True:=trivial
theorem tw17669598700592146082:True:=trivial
theorem tw14598327806793364692:True:=trivial
theorem tw15078212466593991360:True:=trivial
theorem tw13091001453574753108:True:=trivial
theorem tw7160790120502590289:True:=trivial
theorem tw2081891317266809233:True:=trivial
theorem tw15593412476008370525:True:=trivial
theorem tw15492095983131695859:True:=trivial
theorem tw4647458935045363638:True:=trivial
theorem tw4885964863469693878:True:=trivial
theorem tw1892751070620516853:True:=trivial
theorem tw12513390166651754119:True:=trivial
theorem tw5332458189552340530:True:=trivial
theorem tw18335695283656986985:True:=trivial
theorem tw3118731240642360310:True:=trivial
theorem tw3555354460170773451:True:=trivial
theorem tw17123713164328935500:True:=trivial
theorem tw10363425918002578674:True:=trivial
theorem tw12903112379839088533:True:=trivial
theorem tw1272301753087403974:True:=trivial
theorem tw12756929502797044078:True:=trivial
theorem tw7339527902953599856:True:=trivial
theorem tw1915787703578609801:True:=trivial
theorem tw4303067383543438228:True:=trivial
theorem tw2901260151846794202:True:=trivial
theorem tw6080516796471607189:True:=trivial
theorem tw13086088382795364465:True:=trivial
theorem tw9064665783496093735:True:=trivial
theorem tw3789623803991015046:True:=trivial
theorem tw13490450145272055486:True:=trivial
theorem tw6540190253978209313:True:=trivial
theorem tw18177514939443525399:True:=trivial
theorem tw5593358344991044522:True:=trivial
theorem tw7988961718455511037:True:=trivial
theorem tw5519615543252987213:True:=trivial
theorem tw83190912687683178:True:=trivial
theorem tw13574488803077016695:True:=trivial
theorem tw12681050301816099035:True:=trivial
theorem tw11685088354365415438:True:=trivial
theorem tw12917131931225910513:True:=trivial
theorem tw11694031871091343212:True:=trivial
theorem tw18443387808597877523:True:=trivial
theorem tw14183209560430305072:True:=trivial
theorem tw6244115014257479329:True:=trivial
theorem tw6257781867612441669:True:=trivial
theorem tw7167080999675639263:True:=trivial
theorem tw3112553171130168365:True:=trivial
theorem tw11197309579109220738:True:=trivial
theorem tw14996708125177300957:True:=trivial
theorem tw4107036569454605634:True:=trivial
theorem tw16147868888828804566:True:=trivial
theorem tw9607124424797700610:True:=trivial
theorem tw12200083063831385548:True:=trivial
theorem tw1042987174245929074:True:=trivial
theorem tw17346209378245280049:True:=trivial
theorem tw9398013008622820914:True:=trivial
theorem tw9666047561131719331:True:=trivial
theorem tw17800643070203625559:True:=trivial
theorem tw8546633279957993839:True:=trivial
theorem tw9742358217295163693:True:=trivial
theorem tw6008217829258863064:True:=trivial
theorem tw5454701453131714583:True:=trivial
theorem tw17717316016553277772:True:=trivial
theorem tw11197159753351342502:True:=trivial
theorem tw11083409462281195958:True:=trivial
theorem tw15737244161703402547:True:=trivial
theorem tw13537190511942744663:True:=trivial
theorem tw11216450708953038380:True:=trivial
theorem tw13965318273651324317:True:=trivial
theorem tw415552254937208820:True:=trivial
theorem tw9359622325283086062:True:=trivial
theorem tw12778165462097384564:True:=trivial
theorem tw1677937402225600881:True:=trivial
theorem tw10256604999005966645:True:=trivial
theorem tw8731474279302472284:True:=trivial
theorem tw9116561683479654455:True:=trivial
theorem tw4289726769031214044:True:=trivial
theorem tw8930069988647172741:True:=trivial
theorem tw6471428451910344395:True:=trivial
theorem tw11715788089282660499:True:=trivial
theorem tw9381220353228792563:True:=trivial
theorem tw5152506457085118780:True:=trivial
theorem tw6958515130649206727:True:=trivial
theorem tw8537132225020228960:True:=trivial
theorem tw4199660992903668493:True:=trivial
theorem tw1913134163317230120:True:=trivial
theorem tw409263718167671128:True:=trivial
theorem tw13955045173048171277:True:=trivial
theorem tw9677473936751221538:True:=trivial
theorem tw15710988746047156951:True:=trivial
theorem tw4358968665873107791:True:=trivial
theorem tw8056390771483065453:True:=trivial
theorem tw16062376744505325235:True:=trivial
theorem tw4035911243030655233:True:=trivial
theorem tw345319572331631647:True:=trivial
theorem tw1585021018518544755:True:=trivial
theorem tw17785955134115941753:True:=trivial
theorem tw14355369118937516974:True:=trivial
theorem tw18178378390294407988:True:=trivial
theorem tw5089297449267795007:True:=trivial
theorem tw13577999180956222538:True:=trivial
theorem tw16133970458239646483:True:=trivial
theorem tw12616723675175200763:True:=trivial
theorem tw8095118671649722396:True:=trivial
theorem tw13644765666258920913:True:=trivial
theorem tw14815646060131841436:True:=trivial
theorem tw1818141723960355614:True:=trivial
theorem tw8042235443897282142:True:=trivial
theorem tw17670590542052462816:True:=trivial
theorem tw4652470514507400775:True:=trivial
theorem tw543214213207235989:True:=trivial
theorem tw6636960515844842218:True:=trivial
theorem tw3756738935863443623:True:=trivial
theorem tw13517192764327692901:True:=trivial
theorem tw18282170057217451964:True:=trivial
theorem tw5356824073494649199:True:=trivial
theorem tw13340326052952614050:True:=trivial
theorem tw16482266585643309436:True:=trivial
theorem tw9239654503206649751:True:=trivial
theorem tw2196596291981060538:True:=trivial
theorem tw182579068840932220:True:=trivial
theorem tw7143502264059324227:True:=trivial
theorem tw7137220759085674046:True:=trivial
theorem tw12674377235716204426:True:=trivial
theorem tw5596001377453324140:True:=trivial
theorem tw7352421367284706735:True:=trivial
theorem tw1762767035573121060:True:=trivial
theorem tw11618534869155012695:True:=trivial
theorem tw2271366544917209679:True:=trivial
theorem tw18405126084409783471:True:=trivial
theorem tw14633362238331277527:True:=trivial
theorem tw17092804112529585803:True:=trivial
theorem tw3488274975681746754:True:=trivial
theorem tw9236489478336462795:True:=trivial
theorem tw16102854300374088016:True:=trivial
theorem tw3645193227442142169:True:=trivial
theorem tw8214871929718042674:True:=trivial
theorem tw2124725182624872305:True:=trivial
theorem tw10096739472323574951:True:=trivial
theorem tw7614008342493259902:True:=trivial
theorem tw5856195189834092087:True:=trivial
theorem tw6213586394717983525:True:=trivial
theorem tw14486187299397776272:True:=trivial
theorem tw16512377841388391567:True:=trivial
theorem tw17683737733739736428:True:=trivial
theorem tw10666028593950645876:True:=trivial
theorem tw17873256010412918888:True:=trivial
theorem tw14195234266064965367:True:=trivial
theorem tw11291915595661432917:True:=trivial
theorem tw5042080357420087736:True:=trivial
theorem tw9308420816177365643:True:=trivial
theorem tw4613175113747655702:True:=trivial
theorem tw12496547448045723151:True:=trivial
theorem tw3756984306326463781:True:=trivial
theorem tw7337778524523946573:True:=trivial
theorem tw7094836281379354403:True:=trivial
theorem tw12266884104103647726:True:=trivial
theorem tw10469178086591460585:True:=trivial
theorem tw3396070413378379900:True:=trivial
theorem tw3192327906455085714:True:=trivial
theorem tw15420261684140216711:True:=trivial
theorem tw2574217194584370027:True:=trivial
theorem tw17677794392175113770:True:=trivial
theorem tw11226793104010274129:True:=trivial
theorem tw12547419485071509817:True:=trivial
theorem tw9196996331245841169:True:=trivial
theorem tw6134177483627837704:True:=trivial
theorem tw10779055497418070882:True:=trivial
theorem tw14676663682067151619:True:=trivial
theorem tw14702065336807054613:True:=trivial
theorem tw16172766801087051776:True:=trivial
theorem tw4331397940855356500:True:=trivial
theorem tw15044698092043079059:True:=trivial
theorem tw6996172247515513414:True:=trivial
theorem tw17622726722390209671:True:=trivial
theorem tw3066948702110490887:True:=trivial
theorem tw14224207107255353555:True:=trivial
theorem tw7081739638440399859:True:=trivial
theorem tw16023413387904340482:True:=trivial
theorem tw693965227879836377:True:=trivial
theorem tw15619522070035140801:True:=trivial
theorem tw2768716193624722431:True:=trivial
theorem tw3207445470363919466:True:=trivial
theorem tw16044394145805099734:True:=trivial
theorem tw4598321031066803542:True:=trivial
theorem tw8164243681609483883:True:=trivial
theorem tw7353932896764321557:True:=trivial
theorem tw18399222355634453635:True:=trivial
theorem tw12102120010393567637:True:=trivial
theorem tw35398536681619189:True:=trivial
theorem tw17411516527335654868:True:=trivial
theorem tw1284480156518658191:True:=trivial
theorem tw17401799548874088265:True:=trivial
end PySem.W.Fast
open PySem PySem.W PyProof.Rows
set_option maxRecDepth 100000 in
set_option maxHeartbeats 0 in
theorem PySem.Challenge.cw_tenreckon_k22_whole_parts_and_rests_holds : PySem.Challenge.rw_tenreckon_k22_whole_parts_and_rests.Holds := by
 w_on; o_law; k_head; (case hw => w_witness2)
 k_fill
 refine TR.walk (l := PySem.Challenge.rw_tenreckon_k22_whole_parts_and_rests) (cc := 912) (P0 := 908) rfl rfl (fun w h Y => ⟨PySem.W.km_in_of Y, PySem.W.codeHd_of_K (PySem.W.km_in_of Y) (by kernel_rfl), PySem.W.km_tabs_of Y _ (by k_mem)⟩) (fun _ => by kernel_rfl) ?F
 case F =>
   intro w mg fa h KX G hmg
   refine' TR.all_mk (cc := 912) (P0 := 908) KX G hmg ?ZB1q ?ZB0n ?ZB0k ?ZB0w ?ZG0h ?ZG0v ?ZG5c ?ZG3f ?ZC5z ?ZC5t ?ZC5b ?ZC7e ?ZD7f ?ZG1k ?ZD7u ?ZG3r ?ZG1m ?ZD6c ?ZG2n ?ZD6w ?ZV7g ?ZY2z ?ZV6v ?ZY2m ?ZC0p ?ZB9h ?ZC0w ?ZC0m ?ZU0p ?ZJ3d ?ZJ1x ?ZJ1z ?ZJ2k ?ZJ4x ?ZJ8t ?ZJ6t ?ZG1n ?ZD5n ?ZD8w ?ZG1x ?ZB6a ?ZB5y ?ZB5h ?ZB5p ?ZD7n ?ZG2q ?ZG2b ?ZG1d ?ZC5w ?ZC6r ?ZC6y ?ZC7u ?ZC0q ?ZC1r ?ZB8t ?ZC0y ?ZV8u ?ZY4x ?ZV8w ?ZV5g ?ZB9z ?ZC1b ?ZC0b ?ZB8z ?ZB9b ?ZC0h ?ZC1y ?ZC0s ?ZC4y ?ZC5q ?ZC7k ?ZC6z ?ZB9p ?ZB9x ?ZB9u ?ZC0u ?ZB3h ?ZB0j ?ZB2w ?ZB3m ?ZC5s ?ZC7j ?ZC6j ?ZC6h ?ZC7t ?ZC7v ?ZC5d ?ZC5y ?ZG3h ?ZD6p ?ZD7v ?ZG0f ?ZD5v ?ZD8q ?ZG4k ?ZD5t ?ZB8y ?ZC0z ?ZC1h ?ZB9m ?ZB9k ?ZC0r ?ZC1s ?ZB8p ?ZC5g ?ZC6m ?ZC5j ?ZC5h ?ZJ7u ?ZJ4g ?ZJ4n ?ZJ9m ?ZD6u ?ZG4n ?ZD9t ?ZD5q ?ZB9f ?ZC1u ?ZC0f ?ZB8w ?ZU0q ?ZJ5n ?ZJ8q ?ZU0h ?ZB1v ?ZB2y ?ZB2c ?ZB2s ?ZC7p ?ZC6x ?ZC5n ?ZC7f ?ZJ7p ?ZJ4h ?ZJ3n ?ZJ8g ?ZJ3a ?ZJ9r ?ZJ3j ?ZJ6k ?ZB2b ?ZB1h ?ZB1n ?ZB1y ?ZG3v ?ZD8m ?ZD7d ?ZG1e ?ZC0x ?ZC1m ?ZC1t ?ZC1k ?ZD8h ?ZD7r ?ZD5x ?ZD6g ?ZD8b ?ZG0z ?ZD6a ?ZD8e ?ZJ2v ?ZJ2b ?ZJ2s ?ZJ4v ?ZG3u ?ZD9q ?ZG2v ?ZD7s ?ZJ2m ?ZJ2j ?ZJ2d ?ZJ8d ?ZJ7k ?ZJ9z ?ZJ9p ?ZJ9e ?ZJ5c ?ZJ8s ?ZJ9q ?ZJ9b ?ZD8y ?ZD8z ?ZD5m ?ZG2c ?ZG1h ?ZG5b ?ZD5r ?ZG4p ?ZD6b ?ZG3w ?ZG2y ?ZD9x ?ZC5x ?ZC6v ?ZC5k ?ZC4z ?ZG1z ?ZG5a ?ZG1a ?ZD6y ?ZD7c ?ZG2a ?ZG1w ?ZG0j ?ZJ6r ?ZJ2y ?ZJ1y ?ZJ2z ?ZU3a ?ZV7u ?ZY1d ?ZY1g ?ZA7v ?ZY3n ?ZJ3v ?ZV3n ?ZJ7b ?ZD9d ?ZJ5h ?ZV6u ?ZG3d ?ZV8f ?ZV8b ?ZY5z ?ZY5e ?ZY4m ?ZV4k ?ZU0m ?ZB1e ?ZB5k ?ZV9p ?ZC5r ?ZC6s ?ZV3k ?ZA7k ?ZB6c ?ZB3n ?ZB5w ?ZB0s ?ZA7q ?ZB2h ?ZB1a ?ZA8h ?ZB3f ?ZA9f ?ZA5p ?ZA7d ?ZB5j ?ZB2t ?ZB5v ?ZB0u ?ZA7t ?ZB1w ?ZB1t ?ZA8u ?ZB2f ?ZA9g ?ZA1w ?ZA7j ?ZA8q ?ZA5r ?ZA7x ?ZA5n ?ZA4k ?ZA5s ?ZB0r ?ZA7h ?ZB2m ?ZA9e ?ZA5q ?ZA8z ?ZA2v ?ZA1r ?ZA2w ?ZA1p ?ZA0w ?ZA1q ?Zsn ?Ztk ?Zio ?ZZ8r ?ZV3t ?ZV4h ?ZY3j ?ZY4a ?ZY0w ?ZY5t ?ZV4y ?ZV5u ?ZV8d ?ZV9y ?ZB8q ?ZC1c ?ZB9t ?ZC0c ?ZB4d ?ZZ6g ?ZY3c ?ZY0f ?ZV8n ?ZY3b ?ZV9n ?ZY5k ?ZY1a ?ZV4u ?ZY1c ?ZV3f ?ZC1x ?ZC1d ?ZB9q ?ZC1g ?ZB4e ?ZZ6x ?ZY1q ?ZY2f ?ZV7s ?ZV9f ?ZY2x ?ZY3g ?ZV7y ?ZY4n ?ZV8g ?ZV5c ?ZC1p ?ZB9e ?ZB8x ?ZB9g ?ZB4h ?ZZ7a ?ZV3s ?ZY0t ?ZV5b ?ZV9u ?ZY3t ?ZY0m ?ZV9b ?ZY2a ?ZY2q ?ZY6f ?ZB9n ?ZC1q ?ZB8u ?ZC1f ?ZB3z ?ZZ6h ?ZV5d ?ZV4w ?ZY3y ?ZV3q ?ZY2g ?ZY1t ?ZY4w ?ZV4q ?ZV8h ?ZV4t ?ZB9w ?ZB9s ?ZB8r ?ZC1e ?ZB4b ?ZZ8n ?ZY6e ?ZV7z ?ZV4f ?ZV8p ?ZY1f ?ZV8x ?ZV5h ?ZY4h ?ZV3p ?ZY3r ?ZC1n ?ZC1j ?ZB9c ?ZC0a ?ZB4g ?ZZ8c ?ZY6j ?ZY1x ?ZV5f ?ZY0v ?ZY4z ?ZY0d ?ZV7h ?ZV3j ?ZV7w ?ZV9v ?ZC1z ?ZB9a ?ZB9j ?ZB8n ?ZB3y ?ZZ7g ?ZV6k ?ZY0s ?ZV3u ?ZV5r ?ZV9q ?ZV5y ?ZY5y ?ZV4z ?ZV5t ?ZV6t ?ZB9r ?ZC2a ?ZC0k ?ZC0v ?ZB4a ?ZZ7u ?ZY0h ?ZV5a ?ZY0e ?ZV7b ?ZV9s ?ZY1m ?ZV5v ?ZY0q ?ZB9y ?ZC0g ?ZA8s ?ZB5t ?ZV6w ?ZV9t ?ZV4r ?ZV4b ?ZY5x ?ZG1s ?ZA8v ?ZA9a ?ZA8p ?ZA7n ?ZA3k ?ZB2k ?ZB0t ?ZB3d ?ZB3k ?ZA4x ?ZA8e ?ZA7g ?ZA8t ?ZA8c ?ZA3m ?ZB3c ?ZB0v ?ZB0y ?ZB3j ?ZA4y ?ZA8x ?ZA7s ?ZA8b ?ZA8a ?ZA3h ?ZB0x ?ZB1r ?ZB0z ?ZB2n ?ZA5c ?ZA8d ?ZA7r ?ZA7y ?ZA8n ?ZA3g ?ZB0q ?ZB1z ?ZB1m ?ZB1f ?ZA4v ?ZA7m ?ZA7f ?ZA8w ?ZA7b ?ZA3d ?ZB2p ?ZB1x ?ZB2r ?ZB0g ?ZA5d ?ZA7u ?ZA8r ?ZA8j ?ZA7e ?ZA3f ?ZB3a ?ZB2g ?ZB2e ?ZB0p ?ZA5a ?ZA7w ?ZA9d ?ZA7p ?ZA8k ?ZA3j ?ZB1g ?ZB1j ?ZB3b ?ZB3g ?ZA5e ?ZA8m ?ZA9b ?ZA9c ?ZA7c ?ZA3e ?ZB1p ?ZB0e ?ZB2z ?ZB2v ?ZA4w ?ZZ6k ?ZV8s ?ZY6b ?ZY4p ?ZV4v ?ZV4g ?ZV9x ?ZB8v ?ZC1w ?ZB6f ?ZC0e ?ZB5z ?ZA8g ?ZY2u ?ZY2r ?ZY3w ?ZV5p ?ZV3z ?ZU2w ?ZB6b ?ZB5u ?ZB5s ?ZB5x ?ZA8y ?ZB2u ?ZB1k ?ZB0h ?ZB1c ?ZA4z ?ZC5e ?ZC5v ?ZC6q ?ZC7n ?ZB7m ?ZB2j ?ZB0f ?ZB1u ?ZB2q ?ZA5f ?ZZ6r ?ZY6c ?ZV6g ?ZV5n ?ZY4c ?ZV4j ?ZY6a ?ZV4a ?ZY5n ?ZC7b ?ZB2d ?ZB5r ?ZV7e ?ZV9z ?ZY3a ?ZY0k ?ZY5c ?ZG7a ?ZB6e ?ZB5n ?ZB5m ?ZB6d ?ZA8f ?ZD6f ?ZD5h ?ZG2r ?ZG4g ?ZC3b ?ZZ7j ?ZY3f ?ZZ0q ?ZZ2e ?ZZ1u ?ZY9x ?ZZ2s ?ZZ6m ?Zcty ?Zccl ?Zcex ?Zsub5 ?Zxga5 ?Zxgh5 ?Zxca5 ?Zxob5 ?Zxbe5 ?Zxcl5 ?Zip ?Ziq ?Zir ?Ziu ?Ziv ?Zhv5 ?ZlT ?ZlN ?ZalN ?ZniT ?ZlT1 ?ZsaT ?Znsg5 ?ZZ0u ?ZZ6u ?ZZ7r ?ZfcT ?ZkTR ?Zq1 ?Zq2 ?Zq3 ?Zq4 ?Za_S ?ZlS ?ZB0m ?ZJ9s ?ZJ4u ?ZG1v ?ZC7r ?ZG3k ?ZD6h ?Zsub2 ?Zxga2 ?Zxgh2 ?Zxca2 ?Zxob2 ?Zxbe2 ?Zxcl2 ?ZZ6v ?ZZ6j ?ZZ7z ?ZZ6n ?ZZ7d ?Zhv2 ?Zhcode
   case ZB1q|ZB0n|ZB0k|ZB0w|ZG0h|ZG0v|ZG5c|ZG3f|ZC5z|ZC5t|ZC5b|ZC7e|ZD7f|ZG1k|ZD7u|ZG3r|ZG1m|ZD6c|ZG2n|ZD6w|ZV7g|ZY2z|ZV6v|ZY2m|ZC0p|ZB9h|ZC0w|ZC0m|ZU0p|ZJ3d|ZJ1x|ZJ1z|ZJ2k|ZJ4x|ZJ8t|ZJ6t|ZG1n|ZD5n|ZD8w|ZG1x|ZB6a|ZB5y|ZB5h|ZB5p|ZD7n|ZG2q|ZG2b|ZG1d|ZC5w|ZC6r|ZC6y|ZC7u|ZC0q|ZC1r|ZB8t|ZC0y|ZV8u|ZY4x|ZV8w|ZV5g => k_is
   case ZB9z|ZC1b|ZC0b|ZB8z|ZB9b|ZC0h|ZC1y|ZC0s|ZC4y|ZC5q|ZC7k|ZC6z|ZB9p|ZB9x|ZB9u|ZC0u|ZB3h|ZB0j|ZB2w|ZB3m|ZC5s|ZC7j|ZC6j|ZC6h|ZC7t|ZC7v|ZC5d|ZC5y|ZG3h|ZD6p|ZD7v|ZG0f|ZD5v|ZD8q|ZG4k|ZD5t|ZB8y|ZC0z|ZC1h|ZB9m|ZB9k|ZC0r|ZC1s|ZB8p|ZC5g|ZC6m|ZC5j|ZC5h|ZJ7u|ZJ4g|ZJ4n|ZJ9m|ZD6u|ZG4n|ZD9t|ZD5q|ZB9f|ZC1u|ZC0f|ZB8w => k_is
   case ZU0q|ZJ5n|ZJ8q|ZU0h|ZB1v|ZB2y|ZB2c|ZB2s|ZC7p|ZC6x|ZC5n|ZC7f|ZJ7p|ZJ4h|ZJ3n|ZJ8g|ZJ3a|ZJ9r|ZJ3j|ZJ6k|ZB2b|ZB1h|ZB1n|ZB1y|ZG3v|ZD8m|ZD7d|ZG1e|ZC0x|ZC1m|ZC1t|ZC1k|ZD8h|ZD7r|ZD5x|ZD6g|ZD8b|ZG0z|ZD6a|ZD8e|ZJ2v|ZJ2b|ZJ2s|ZJ4v|ZG3u|ZD9q|ZG2v|ZD7s|ZJ2m|ZJ2j|ZJ2d|ZJ8d|ZJ7k|ZJ9z|ZJ9p|ZJ9e|ZJ5c|ZJ8s|ZJ9q|ZJ9b => k_is
   case ZD8y|ZD8z|ZD5m|ZG2c|ZG1h|ZG5b|ZD5r|ZG4p|ZD6b|ZG3w|ZG2y|ZD9x|ZC5x|ZC6v|ZC5k|ZC4z|ZG1z|ZG5a|ZG1a|ZD6y|ZD7c|ZG2a|ZG1w|ZG0j|ZJ6r|ZJ2y|ZJ1y|ZJ2z|ZU3a|ZV7u|ZY1d|ZY1g|ZA7v|ZY3n|ZJ3v|ZV3n|ZJ7b|ZD9d|ZJ5h|ZV6u|ZG3d|ZV8f|ZV8b|ZY5z|ZY5e|ZY4m|ZV4k|ZU0m|ZB1e|ZB5k|ZV9p|ZC5r|ZC6s|ZV3k|ZA7k => k_is
   case ZB6c|ZB3n|ZB5w|ZB0s|ZA7q|ZB2h|ZB1a|ZA8h|ZB3f|ZA9f|ZA5p|ZA7d|ZB5j|ZB2t|ZB5v|ZB0u|ZA7t|ZB1w|ZB1t|ZA8u|ZB2f|ZA9g|ZA1w|ZA7j|ZA8q|ZA5r|ZA7x|ZA5n|ZA4k|ZA5s|ZB0r|ZA7h|ZB2m|ZA9e|ZA5q|ZA8z|ZA2v|ZA1r|ZA2w|ZA1p|ZA0w|ZA1q => kit_is
   case Zsn|Ztk|Zio|ZZ8r|ZV3t|ZV4h|ZY3j|ZY4a|ZY0w|ZY5t|ZV4y|ZV5u|ZV8d => k_is
   case ZV9y => kit_is
   case ZB8q|ZC1c|ZB9t|ZC0c|ZB4d|ZZ6g|ZY3c|ZY0f|ZV8n|ZY3b|ZV9n|ZY5k|ZY1a|ZV4u|ZY1c => k_is
   case ZV3f => kit_is
   case ZC1x|ZC1d|ZB9q|ZC1g|ZB4e|ZZ6x|ZY1q|ZY2f|ZV7s|ZV9f|ZY2x|ZY3g|ZV7y|ZY4n|ZV8g => k_is
   case ZV5c => kit_is
   case ZC1p|ZB9e|ZB8x|ZB9g|ZB4h|ZZ7a|ZV3s|ZY0t|ZV5b|ZV9u|ZY3t|ZY0m|ZV9b|ZY2a|ZY2q => k_is
   case ZY6f => kit_is
   case ZB9n|ZC1q|ZB8u|ZC1f|ZB3z|ZZ6h|ZV5d|ZV4w|ZY3y|ZV3q|ZY2g|ZY1t|ZY4w|ZV4q|ZV8h => k_is
   case ZV4t => kit_is
   case ZB9w|ZB9s|ZB8r|ZC1e|ZB4b|ZZ8n|ZY6e|ZV7z|ZV4f|ZV8p|ZY1f|ZV8x|ZV5h|ZY4h|ZV3p => k_is
   case ZY3r => kit_is
   case ZC1n|ZC1j|ZB9c|ZC0a|ZB4g|ZZ8c|ZY6j|ZY1x|ZV5f|ZY0v|ZY4z|ZY0d|ZV7h|ZV3j|ZV7w => k_is
   case ZV9v => kit_is
   case ZC1z|ZB9a|ZB9j|ZB8n|ZB3y|ZZ7g|ZV6k|ZY0s|ZV3u|ZV5r|ZV9q|ZV5y|ZY5y|ZV4z|ZV5t => k_is
   case ZV6t => kit_is
   case ZB9r|ZC2a|ZC0k|ZC0v|ZB4a|ZZ7u|ZY0h|ZV5a|ZY0e|ZV7b|ZV9s|ZY1m|ZV5v|ZY0q|ZB9y|ZC0g|ZA8s|ZB5t|ZV6w|ZV9t|ZV4r|ZV4b|ZY5x => k_is
   case ZG1s => kit_is
   case ZA8v|ZA9a|ZA8p|ZA7n|ZA3k|ZB2k|ZB0t|ZB3d|ZB3k|ZA4x|ZA8e|ZA7g|ZA8t|ZA8c|ZA3m|ZB3c|ZB0v|ZB0y|ZB3j|ZA4y|ZA8x|ZA7s|ZA8b|ZA8a|ZA3h|ZB0x|ZB1r|ZB0z|ZB2n|ZA5c|ZA8d|ZA7r|ZA7y|ZA8n|ZA3g|ZB0q|ZB1z|ZB1m|ZB1f|ZA4v|ZA7m|ZA7f|ZA8w|ZA7b|ZA3d|ZB2p|ZB1x|ZB2r|ZB0g|ZA5d|ZA7u|ZA8r|ZA8j|ZA7e|ZA3f|ZB3a|ZB2g|ZB2e|ZB0p|ZA5a => k_is
   case ZA7w|ZA9d|ZA7p|ZA8k|ZA3j|ZB1g|ZB1j|ZB3b|ZB3g|ZA5e|ZA8m|ZA9b|ZA9c|ZA7c|ZA3e|ZB1p|ZB0e|ZB2z|ZB2v|ZA4w|ZZ6k|ZV8s|ZY6b|ZY4p|ZV4v|ZV4g|ZV9x|ZB8v|ZC1w|ZB6f|ZC0e|ZB5z|ZA8g|ZY2u|ZY2r|ZY3w|ZV5p|ZV3z|ZU2w|ZB6b|ZB5u|ZB5s|ZB5x|ZA8y|ZB2u|ZB1k|ZB0h|ZB1c|ZA4z|ZC5e|ZC5v|ZC6q|ZC7n|ZB7m|ZB2j|ZB0f|ZB1u|ZB2q|ZA5f|ZZ6r => k_is
   case ZY6c|ZV6g|ZV5n|ZY4c|ZV4j|ZY6a|ZV4a|ZY5n|ZC7b|ZB2d|ZB5r|ZV7e|ZV9z|ZY3a|ZY0k|ZY5c|ZG7a|ZB6e|ZB5n|ZB5m|ZB6d|ZA8f|ZD6f|ZD5h|ZG2r|ZG4g|ZC3b|ZZ7j => k_is
   case ZY3f => kit_is
   case ZZ0q|ZZ2e|ZZ1u|ZY9x|ZZ2s|ZZ6m|Zcty|Zccl|Zcex|Zsub5|Zxga5|Zxgh5|Zxca5|Zxob5|Zxbe5|Zxcl5 => k_is
   case Zip|Ziq|Zir|Ziu|Ziv|Zhv5 => kit_is
   case ZlT|ZlN => k_is
   case ZalN => simp
   case ZniT|ZlT1|ZsaT|Znsg5|ZZ0u|ZZ6u|ZZ7r => k_is
   case ZfcT => rfl
   case ZkTR => kit_is
   case Zq1|Zq2|Zq3|Zq4 => k_exc
   case Za_S|ZlS => k_is
   case ZB0m|ZJ9s|ZJ4u|ZG1v|ZC7r|ZG3k|ZD6h => kit_is
   case Zsub2|Zxga2|Zxgh2|Zxca2|Zxob2|Zxbe2|Zxcl2 => k_is
   case ZZ6v|ZZ6j|ZZ7z|ZZ6n|ZZ7d|Zhv2 => kit_is
   case Zhcode => rfl

