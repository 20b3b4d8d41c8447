import PyProof.Rows.All
import Wide.All
import OpenK.KLine
import OpenK.KOwn
import KE.RegKIsAll
import KE.KItem
import KE.LcSums
import KE.KPairTest
import Wide.FinOn
import Lean
import PyProof.EqAt
import PyProof.EqKinds
import PyProof.TupleCall
import PyProof.Rows.Catch
import PyProof.Rows.TupIter
import PyProof.TupleIter
import PyProof.Seq
import PyProof.ExcInit
import PyProof.ExcClass2
import KE.KIntText
import PyProof.StrOps2
import PyProof.ConsumeWalk
import PyProof.Rows.RuleM_int
import PyProof.ZipIter
import PyProof.EnumMake
import PyProof.Rows.TupAssign
import PyProof.Rows.Range3
import PyProof.DictWalks
import PyProof.DictUpdate
import PyProof.P3In
import PySem.Challenge.RW_tenreckon_k03_texts_read
set_option Elab.async false
set_option linter.all false
set_option maxRecDepth 100000
namespace L2
open PySem PySem.Spec PyProof.Rows
noncomputable abbrev Key:=Sum Int Str
noncomputable def B8y:Key ->Value ->Bool
 | .inl k,v=>Value.isInt k v
 | .inr x,v=>Value.isStrOf x v
noncomputable def C3y (w:World):Key ->Int
 | .inl k=>hashInt k
 | .inr x=>hashStr w x
theorem G3:∀{k:Key} {v:Value},B8y k v=true ->(∃i t,k=Sum.inl i/\v=Value.int i t)\/(∃x t,k=Sum.inr x/\v=Value.str x t)
 | .inl i,v,h=>by
   obtain⟨t,e⟩:=Value.isInt_shape (k:=i) (v:=v) h
   exact .inl ⟨i,t,rfl,e⟩
 | .inr x,v,h=>by
   obtain⟨t,e⟩:=Value.isStrOf_shape (x:=x) (v:=v) h
   exact .inr ⟨x,t,rfl,e⟩
theorem C0w(a b:Int):decide ((Sum.inl a:Key)=Sum.inl b)=(a==b):=by
 by_cases e:a=b
 . subst e;simp
 . have h:¬(Sum.inl a:Key)=Sum.inl b:=fun q=>e (Sum.inl.inj q)
   rw[decide_eq_false h]
   exact(beq_eq_false_iff_ne.mpr e).symm
theorem C0t(a b:Str):decide ((Sum.inr a:Key)=Sum.inr b)=decide (a=b):=by
 by_cases e:a=b
 . subst e;simp
 . have h:¬(Sum.inr a:Key)=Sum.inr b:=fun q=>e (Sum.inr.inj q)
   rw[decide_eq_false h,decide_eq_false e]
theorem B9y(a:Int)(b:Str):decide ((Sum.inl a:Key)=Sum.inr b)=false:=decide_eq_false (fun q=>nomatch q)
theorem B9t(a:Str)(b:Int):decide ((Sum.inr a:Key)=Sum.inl b)=false:=decide_eq_false (fun q=>nomatch q)
noncomputable def B0y (prog:Program) (w:World):PySem.KeyKind prog w Key where
 is:=B8y
 hash:=C3y w
 inj :=fun v a b ha hb=>by
   rcases G3 ha with⟨i,t,rfl,rfl⟩|⟨x,t,rfl,rfl⟩
   . rcases G3 hb with⟨j,u,rfl,e⟩|⟨y,u,rfl,e⟩
     . injection e with e1 _;rw[e1]
     . exact nomatch e
   . rcases G3 hb with⟨j,u,rfl,e⟩|⟨y,u,rfl,e⟩
     . exact nomatch e
     . injection e with e1 _;rw[e1]
 byValue:=fun k v h=>by
   rcases G3 h with⟨i,t,rfl,rfl⟩|⟨x,t,rfl,rfl⟩<;>rfl
 pyHash:=fun hv h=>by
   rcases G3 hv with⟨i,t,rfl,rfl⟩|⟨x,t,rfl,rfl⟩
   . exact wpAny_pyHash_int h
   . exact wpAny_pyHash_str h
 eqBool:=fun hu hv h=>by
   rcases G3 hu with⟨i,t,rfl,rfl⟩|⟨x,t,rfl,rfl⟩
   . rcases G3 hv with⟨j,u,rfl,rfl⟩|⟨y,u,rfl,rfl⟩
     . rw[C0w] at h;exact wpAny_eqBool_int h
     . rw[B9y] at h;exact SeqAt.EqAt.int_str i t y u _ _ _ _ h
   . rcases G3 hv with⟨j,u,rfl,rfl⟩|⟨y,u,rfl,rfl⟩
     . rw[B9t] at h;exact SeqAt.EqAt.str_int x t j u _ _ _ _ h
     . rw[C0t] at h;exact wpAny_eqBool_str h
 «strs» := fun k x t v h => by
   rcases G3 h with⟨i,u,rfl,e⟩|⟨y,u,rfl,e⟩
   . exact nomatch e
   . injection e with e1 _
     subst e1
     cases v<;>rfl
inductive V where
 |non|bl (b:Bool)|int (i:Int)|str (x:Str)|byt (b:Array UInt8)|flt (b:UInt64)|ref (a:Addr)|ty (n:String)
 deriving DecidableEq
noncomputable def RelV:V ->Value ->Prop
 | .non,u=>u=Value.none
 | .bl b,u=>u=Value.bool b
 | .int i,u=>∃t,u=Value.int i t
 | .str x,u=>∃t,u=Value.str x t
 | .byt b,u=>∃t,u=Value.bytes b t
 | .flt b,u=>∃t,u=Value.float b t
 | .ref a,u=>u=Value.ref a
 | .ty n,u=>u=Value.type n
noncomputable abbrev Vals:List V ->List Value ->Prop:=Paired RelV
theorem Vals.length{xs:List V}{us:List Value}(r:Vals xs us):xs.length=us.length:=Paired.length r
theorem Vals.get:∀{xs:List V} {us:List Value} {i:Nat} {x:V},Vals xs us ->xs[i]?=some x ->∃u,us[i]?=some u/\RelV x u
 |_,_,_,_,.nil,e=>by simp at e
 |_,_,0,_,.cons r _,e=>by simp at e;subst e;exact⟨_,rfl,r⟩
 | _,_,i+1,x,.cons _ t,e=>by
   obtain⟨u,h1,h2⟩:=Vals.get (i:=i) (x:=x) t (by simpa using e)
   exact⟨u,by simpa using h1,h2⟩
theorem Vals.append:∀{xs ys:List V} {us ws:List Value},Vals xs us ->Vals ys ws ->Vals (xs++ys) (us++ws)
 |_,_,_,_,.nil,s=>s
 |_,_,_,_,.cons r t,s=> .cons r (Vals.append t s)
noncomputable def RelO:Option V ->Option Value ->Prop
 |some v,some u=>RelV v u
 |none,none=>True
 |_,_=>False
noncomputable def KV {κ:Type}:List (κ×V) ->List (κ×Value) ->Prop:=Paired fun(p:κ×V) (q:κ×Value)=>p.1=q.1/\RelV p.2 q.2
noncomputable def kV:Key ->V
 | .inl i=> .int i
 | .inr x=> .str x
inductive HO where
 |lst (xs:List V)
 |tup (xs:List V)
 |dK (kvs:List (Key×V))|dT (kvs:List (List Key×V))
 |set (S:Int ->Bool) (n:Nat)
 |ins (C dx:Addr) (fs:List (Str×V))
 |own (x:Addr)
 |xd (fs:List (Str×V))
 |met (f x:Addr)
 |rng (lo hi:Int)
 |frz (o:Obj) (u:HO)
 |tbl (ps:Array Value)
 |ext (φ:Heap ->Prop)
noncomputable abbrev Hp:=Addr ->Option HO
noncomputable def upd (H:Hp) (a:Addr) (o:HO):Hp:=fun b=>if b=a then some o else H b
theorem A9{H:Hp}{a:Addr}{o:HO}:upd H a o a=some o:=by unfold upd;rw[if_pos rfl]
theorem D3{H:Hp}{a b:Addr}{o:HO}(h:b≠a):upd H a o b=H b:=by unfold upd;rw[if_neg h]
theorem B6z{H:Hp}{a:Addr}{o u:HO}:upd (upd H a o) a u=upd H a u:=by
 funext b;unfold upd;split<;>rfl
theorem G5{H:Hp}{a b:Addr}{o:HO}(h:H a=some o)(h':H b=none):a≠b:=by
 intro e;subst e;rw[h] at h';cases h'
section
variable(P:Program)(w:World)
noncomputable def ObjOk (H:Hp) (h:Heap) (a:Addr):HO ->Prop
 | .lst xs=>xs.length<=sizeLine/\∃(its:List Value) (n:Nat),Vals xs its/\h.get? a=some {cls:= .type "list",data:= .seq its.toArray n}
 | .tup xs=>xs.length<=sizeLine/\∃its:List Value,Vals xs its/\IsTup h a its.toArray
 | .dK kvs=>kvs.length<=sizeLine/\(a==sysModules)=false/\∃vs,KV kvs vs/\h.DictOf (B0y P w) a vs
 | .dT kvs=>kvs.length<=sizeLine/\(a==sysModules)=false/\∃xs:List (List Key×Addr×Value),
     Paired (fun(p:List Key×V) (q:List Key×Addr×Value)=>p.1=q.1/\H q.2.1=some (.tup (p.1.map kV))/\RelV p.2 q.2.2) kvs xs/\
     ∃o es ep,h.get? a=some o/\o.ExactDict/\o.data= .dict es ep/\es.toList=xs.map (entryOfKey (tupleKind (B0y P w)))/\(xs.map (·.1)).Nodup
 | .set S n=>h.SetOf (intKind P w) a S n
 | .ins C dx fs=>H dx=some (.own a)/\fs.length<=1000/\dx≠a/\h.get? a=some (PySem.W.instObj C dx)/\
     ∃mA,h.Ns1 dx mA/\(∀f,RelO (fs.lookup f) (mA f))/\PySem.Within mA (fs.map (·.1))
 | .own _=>∃o,h.get? a=some o
 | .xd fs=>∃mA,h.Ns1 a mA/\∀f,RelO (fs.lookup f) (mA f)
 | .rng lo hi=>∃t u v,h.get? a=some {cls:= .type "range",data:= .fields #[.int lo t,.int hi u,.int 1 v]}
 | .frz o u=>h.get? a=some o/\ObjOk H h a u
 | .tbl ps=>h.get? a=some {cls:= .none,data:= .fields ps}
 | .met f x=>h.get? a=some (PySem.W.methodObj (.ref f) (.ref x))
 | .ext φ=>φ h/\(∃o,h.get? a=some o)/\∀h1 h2:Heap,φ h1 ->(∀o,h1.get? a=some o ->h2.get? a=some o) ->φ h2
noncomputable def HOk (H:Hp) (h:Heap):Prop:=∀a o,H a=some o ->ObjOk P w H h a o
end
section
variable{P:Program}{w:World}{H H':Hp}{h h':Heap}{a:Addr}{o:HO}
theorem ObjOk.lt(x:ObjOk P w H h a o):a<h.objs.size:=by
 cases o with
 |lst xs=>obtain⟨_,_,_,_,e⟩:=x;exact Heap.lt_size e
 |tup xs=>obtain⟨_,_,_,p⟩:=x;exact p.lt
 |dK kvs=>obtain⟨_,_,_,_,o,_,_,e,_⟩:=x;exact Heap.lt_size e
 |dT kvs=>obtain⟨_,_,_,_,o,_,_,e,_⟩:=x;exact Heap.lt_size e
 |set S n=>obtain⟨o,_,_,_,e,_⟩:=x;exact Heap.lt_size e
 |ins C dx fs=>obtain⟨_,_,_,e,_⟩:=x;exact Heap.lt_size e
 |own y=>obtain⟨_,e⟩:=x;exact Heap.lt_size e
 |xd fs=>obtain⟨_,⟨_,_,_,e,_⟩,_⟩:=x;exact Heap.lt_size e
 |rng lo hi=>obtain⟨_,_,_,e⟩:=x;exact Heap.lt_size e
 |frz ob u=>obtain⟨e,_⟩:=x;exact Heap.lt_size e
 |tbl ps=>exact Heap.lt_size (show h.get? a=some _ from x)
 |met f y=>exact Heap.lt_size (show h.get? a=some _ from x)
 |ext φ=>obtain⟨_,⟨_,e⟩,_⟩:=x;exact Heap.lt_size e
theorem Paired.mapP{α β:Type}{F G:α ->β ->Prop}:∀{l₁:List α} {l₂:List β},Paired F l₁ l₂ ->(∀a b,F a b ->G a b) ->Paired G l₁ l₂
 |_,_,.nil,_=> .nil
 |_,_,.cons r t,f=> .cons (f _ _ r) (Paired.mapP t f)
theorem ObjOk.stay(x:ObjOk P w H h a o)(k:∀b u,(b=a\/H b=some (.own a)) ->h.get? b=some u ->h'.get? b=some u)
   (ho:∀b,H b=some (.own a) ->H' b=some (.own a)) (ht:∀b xs,H b=some (.tup xs) ->H' b=some (.tup xs)):ObjOk P w H' h' a o:=by
 induction o with
 |lst xs=>obtain⟨z,its,n,r,e⟩:=x;exact⟨z,its,n,r,k _ _ (.inl rfl) e⟩
 |tup xs=>obtain⟨z,its,r,ob,e,c⟩:=x;exact⟨z,its,r,ob,k _ _ (.inl rfl) e,c⟩
 |dK kvs=>obtain⟨z,y,vs,r,ob,es,ep,e,c⟩:=x;exact⟨z,y,vs,r,ob,es,ep,k _ _ (.inl rfl) e,c⟩
 | dT kvs=>
   obtain⟨z,y,xs,r,ob,es,ep,e,c⟩:=x
   exact⟨z,y,xs,Paired.mapP r fun p q z=>⟨z.1,ht _ _ z.2.1,z.2.2⟩,ob,es,ep,k _ _ (.inl rfl) e,c⟩
 |set S n=>obtain⟨ob,es,ep,t,e,c⟩:=x;exact⟨ob,es,ep,t,k _ _ (.inl rfl) e,c⟩
 | ins C dx fs=>
   obtain⟨d,z,ne,e,mA,⟨od,es,ep,e2,c⟩,r⟩:=x
   exact⟨ho _ d,z,ne,k _ _ (.inl rfl) e,mA,⟨od,es,ep,k _ _ (.inr d) e2,c⟩,r⟩
 |own y=>obtain⟨ob,e⟩:=x;exact⟨ob,k _ _ (.inl rfl) e⟩
 |xd fs=>obtain⟨mA,⟨od,es,ep,e,c⟩,r⟩:=x;exact⟨mA,⟨od,es,ep,k _ _ (.inl rfl) e,c⟩,r⟩
 |rng lo hi=>obtain⟨t,u,v,e⟩:=x;exact⟨t,u,v,k _ _ (.inl rfl) e⟩
 |frz ob u ih=>obtain⟨e,q⟩:=x;exact⟨k _ _ (.inl rfl) e,ih q⟩
 | tbl ps=>
   have e:h.get? a=some {cls:= .none,data:= .fields ps}:=x
   show h'.get? a=some {cls:= .none,data:= .fields ps}
   exact k a _ (.inl rfl) e
 | met f y=>
   have e:h.get? a=some (PySem.W.methodObj (.ref f) (.ref y)):=x
   show h'.get? a=some (PySem.W.methodObj (.ref f) (.ref y))
   exact k a _ (.inl rfl) e
 |ext φ=>obtain⟨p,⟨o,e⟩,st⟩:=x;exact⟨st _ _ p fun o q=>k _ _ (.inl rfl) q,⟨o,k _ _ (.inl rfl) e⟩,st⟩
theorem HOk.lt(x:HOk P w H h)(e:H a=some o):a<h.objs.size:=(x a o e).lt
theorem HOk.fresh(x:HOk P w H h)(e:h.objs.size<=a):H a=none:=by
 cases q:H a with
 |none=>rfl
 |some u=>exact absurd (Nat.lt_of_lt_of_le (x.lt q) e) (Nat.lt_irrefl _)
theorem HOk.kept(x:HOk P w H h)(k:∀b u,h.get? b=some u ->h'.get? b=some u):HOk P w H h':=fun a o e=>
 (x a o e).stay (fun b u _ q=>k b u q) (fun _ q=>q) fun _ _ q=>q
theorem HOk.laid(x:HOk P w H h)(k:∀b u,h.get? b=some u ->h'.get? b=some u)(hp:h.objs.size<=a)(new:ObjOk P w (upd H a o) h' a o):HOk P w (upd H a o) h':=fun b u e=>by
 have hn:=x.fresh hp
 by_cases hb:b=a
 . subst hb;rw[A9] at e;cases e;exact new
 . rw[D3 hb] at e
   exact(x b u e).stay (fun c v _ q=>k c v q) (fun c q=>by rw[D3 (G5 q hn)];exact q) fun c xs q=>by rw[D3 (G5 q hn)];exact q
end
noncomputable def Rd (H:Hp) (a:Addr) (u:HO):Prop:=H a=some u\/∃o,H a=some (.frz o u)
theorem Rd.ok{P:Program}{w:World}{H:Hp}{h:Heap}{a:Addr}{u:HO}(r:Rd H a u)(x:HOk P w H h):ObjOk P w H h a u:=by
 rcases r with r|⟨o,r⟩
 . exact x a u r
 . obtain⟨_,q⟩:=x a _ r
   exact q
noncomputable def Mut:Option HO ->Prop
 |some (.lst _)=>True
 |some (.dK _)=>True
 |some (.dT _)=>True
 |some (.set _ _)=>True
 |some (.ins _ _ _)=>True
 |some (.ext _)=>True
 |_=>False
section
variable{P:Program}{w:World}{H:Hp}{h h':Heap}{x e:Addr}{o':HO}
theorem HOk.write(ok:HOk P w H h)(mu:Mut (H x))(he:e=x\/H e=some (.own x))(k:∀b u,b≠e ->h.get? b=some u ->h'.get? b=some u)(heo:∃u,h'.get? e=some u)
   (new:ObjOk P w (upd H x o') h' x o'):HOk P w (upd H x o') h':=fun b u q=>by
 have nown:∀c y,H c=some (.own y) ->c≠x:=fun c y r z=>by subst z;rw[r] at mu;exact mu
 have ntup:∀c xs,H c=some (.tup xs) ->c≠x:=fun c xs r z=>by subst z;rw[r] at mu;exact mu
 by_cases hb:b=x
 . subst hb;rw[A9] at q;cases q;exact new
 . rw[D3 hb] at q
   by_cases hbe:b=e
   . have q':H b=some (.own x):=by
       rcases he with z|z
       . exact absurd (hbe.trans z) hb
       . rw[hbe];exact z
     rw[q] at q';cases q'
     obtain⟨v,hv⟩:=heo
     exact⟨v,by rw[hbe];exact hv⟩
   . refine(ok b u q).stay (fun c v hc r=>k c v ?_ r) (fun c r=>by rw[D3 (nown c b r)];exact r) fun c xs r=>by rw[D3 (ntup c xs r)];exact r
     rcases hc with rfl|hc
     . exact hbe
     . rintro rfl
       rcases he with z|z
       . exact nown c b hc z
       . rw[hc] at z;cases z;exact hb rfl
end
structure Un(fs ex:List Addr)(H H':Hp)(h h':Heap):Prop where
 keep:∀b o,h.get? b=some o ->H b=none ->b ∉ fs ->b ∉ ex ->h'.get? b=some o
 slot:∀b o,h.get? b=some o ->H b=none ->b∈fs ->b ∉ ex ->∃sl,h'.get? b=some {o with slots:=sl}
 free:∀b o,h.get? b=some o ->H b=none ->b ∉ ex ->H' b=none
 there:∀b o,h.get? b=some o ->b ∉ ex ->∃o',h'.get? b=some o'
 tups:∀b xs,H b=some (.tup xs) ->H' b=some (.tup xs)
 frzs:∀b o u,H b=some (.frz o u) ->H' b=some (.frz o u)
 tbls:∀b ps,H b=some (.tbl ps) ->∃more,H' b=some (.tbl (ps++more))
section
variable{fs fs' ex ex':List Addr}{H H1 H2:Hp}{h h1 h2 h':Heap}{a x e:Addr}{o:HO}
theorem Un.any(u:Un fs ex H H1 h h1){b:Addr}{ob:Obj}(q:h.get? b=some ob)(n:H b=none)(hx:b ∉ ex):∃sl,h1.get? b=some {ob with slots:=sl}:=by
 by_cases hb:b∈fs
 . exact u.slot b ob q n hb hx
 . exact⟨ob.slots,u.keep b ob q n hb hx⟩
theorem Un.kept(k:∀b u,h.get? b=some u ->h'.get? b=some u):Un fs ex H H h h':=
 ⟨fun b ob q _ _ _=>k b ob q,fun b ob q _ _ _=>⟨ob.slots,k b ob q⟩,fun _ _ _ n _=>n,fun b ob q _=>⟨ob,k b ob q⟩,fun _ _ q=>q,fun _ _ _ q=>q,fun _ ps q=>⟨#[],by rw[q];simp⟩⟩
theorem Un.refl:Un fs ex H H h h:=Un.kept fun _ _ q=>q
theorem Un.laid(k:∀b u,h.get? b=some u ->h'.get? b=some u)(hp:h.objs.size<=a)(hn:H a=none):Un fs ex H (upd H a o) h h' where
 keep:=fun b u q _ _ _=>k b u q
 slot:=fun b u q _ _ _=>⟨u.slots,k b u q⟩
 free:=fun b u q n _=>by rw[D3 (Nat.ne_of_lt (Nat.lt_of_lt_of_le (Heap.lt_size q) hp))];exact n
 there:=fun b u q _=>⟨u,k b u q⟩
 tups:=fun b xs q=>by rw[D3 (G5 q hn)];exact q
 frzs:=fun b u xs q=>by rw[D3 (G5 q hn)];exact q
 tbls:=fun b ps q=>⟨#[],by rw[D3 (G5 q hn),q];simp⟩
theorem Un.write(mu:Mut (H x))(he:e=x\/H e=some (.own x))(k:∀b u,b≠e ->h.get? b=some u ->h'.get? b=some u)(heo:∃u,h'.get? e=some u):Un fs ex H (upd H x o) h h':=by
 have hx:∀b,H b=none ->b≠x:=fun b n z=>by subst z;rw[n] at mu;exact mu
 have hb:∀b,H b=none ->b≠e:=fun b n z=>by
   subst z
   rcases he with r|r
   . exact hx b n r
   . rw[n] at r;cases r
 have hm:∀b u,H b=some u ->¬Mut (some u) ->b≠x:=fun b u q nm z=>by subst z;rw[q] at mu;exact nm mu
 refine⟨fun b u q n _ _=>k b u (hb b n) q,fun b u q n _ _=>⟨u.slots,k b u (hb b n) q⟩,fun b u q n _=>by rw[D3 (hx b n)];exact n,fun b u q _=>?_,
   fun b xs q=>by rw[D3 (hm b _ q fun z=>z)];exact q,fun b u xs q=>by rw[D3 (hm b _ q fun z=>z)];exact q,fun b ps q=>⟨#[],by rw[D3 (hm b _ q fun z=>z),q];simp⟩⟩
 by_cases hbe:b=e
 . subst hbe;exact heo
 . exact⟨u,k b u hbe q⟩
end
noncomputable def trk (h:Heap) (H:Hp):List Addr:=(List.range h.objs.size).filter fun a=>(H a).isSome
noncomputable def A6n (h:Heap) (H:Hp):Heap:=PySem.W.hideAll h (trk h H)
theorem B2r(h:Heap)(H:Hp):(A6n h H).objs.size=h.objs.size:=PySem.W.hideAll_size _ _
theorem B5b{h:Heap}{H:Hp}{b:Addr}{o:Obj}(e:h.get? b=some o)(n:H b=none):(A6n h H).get? b=some o:=
 PySem.W.hideAll_get _ e fun hm=>by
   have q:(H b).isSome=true:=(List.mem_filter.mp hm).2
   rw[n] at q;simp at q
theorem B8c{h:Heap}{H:Hp}{b:Addr}{o:Obj}(e:(A6n h H).get? b=some o):h.get? b=some o/\H b=none:=by
 have e':h.get? b=some o:=PySem.W.of_hideAll (trk h H) e
 refine⟨e',?_⟩
 cases q:H b with
 |none=>rfl
 | some x=>
   have hm:b∈trk h H:=List.mem_filter.mpr ⟨List.mem_range.mpr (Heap.lt_size e'),by simp[q]⟩
   have z:(A6n h H).get? b=none:=PySem.W.hideAll_none (trk h H) hm
   rw[z] at e;cases e
structure Mod(K:PySem.W.Frag)(mg:Str ->Option Value)(base:Heap):Prop where
 kin:K.In base
 glob:base.Ns mainGlobals mg
 blt:∃mb,base.Ns builtinsNs mb/\∀x:Str,x≠"__name__" ->mb x=bootBuiltins x
 nolimit:base.NoLimit
structure Cx where
 prog:Program
 w:World
 K:PySem.W.Frag
 mg:Str ->Option Value
 base:Heap
 A:Around
 N:List Str
 s₀:Shared
 H₀:Hp
 env:Env
 outer:List Env
 stack:List Env
 ex:List Addr
 fn:Str ->Bool
 calm:Bool
 pn:List (Addr×Obj)
 xe:Value ->Shared ->Prop
noncomputable def frs (l:List Env):List Addr:=l.filterMap (·.frame)
noncomputable abbrev Cx.fs (X:Cx):List Addr:=frs X.outer
noncomputable def Vis (sc:Scope) (x:Str):Prop:=sc.names.lookup x=some .local\/sc.names.lookup x=some .cell\/sc.names.lookup x=some .free
noncomputable def Loc (sc:Scope) (x:Str):Prop:=sc.names.lookup x=some .local\/sc.names.lookup x=some .cell
noncomputable def C3p (env:Env) (h:Heap) (m:Str ->Option Value) (x:Str) (u:Value):Prop:=
 (env.kindOf x=some .local/\m x=some u)\/((env.kindOf x=some .cell\/env.kindOf x=some .free)/\∃c,env.cells.lookup x=some c/\h.IsCell c (some u))
structure Cx.Ok(X:Cx):Prop where
 mod:Mod X.K X.mg X.base
 kind:X.env.scope.kind= .function
 glob:X.env.globals=mainGlobals
 blt:X.env.builtins=builtinsNs
 above:X.s₀.heap.objs.size<=X.env.locals
 inj:∀x y c,X.env.cells.lookup x=some c ->X.env.cells.lookup y=some c ->x=y
 has:∀x,(X.env.kindOf x=some .cell\/X.env.kindOf x=some .free) ->∃c,X.env.cells.lookup x=some c
 cab:∀x c,X.fn x=true ->X.env.cells.lookup x=some c ->X.s₀.heap.objs.size<=c
 hd:X.calm=true ->X.A.handled=none
 frames:X.A.frames=some X.stack
 stk:X.stack=X.outer\/(X.stack=X.env::X.outer/\X.env.frame=some X.env.locals)
 exf:∀b∈X.ex,b≠X.env.locals/\∀x c,X.env.cells.lookup x=some c ->c≠b
 bs:∀b o,X.base.get? b=some o ->X.s₀.heap.get? b=some o/\X.H₀ b=none
 bsz:X.base.objs.size<=X.s₀.heap.objs.size
 noex:∀b o,X.base.get? b=some o ->b ∉ X.ex
 exfs:∀b∈X.ex,b ∉ X.fs
 funs:X.s₀.heap.FunFrames X.base X.outer
 frf:∀b∈X.fs,X.H₀ b=none
structure Inv(X:Cx)(pins:List (Addr×Obj))(σ:List (Option V))(H:Hp)(s:Shared):Prop where
 ok:X.Ok
 os:s.os=X.s₀.os
 bare:AllBare s.gens
 base:Un X.fs X.ex X.H₀ H X.s₀.heap s.heap
 loc:∃m,s.heap.Ns X.env.locals m/\∀(i:Nat) (x:Str) (v:V),X.N[i]?=some x ->σ[i]?=some (some v) ->Vis X.env.scope x ->∃u,RelV v u/\C3p X.env s.heap m x u
 cell:∀x c,X.env.cells.lookup x=some c ->∃v,s.heap.IsCell c v
 free:H X.env.locals=none
 freeC:∀x c,X.env.cells.lookup x=some c ->H c=none
 pin:∀p∈X.pn++pins,s.heap.get? p.1=some p.2/\H p.1=none/\p.1≠X.env.locals/\p.1 ∉ X.fs/\∀v,p.2.data≠ .cell v
 hok:HOk X.prog X.w H s.heap
 len:σ.length=X.N.length
section
variable{X:Cx}{pins:List (Addr×Obj)}{σ:List (Option V)}{H H':Hp}{s:Shared}{h':Heap}
theorem Cx.Ok.nofr(ok:X.Ok){b:Addr}{o:Obj}(e:X.base.get? b=some o):b ∉ X.fs:=fun hb=>by
 have:=(ok.funs.mem hb).1
 rw[e] at this;cases this
theorem Inv.bs(I:Inv X pins σ H s):∀b o,X.base.get? b=some o ->s.heap.get? b=some o/\H b=none:=fun b o e=>
 ⟨I.base.keep b o (I.ok.bs b o e).1 (I.ok.bs b o e).2 (I.ok.nofr e) (I.ok.noex b o e),I.base.free b o (I.ok.bs b o e).1 (I.ok.bs b o e).2 (I.ok.noex b o e)⟩
theorem Inv.bk(I:Inv X pins σ H s):∀b o,X.base.get? b=some o ->s.heap.get? b=some o:=fun b o e=>(I.bs b o e).1
theorem Inv.mod(I:Inv X pins σ H s):Mod X.K X.mg X.base:=I.ok.mod
theorem Inv.kIn(I:Inv X pins σ H s):X.K.In s.heap:=I.ok.mod.kin.keeps I.bk
theorem Inv.lt(I:Inv X pins σ H s):X.env.locals<s.heap.objs.size:=let⟨_,hn,_⟩:=I.loc;hn.lt
theorem Inv.sz(I:Inv X pins σ H s):X.s₀.heap.objs.size<=s.heap.objs.size:=Nat.le_trans I.ok.above (Nat.le_of_lt I.lt)
theorem Inv.nofs(I:Inv X pins σ H s){a:Addr}(h:s.heap.objs.size<=a):a ∉ X.fs:=fun hb=>by
 obtain⟨_,o,ho,_⟩:=I.ok.funs.mem hb
 exact absurd (Nat.lt_of_lt_of_le (Heap.lt_size ho) (Nat.le_trans I.sz h)) (Nat.lt_irrefl _)
theorem Inv.cne(I:Inv X pins σ H s):∀x c,X.env.cells.lookup x=some c ->c≠X.env.locals:=fun x c e z=>by
 obtain⟨v,o,ho,hd⟩:=I.cell x c e
 obtain⟨m,⟨o',es,ep,ho',hd',_⟩,_⟩:=I.loc
 rw[z,ho'] at ho;cases ho;rw[hd'] at hd;cases hd
theorem Inv.funs(I:Inv X pins σ H s):s.heap.FunFrames X.base X.outer:=by
 have all:∀(l:List Env),(∀b∈frs l,b∈X.fs) ->X.s₀.heap.FunFrames X.base l ->s.heap.FunFrames X.base l:=by
   intro l
   induction l with
   |nil=>intro _ _;trivial
   | cons env r ih=>
     intro hs hl
     obtain⟨hk,⟨L,o,hf,hn,ho,hd⟩,hr⟩:=hl
     have hL:L∈X.fs:=hs L (by unfold frs;rw[List.filterMap_cons,hf];exact List.mem_cons_self)
     obtain⟨sl,e⟩:=I.base.slot L o ho (I.ok.frf L hL) hL fun z=>I.ok.exfs L z hL
     exact⟨hk,⟨L,_,hf,hn,e,hd⟩,ih (fun b hb=>hs b (by unfold frs;rw[List.filterMap_cons,hf];exact List.mem_cons_of_mem _ hb)) hr⟩
 exact all X.outer (fun _ hb=>hb) I.ok.funs
theorem Inv.stack(I:Inv X pins σ H s):s.heap.FunFrames X.base X.stack:=by
 rcases I.ok.stk with e|⟨e,hf⟩
 . rw[e];exact I.funs
 . rw[e]
   obtain⟨m,hn,_⟩:=I.loc
   refine .cons (by rw[I.ok.kind];decide) hf hn ?_ I.funs
   exact Heap.get?_none_of_le (Nat.le_trans I.ok.bsz I.ok.above)
theorem Inv.stkSub(I:Inv X pins σ H s):∀b∈frs X.stack,b∈X.env.locals::X.fs:=fun b hb=>by
 rcases I.ok.stk with e|⟨e,hf⟩
 . rw[e] at hb;exact List.mem_cons_of_mem _ hb
 . rw[e] at hb
   unfold frs at hb
   rw[List.filterMap_cons,hf] at hb
   exact hb
theorem Inv.stkFree(I:Inv X pins σ H s):∀b∈frs X.stack,H b=none:=fun b hb=>by
 rcases List.mem_cons.mp (I.stkSub b hb) with e|hb
 . rw[e];exact I.free
 . obtain⟨_,o,ho,_⟩:=I.ok.funs.mem hb
   exact I.base.free b o ho (I.ok.frf b hb) fun z=>I.ok.exfs b z hb
theorem Inv.step{g':Array GenState}{t':Nat}{d':Drawn}{ch:List Addr}(I:Inv X pins σ H s)
   (hch:∀b∈ch,(b∈X.ex\/X.s₀.heap.objs.size<=b)/\b≠X.env.locals/\(∀x c,X.env.cells.lookup x=some c ->c≠b)/\∀p∈X.pn++pins,p.1≠b)
   (keep:∀b o,b≠X.env.locals ->b ∉ X.fs ->b ∉ ch ->s.heap.get? b=some o ->H b=none ->h'.get? b=some o)
   (slot:∀b o,b≠X.env.locals ->b∈X.fs ->b ∉ ch ->s.heap.get? b=some o ->H b=none ->∃sl,h'.get? b=some {o with slots:=sl}) (free:∀b o,b ∉ ch ->s.heap.get? b=some o ->H b=none ->H' b=none)
   (there:∀b o,b ∉ ch ->s.heap.get? b=some o ->∃o',h'.get? b=some o')
   (tups:∀b xs,H b=some (.tup xs) ->H' b=some (.tup xs)) (frzs:∀b o u,H b=some (.frz o u) ->H' b=some (.frz o u)) (tbls:∀b ps,H b=some (.tbl ps) ->∃more,H' b=some (.tbl (ps++more)))
   (ns:∀m,s.heap.Ns X.env.locals m ->h'.Ns X.env.locals m) (hok:HOk X.prog X.w H' h') (hg:AllBare g'):
   Inv X pins σ H' {s with heap:=h',gens:=g',drawn:=d',toks:=t'}:=by
 have neL:∀b o,X.s₀.heap.get? b=some o ->b≠X.env.locals:=fun b o e=>Nat.ne_of_lt (Nat.lt_of_lt_of_le (Heap.lt_size e) I.ok.above)
 have neC:∀b o,X.s₀.heap.get? b=some o ->b ∉ X.ex ->b ∉ ch:=fun b o e hx hb=>by
   rcases(hch b hb).1 with z|z
   . exact hx z
   . exact absurd (Nat.lt_of_lt_of_le (Heap.lt_size e) z) (Nat.lt_irrefl _)
 have cellK:∀x c,X.env.cells.lookup x=some c ->∀v,s.heap.IsCell c v ->h'.IsCell c v:=fun x c e v ⟨o,ho,hd⟩=>by
   have nch:c ∉ ch:=fun z=>(hch c z).2.2.1 x c e rfl
   by_cases hc:c∈X.fs
   . obtain⟨sl,q⟩:=slot c o (I.cne x c e) hc nch ho (I.freeC x c e)
     exact⟨_,q,hd⟩
   . exact⟨o,keep c o (I.cne x c e) hc nch ho (I.freeC x c e),hd⟩
 refine⟨I.ok,I.os,hg,⟨fun b o e n hb hx=>?_,fun b o e n hb hx=>?_,fun b o e n hx=>?_,fun b o e hx=>?_,fun b xs e=>tups b xs (I.base.tups b xs e),fun b o xs e=>frzs b o xs (I.base.frzs b o xs e),fun b ps e=>?_⟩,?_,fun x c e=>?_,?_,fun x c e=>?_,fun p hp=>?_,hok,I.len⟩
 . exact keep b o (neL b o e) hb (neC b o e hx) (I.base.keep b o e n hb hx) (I.base.free b o e n hx)
 . obtain⟨sl,e1⟩:=I.base.slot b o e n hb hx
   obtain⟨sl',e2⟩:=slot b _ (neL b o e) hb (neC b o e hx) e1 (I.base.free b o e n hx)
   exact⟨sl',e2⟩
 . obtain⟨o',e1⟩:=I.base.there b o e hx
   exact free b o' (neC b o e hx) e1 (I.base.free b o e n hx)
 . obtain⟨o',e1⟩:=I.base.there b o e hx
   exact there b o' (neC b o e hx) e1
 . obtain⟨m1,e1⟩:=I.base.tbls b ps e
   obtain⟨m2,e2⟩:=tbls b _ e1
   exact⟨m1++m2,by rw[e2,Array.append_assoc]⟩
 . obtain⟨m,hn,hl⟩:=I.loc
   refine⟨m,ns m hn,fun i x v e1 e2 e3=>?_⟩
   obtain⟨u,r,l⟩:=hl i x v e1 e2 e3
   refine⟨u,r,?_⟩
   rcases l with l|⟨k,c,e,z⟩
   . exact .inl l
   . exact .inr ⟨k,c,e,cellK x c e _ z⟩
 . obtain⟨v,z⟩:=I.cell x c e
   exact⟨v,cellK x c e v z⟩
 . obtain⟨m,⟨o,_,_,ho,_⟩,_⟩:=I.loc
   exact free _ o (fun z=>(hch _ z).2.1 rfl) ho I.free
 . obtain⟨v,o,ho,hd⟩:=I.cell x c e
   exact free c o (fun z=>(hch c z).2.2.1 x c e rfl) ho (I.freeC x c e)
 . obtain⟨e,n,ne,nf,d⟩:=I.pin p hp
   have nch:p.1 ∉ ch:=fun z=>(hch p.1 z).2.2.2 p hp rfl
   exact⟨keep p.1 p.2 ne nf nch e n,free p.1 p.2 nch e n,ne,nf,d⟩
theorem Inv.un{t':Nat}(I:Inv X pins σ H s)(u:Un X.fs [] H H' s.heap h')(hok:HOk X.prog X.w H' h'):Inv X pins σ H' {s with heap:=h',toks:=t'}:=by
 obtain⟨m,⟨o,es,ep,ho,r⟩,_⟩:=id I.loc
 obtain⟨sl,hL⟩:=u.any ho I.free (by simp)
 exact I.step (g':=s.gens) (d':=s.drawn) (ch:=[]) (fun _ z=>nomatch z) (fun b o _ hb _ e n=>u.keep b o e n hb (by simp)) (fun b o _ hb _ e n=>u.slot b o e n hb (by simp)) (fun b o _ e n=>u.free b o e n (by simp)) (fun b o _ e=>u.there b o e (by simp)) u.tups u.frzs u.tbls (fun m' hm=>by
   obtain⟨o',es',ep',ho',r'⟩:=hm
   rw[ho] at ho';cases ho'
   exact⟨_,es',ep',hL,r'⟩) hok I.bare
theorem Inv.call{g':Array GenState}{t':Nat}{d':Drawn}{ch:List Addr}(I:Inv X pins σ H s)(u:Un (frs X.stack) ch H H' s.heap h')(hok:HOk X.prog X.w H' h')(hg:AllBare g')
   (hch:∀b∈ch,(b∈X.ex\/X.s₀.heap.objs.size<=b)/\b≠X.env.locals/\(∀x c,X.env.cells.lookup x=some c ->c≠b)/\∀p∈X.pn++pins,p.1≠b):
   Inv X pins σ H' {s with heap:=h',gens:=g',drawn:=d',toks:=t'}:=by
 obtain⟨m,⟨o,es,ep,ho,r⟩,_⟩:=id I.loc
 obtain⟨sl,hL⟩:=u.any ho I.free fun z=>(hch _ z).2.1 rfl
 exact I.step (ch:=ch) hch (fun b o hL hb hc e n=>u.keep b o e n (fun z=>(List.mem_cons.mp (I.stkSub b z)).elim hL hb) hc) (fun b o _ _ hc e n=>u.any e n hc) (fun b o hc e n=>u.free b o e n hc) (fun b o hc e=>u.there b o e hc) u.tups u.frzs u.tbls (fun m' hm=>by
   obtain⟨o',es',ep',ho',r'⟩:=hm
   rw[ho] at ho';cases ho'
   exact⟨_,es',ep',hL,r'⟩) hok hg
theorem Inv.turned{t':Nat}{it:Addr}(I:Inv X pins σ H s)(k:∀b o,b≠it ->s.heap.get? b=some o ->h'.get? b=some o)(hn:H it=none)(hL:it≠X.env.locals)
   (h1:it∈X.ex\/X.s₀.heap.objs.size<=it) (h2:∀x c,X.env.cells.lookup x=some c ->c≠it) (h3:∀p∈X.pn++pins,p.1≠it):Inv X pins σ H {s with heap:=h',toks:=t'}:=by
 have nit:∀b u,H b=some u ->b≠it:=fun b u e z=>by rw[z,hn] at e;cases e
 refine I.step (g':=s.gens) (d':=s.drawn) (ch:=[it]) (fun b hb=>?_) (fun b o _ _ hc e _=>k b o (fun z=>hc (by simp[z])) e) (fun b o _ _ hc e _=>⟨o.slots,k b o (fun z=>hc (by simp[z])) e⟩) (fun _ _ _ _ n=>n)
   (fun b o hc e=>⟨o,k b o (fun z=>hc (by simp[z])) e⟩) (fun _ _ e=>e) (fun _ _ _ e=>e) (fun b ps e=>⟨#[],by rw[e];simp⟩) (fun m hm=>?_) (fun b u e=>?_) I.bare
 . have e:b=it:=by simpa using hb
   subst e
   exact⟨h1,hL,h2,h3⟩
 . obtain⟨o,es,ep,ho,r⟩:=hm
   exact⟨o,es,ep,k _ o (Ne.symm hL) ho,r⟩
 . refine(I.hok b u e).stay (fun c v hc q=>k c v ?_ q) (fun _ q=>q) fun _ _ q=>q
   rcases hc with z|z
   . rw[z];exact nit b u e
   . exact nit c _ z
theorem Inv.tok(I:Inv X pins σ H s)(t:Nat):Inv X pins σ H {s with toks:=t}:=I.un (h':=s.heap) (t':=t) Un.refl I.hok
theorem Inv.kept{t':Nat}(I:Inv X pins σ H s)(k:∀b u,s.heap.get? b=some u ->h'.get? b=some u):Inv X pins σ H {s with heap:=h',toks:=t'}:=I.un (Un.kept k) (I.hok.kept k)
theorem Inv.laid{a:Addr}{o:HO}{t':Nat}(I:Inv X pins σ H s)(k:∀b u,s.heap.get? b=some u ->h'.get? b=some u)(hp:s.heap.objs.size<=a)(new:ObjOk X.prog X.w (upd H a o) h' a o):
   Inv X pins σ (upd H a o) {s with heap:=h',toks:=t'}:=I.un (Un.laid k hp (I.hok.fresh hp)) (I.hok.laid k hp new)
theorem Inv.write{x e:Addr}{o:HO}{t':Nat}(I:Inv X pins σ H s)(mu:Mut (H x))(he:e=x\/H e=some (.own x))(k:∀b u,b≠e ->s.heap.get? b=some u ->h'.get? b=some u)(heo:∃u,h'.get? e=some u)
   (new:ObjOk X.prog X.w (upd H x o) h' x o):Inv X pins σ (upd H x o) {s with heap:=h',toks:=t'}:=I.un (Un.write mu he k heo) (I.hok.write mu he k heo new)
theorem Inv.weak{σ':List (Option V)}(I:Inv X pins σ H s)(hl:σ'.length=σ.length)(w:∀(i:Nat) v,σ'[i]?=some (some v) ->σ[i]?=some (some v)):Inv X pins σ' H s:=
 ⟨I.ok,I.os,I.bare,I.base,let⟨m,hn,hl'⟩:=I.loc;⟨m,hn,fun i x v e1 e2 e3=>hl' i x v e1 (w i v e2) e3⟩,I.cell,I.free,I.freeC,I.pin,I.hok,hl.trans I.len⟩
theorem Inv.pins_of{pins':List (Addr×Obj)}(I:Inv X pins σ H s)(h:∀p∈pins',s.heap.get? p.1=some p.2/\H p.1=none/\p.1≠X.env.locals/\p.1 ∉ X.fs/\∀v,p.2.data≠ .cell v):Inv X pins' σ H s:=
 ⟨I.ok,I.os,I.bare,I.base,I.loc,I.cell,I.free,I.freeC,fun p hp=>(List.mem_append.mp hp).elim (fun z=>I.pin p (List.mem_append_left _ z)) (h p),I.hok,I.len⟩
theorem A3g{N:List Str}(hN:N.Nodup){i j:Nat}{x:Str}(a:N[i]?=some x)(b:N[j]?=some x):i=j:=by
 obtain⟨h1,e1⟩:=List.getElem?_eq_some_iff.mp a
 obtain⟨h2,e2⟩:=List.getElem?_eq_some_iff.mp b
 exact(List.getElem_inj hN).mp (e1.trans e2.symm)
theorem A5e{M:Model}{A:Around}{E:Value ->Shared ->Prop}{i:Nat}{x:Str}{v:V}{u:Value}{Q:Unit ->Shared ->Prop}(I:Inv X pins σ H s)(hN:X.N.Nodup)(hi:X.N[i]?=some x)(hx:Loc X.env.scope x)(r:RelV v u)
   (h:∀s',Inv X pins (σ.set i (some v)) H s' ->(∃a,Heap.SameBut a s.heap s'.heap/\(a=X.env.locals\/X.env.cells.lookup x=some a)) ->Q () s') (hf:X.fn x=true\/X.env.scope.names.lookup x=some .local:=by first|exact .inl rfl|exact .inr rfl|assumption):wpAny M A (storeName X.env x u) Q E s:=by
 obtain⟨m,hn,hl⟩:=id I.loc
 have hcls:(X.env.scope.kind== .class||(X.env.scope.kind== .module&&X.env.locals !=X.env.globals))=false:=by rw[I.ok.kind];rfl
 have hiσ:i<σ.length:=by rw[I.len];exact(List.getElem?_eq_some_iff.mp hi).1
 have cne:=I.cne
 have tracked:∀{a:Addr} {h':Heap},(∃o,s.heap.get? a=some o/\H a=none) ->Heap.SameBut a s.heap h' ->HOk X.prog X.w H h':=fun{a h'} ha hs b ob e=>by
   obtain⟨_,_,hfree⟩:=ha
   refine(I.hok b ob e).stay (fun c w' hc q=>(hs.2 c ?_).trans q) (fun _ q=>q) fun _ _ q=>q
   rintro rfl
   rcases hc with rfl|hc
   . rw[hfree] at e;cases e
   . rw[hfree] at hc;cases hc
 rcases hx with hk|hk
 . refine wpAny_storeName_local hk hn (fun h' hn' hs=>?_) hcls
   obtain⟨oL,_,_,hoL,_⟩:=id hn
   refine h _ ⟨I.ok,I.os,I.bare,⟨fun b o e n hb hx=>?_,fun b o e n hb hx=>?_,I.base.free,fun b o e hx=>?_,I.base.tups,I.base.frzs,I.base.tbls⟩,⟨_,hn',fun j y v' e1 e2 e3=>?_⟩,fun y c e=>?_,I.free,I.freeC,fun p hp=>?_,tracked ⟨oL,hoL,I.free⟩ hs,by simpa using I.len⟩ ⟨_,hs,.inl rfl⟩
   . exact(hs.2 b (Nat.ne_of_lt (Nat.lt_of_lt_of_le (Heap.lt_size e) I.ok.above))).trans (I.base.keep b o e n hb hx)
   . obtain⟨sl,e1⟩:=I.base.slot b o e n hb hx
     exact⟨sl,(hs.2 b (Nat.ne_of_lt (Nat.lt_of_lt_of_le (Heap.lt_size e) I.ok.above))).trans e1⟩
   . obtain⟨o',e1⟩:=I.base.there b o e hx
     exact⟨o',(hs.2 b (Nat.ne_of_lt (Nat.lt_of_lt_of_le (Heap.lt_size e) I.ok.above))).trans e1⟩
   . by_cases hj:j=i
     . subst hj
       rw[hi] at e1;cases e1
       rw[List.getElem?_set_self hiσ] at e2
       cases e2
       exact⟨u,r,.inl ⟨hk,by simp⟩⟩
     . rw[List.getElem?_set_ne (Ne.symm hj)] at e2
       obtain⟨u',r',q⟩:=hl j y v' e1 e2 e3
       refine⟨u',r',?_⟩
       rcases q with⟨k,e⟩|⟨k,c,e,z⟩
       . refine .inl ⟨k,?_⟩
         have:y≠x:=fun e=>hj (A3g hN e1 (e▸hi))
         simp[this,e]
       . exact .inr ⟨k,c,e,z.sameBut hs (cne y c e)⟩
   . obtain⟨w',z⟩:=I.cell y c e
     exact⟨w',z.sameBut hs (cne y c e)⟩
   . obtain⟨e,n,ne,nf,d⟩:=I.pin p hp
     exact⟨(hs.2 p.1 ne).trans e,n,ne,nf,d⟩
 . have hfn:X.fn x=true:=by
     rcases hf with z|z
     . exact z
     . rw[z] at hk;cases hk
   obtain⟨c,hc⟩:=I.ok.has x (.inl hk)
   obtain⟨w',z⟩:=I.cell x c hc
   refine wpAny_storeName_cell I.ok.kind hk hc z (fun h' hc' hs=>?_)
   obtain⟨oc,hoc,hocd⟩:=id z
   refine h {s with heap:=h'} ⟨I.ok,I.os,I.bare,⟨fun b o e n hb hx=>?_,fun b o e n hb hx=>?_,I.base.free,fun b o e hx=>?_,I.base.tups,I.base.frzs,I.base.tbls⟩,⟨m,hn.sameBut hs (Ne.symm (cne x c hc)),fun j y v' e1 e2 e3=>?_⟩,fun y c' e=>?_,I.free,I.freeC,fun p hp=>?_,tracked ⟨oc,hoc,I.freeC x c hc⟩ hs,by simpa using I.len⟩ ⟨c,hs,.inr hc⟩
   . exact(hs.2 b (Nat.ne_of_lt (Nat.lt_of_lt_of_le (Heap.lt_size e) (I.ok.cab x c hfn hc)))).trans (I.base.keep b o e n hb hx)
   . obtain⟨sl,e1⟩:=I.base.slot b o e n hb hx
     exact⟨sl,(hs.2 b (Nat.ne_of_lt (Nat.lt_of_lt_of_le (Heap.lt_size e) (I.ok.cab x c hfn hc)))).trans e1⟩
   . obtain⟨o',e1⟩:=I.base.there b o e hx
     exact⟨o',(hs.2 b (Nat.ne_of_lt (Nat.lt_of_lt_of_le (Heap.lt_size e) (I.ok.cab x c hfn hc)))).trans e1⟩
   . by_cases hj:j=i
     . subst hj
       rw[hi] at e1;cases e1
       rw[List.getElem?_set_self hiσ] at e2
       cases e2
       exact⟨u,r,.inr ⟨.inl hk,c,hc,hc'⟩⟩
     . rw[List.getElem?_set_ne (Ne.symm hj)] at e2
       obtain⟨u',r',q⟩:=hl j y v' e1 e2 e3
       refine⟨u',r',?_⟩
       rcases q with q|⟨k,c',e,z'⟩
       . exact .inl q
       . refine .inr ⟨k,c',e,z'.sameBut hs ?_⟩
         rintro rfl
         exact hj (A3g hN e1 (I.ok.inj _ _ _ e hc▸hi))
   . by_cases hcc:c'=c
     . subst hcc;exact⟨_,hc'⟩
     . obtain⟨w2,z2⟩:=I.cell y c' e
       exact⟨w2,z2.sameBut hs hcc⟩
   . obtain⟨e,n,ne,nf,d⟩:=I.pin p hp
     refine⟨(hs.2 p.1 ?_).trans e,n,ne,nf,d⟩
     intro q
     rw[q,hoc] at e
     have q':oc=p.2:=Option.some.inj e
     exact d w' (by rw[<-q'];exact hocd)
theorem A1h{M:Model}{A:Around}{E:Value ->Shared ->Prop}{i:Nat}{x:Str}{v:V}{u:Value}{Q:Unit ->Shared ->Prop}(I:Inv X pins σ H s)(hN:X.N.Nodup)(hi:X.N[i]?=some x)(hx:Loc X.env.scope x)(r:RelV v u)
   (h:∀s',Inv X pins (σ.set i (some v)) H s' ->Q () s') (hf:X.fn x=true\/X.env.scope.names.lookup x=some .local:=by first|exact .inl rfl|exact .inr rfl|assumption):wpAny M A (storeName X.env x u) Q E s:=
 A5e I hN hi hx r (fun s' I' _=>h s' I') hf
theorem Inv.call'{s':Shared}{ch:List Addr}(I:Inv X pins σ H s)(ho:s'.os=s.os)(u:Un (frs X.stack) ch H H' s.heap s'.heap)(hok:HOk X.prog X.w H' s'.heap)(hg:AllBare s'.gens)
   (hch:∀b∈ch,(b∈X.ex\/X.s₀.heap.objs.size<=b)/\b≠X.env.locals/\(∀x c,X.env.cells.lookup x=some c ->c≠b)/\∀p∈X.pn++pins,p.1≠b):Inv X pins σ H' s':=by
 obtain⟨h',g',d',t',o'⟩:=s'
 have e:o'=s.os:=ho
 subst e
 exact I.call (g':=g') (t':=t') (d':=d') u hok hg hch
end
noncomputable abbrev XK:=Value ->Option Addr ->Hp ->Prop
noncomputable abbrev St:=List (Option V)
noncomputable abbrev VK:=V ->Hp ->Prop
noncomputable abbrev TE:=St ->Hp ->VK ->Prop
noncomputable abbrev TT:=St ->Hp ->(Bool ->Hp ->Prop) ->Prop
noncomputable abbrev TA:=St ->Hp ->(List V ->Hp ->Prop) ->Prop
structure Ends where
 nx:St ->Hp ->Prop
 rt:VK
 bk:St ->Hp ->Prop:=fun _ _=>False
 ct:St ->Hp ->Prop:=fun _ _=>False
noncomputable abbrev TS:=Ends ->St ->Hp ->Prop
noncomputable def EP (X:Cx) (pins:List (Addr×Obj)) (σ:St) (Q:VK) (u:Value) (s':Shared):Prop:=∃v H',Inv X pins σ H' s'/\RelV v u/\Q v H'
noncomputable def TP (X:Cx) (pins:List (Addr×Obj)) (σ:St) (Q:Bool ->Hp ->Prop) (b:Bool) (s':Shared):Prop:=∃H',Inv X pins σ H' s'/\Q b H'
noncomputable def AP (X:Cx) (pins:List (Addr×Obj)) (σ:St) (Q:List V ->Hp ->Prop) (us:List Value) (s':Shared):Prop:=∃vs H',Inv X pins σ H' s'/\Vals vs us/\Q vs H'
noncomputable def SP (X:Cx) (pins:List (Addr×Obj)) (D:Ends) (f:Flow) (s':Shared):Prop:=
 match f with
 | .next=>∃σ' H',Inv X pins σ' H' s'/\D.nx σ' H'
 | .brk=>∃σ' H',Inv X pins σ' H' s'/\D.bk σ' H'
 | .cont=>∃σ' H',Inv X pins σ' H' s'/\D.ct σ' H'
 | .ret u=>∃v σ' H',Inv X pins σ' H' s'/\RelV v u/\D.rt v H'
noncomputable def PE (X:Cx) (e:Expr) (t:TE):Prop:=
 ∀(pins:List (Addr×Obj)) (s:Shared) (σ:St) (H:Hp) (Q:VK),Inv X pins σ H s ->t σ H Q ->wpAny (model X.prog X.w) X.A (eval e X.env) (EP X pins σ Q) X.xe s
noncomputable def PT (X:Cx) (e:Expr) (t:TT):Prop:=
 ∀(pins:List (Addr×Obj)) (s:Shared) (σ:St) (H:Hp) (Q:Bool ->Hp ->Prop),Inv X pins σ H s ->t σ H Q ->wpAny (model X.prog X.w) X.A (isTrue e X.env (eval e X.env)) (TP X pins σ Q) X.xe s
noncomputable def PW (X:Cx) (e:Expr) (t:TT):Prop:=
 ∀(whole:Sem Value) (pins:List (Addr×Obj)) (s:Shared) (σ:St) (H:Hp) (Q:Bool ->Hp ->Prop),Inv X pins σ H s ->t σ H Q ->wpAny (model X.prog X.w) X.A (isTrue e X.env whole) (TP X pins σ Q) X.xe s
theorem PW.pt{X:Cx}{e:Expr}{t:TT}(h:PW X e t):PT X e t:=h _
noncomputable def PA (X:Cx) (es:List Expr) (t:TA):Prop:=
 ∀(pos:Pos) (pins:List (Addr×Obj)) (s:Shared) (σ:St) (H:Hp) (Q:List V ->Hp ->Prop),Inv X pins σ H s ->t σ H Q ->wpAny (model X.prog X.w) X.A (spliced (backTo pos (starEach es X.env))) (AP X pins σ Q) X.xe s
noncomputable def PS (X:Cx) (st:Stmt) (t:TS):Prop:=
 ∀(pins:List (Addr×Obj)) (s:Shared) (σ:St) (H:Hp) (D:Ends),Inv X pins σ H s ->t D σ H ->wpAny (model X.prog X.w) X.A (exec st X.env) (SP X pins D) X.xe s
noncomputable def PSs (X:Cx) (st:List Stmt) (t:TS):Prop:=
 ∀(pins:List (Addr×Obj)) (s:Shared) (σ:St) (H:Hp) (D:Ends),Inv X pins σ H s ->t D σ H ->wpAny (model X.prog X.w) X.A (execs st X.env) (SP X pins D) X.xe s
theorem thn{α:Type}{t:Sem α}{Q Q':α ->Shared ->Prop}{M:Model}{A:Around}{E:Value ->Shared ->Prop}{s:Shared}(h:wpAny M A t Q E s)(hQ:∀a s,Q a s ->Q' a s):wpAny M A t Q' E s:=wpAny_mono h hQ fun _ _ x=>x
section
variable{X:Cx}
noncomputable def B3f (i:Nat):TE:=fun σ H Q=>∃v,σ[i]?=some (some v)/\Q v H
noncomputable def tC (v:V):TE:=fun _ H Q=>Q v H
theorem C0s{i:Nat}{x:Str}{pos:Pos}(hN:X.N[i]?=some x)(hv:Vis X.env.scope x)(hd:(x==("__debug__":Str))=false:=by decide)(hcd:(x==("__classdict__":Str))=false:=by decide):PE X (.Name x pos) (B3f i):=by
 intro pins s σ H Q I h
 obtain⟨v,e,h⟩:=h
 obtain⟨m,hn,hl⟩:=I.loc
 obtain⟨u,r,l⟩:=hl i x v hN e hv
 have fin:EP X pins σ Q u s:=⟨v,H,I,r,h⟩
 rcases l with⟨hk,hm⟩|⟨hk,c,hc,hcell⟩
 . exact wpAny_Name (wpAny_loadName_local I.ok.kind hk hn hm fin) hd
 . rcases hk with hk|hk
   . exact wpAny_Name (wpAny_loadName_cell I.ok.kind hk hc hcell fin) hd
   . exact wpAny_Name (wpAny_loadName_free I.ok.kind hk hc hcell fin hcd) hd
theorem A1{i j pos}:PE X (.Constant (.int i) j pos) (tC (.int i)):=fun _ _ _ H _ I h=>wpAny_Constant_int ⟨.int i,H,I.tok _,⟨_,rfl⟩,h⟩
theorem B1d{b j pos}:PE X (.Constant (.bool b) j pos) (tC (.bl b)):=fun _ _ _ H _ I h=>Constant_bool ⟨.bl b,H,I,rfl,h⟩
theorem A0y{j pos}:PE X (.Constant .none j pos) (tC .non):=fun _ _ _ H _ I h=>Constant_none ⟨.non,H,I,rfl,h⟩
theorem A6{x j pos}:PE X (.Constant (.str x) j pos) (tC (.str x)):=fun _ _ _ H _ I h=>Calls.Constant_str ⟨.str x,H,I.tok _,⟨_,rfl⟩,h⟩
noncomputable def Gl (X:Cx) (x:Str):Prop:=X.env.kindOf x=some .globalImplicit
theorem V4{E:Value ->Shared ->Prop}{pins:List (Addr×Obj)}{s:Shared}{σ:St}{H:Hp}{x:Str}{u:Value}{pos:Pos}{Q:Value ->Shared ->Prop}(I:Inv X pins σ H s)(hg:Gl X x)(hm:X.mg x=some u)(h:Q u s)
   (hd:(x==("__debug__":Str))=false:=by decide):wpAny (model X.prog X.w) X.A (eval (.Name x pos) X.env) Q E s:=
 Calls.Name_function_global I.ok.kind hg (Calls.loadGlobal_global (by rw[I.ok.glob];exact I.mod.glob.keeps I.bk) hm h) hd
theorem A5v{E:Value ->Shared ->Prop}{pins:List (Addr×Obj)}{s:Shared}{σ:St}{H:Hp}{x:Str}{u:Value}{pos:Pos}{Q:Value ->Shared ->Prop}(I:Inv X pins σ H s)(hg:Gl X x)(hm:X.mg x=none)(hv:bootBuiltins x=some u)(h:Q u s)
   (hn:x≠"__name__":=by decide) (hd:(x==("__debug__":Str))=false:=by decide):wpAny (model X.prog X.w) X.A (eval (.Name x pos) X.env) Q E s:=by
 obtain⟨mb,h1,h2⟩:=I.mod.blt
 exact Calls.Name_function_global I.ok.kind hg (Calls.loadGlobal_builtin (by rw[I.ok.glob];exact I.mod.glob.keeps I.bk) hm (by rw[I.ok.blt];exact h1.keeps I.bk) ((h2 x hn).trans hv) h) hd
theorem B8t{x:Str}{v:V}{u:Value}{pos:Pos}(hg:Gl X x)(hm:X.mg x=some u)(r:RelV v u)(hd:(x==("__debug__":Str))=false:=by decide):PE X (.Name x pos) (tC v):=
 fun _ _ _ H _ I h=>V4 I hg hm ⟨v,H,I,r,h⟩ hd
theorem B7x{x:Str}{v:V}{u:Value}{pos:Pos}(hg:Gl X x)(hm:X.mg x=none)(hv:bootBuiltins x=some u)(r:RelV v u)(hn:x≠"__name__":=by decide)(hd:(x==("__debug__":Str))=false:=by decide):PE X (.Name x pos) (tC v):=
 fun _ _ _ H _ I h=>A5v I hg hm hv ⟨v,H,I,r,h⟩ hn hd
variable{a b:Expr}{ta tb:TE}{pos:Pos}
noncomputable def tB (t:TE):TT:=fun σ H Q=>t σ H fun x H1=>∃c,x= .bl c/\Q c H1
theorem U5{e:Expr}{t:TE}(h:PE X e t)(he:∀whole,isTrue e X.env whole=(do let v<-whole;standAt e.pos;holding [v] (truthy v)):=by intro _;rfl):PT X e (tB t):=by
 intro pins s σ H Q I hw
 refine isTrue_plain (thn (h pins s σ H _ I hw) fun v s1 hh_=>?_) (he _)
 obtain⟨x,H1,I1,r1,q1⟩:=hh_
 obtain⟨d,rfl,q⟩:=q1
 cases r1
 exact wpAny_truthy_bool ⟨H1,I1,q⟩
variable{tA tB':TT}{rest:List Expr}
noncomputable def C3v (t u:TT):TT:=fun σ H Q=>t σ H fun c H1=>if c=true then u σ H1 Q else Q false H1
noncomputable def tOr (t u:TT):TT:=fun σ H Q=>t σ H fun c H1=>if c=true then Q true H1 else u σ H1 Q
noncomputable def C4p (t:TT):TT:=fun σ H Q=>t σ H fun c H1=>Q (!c) H1
theorem A6g(ha:PT X a tA):PW X (.BoolOp .And [a] pos) tA:=by
 intro wh pins s σ H Q I h
 refine isTrue_and (thn (ha pins s σ H Q I h) fun c s1 e=>?_)
 cases c with
 |true=>exact isTrue_and_nil e
 |false=>exact e
theorem A5u(ha:PT X a tA):PW X (.BoolOp .Or [a] pos) tA:=by
 intro wh pins s σ H Q I h
 refine isTrue_or (thn (ha pins s σ H Q I h) fun c s1 e=>?_)
 cases c with
 |false=>exact isTrue_or_nil e
 |true=>exact e
theorem A9z(ha:PT X a tA)(hb:PW X (.BoolOp .And (b::rest) pos) tB'):PW X (.BoolOp .And (a::b::rest) pos) (C3v tA tB'):=by
 intro wh pins s σ H Q I h
 refine isTrue_and (thn (ha pins s σ H _ I h) fun c s1 ⟨H1,I1,q1⟩=>?_)
 cases c with
 |true=>exact hb wh pins s1 σ H1 Q I1 q1
 |false=>exact⟨H1,I1,q1⟩
theorem A3s(ha:PT X a tA)(hb:PW X (.BoolOp .Or (b::rest) pos) tB'):PW X (.BoolOp .Or (a::b::rest) pos) (tOr tA tB'):=by
 intro wh pins s σ H Q I h
 refine isTrue_or (thn (ha pins s σ H _ I h) fun c s1 ⟨H1,I1,q1⟩=>?_)
 cases c with
 |true=>exact⟨H1,I1,q1⟩
 |false=>exact hb wh pins s1 σ H1 Q I1 q1
theorem Z7(ha:PT X a tA):PT X (.UnaryOp .Not a pos) (C4p tA):=by
 intro pins s σ H Q I h
 exact isTrue_not (ha pins s σ H (fun c H1=>Q (!c) H1) I h)
noncomputable def C2w (ta tb:TE):TE:=fun σ H Q=>ta σ H fun x H1=>∃c,x= .bl c/\if c=true then tb σ H1 Q else Q (.bl false) H1
theorem A8y{op}{t:TE}(h:PE X a t):PE X (.BoolOp op [a] pos) t:=fun pins s σ H Q I hw=>BoolOp_one (h pins s σ H Q I hw)
theorem A9n(ha:PE X a ta)(hb:PE X (.BoolOp .And (b::rest) pos) tb):PE X (.BoolOp .And (a::b::rest) pos) (C2w ta tb):=by
 intro pins s σ H Q I h
 refine BoolOp_and (thn (ha pins s σ H _ I h) fun v s1 hh_=>?_)
 obtain⟨x,H1,I1,r1,q1⟩:=hh_
 obtain⟨c,rfl,q1⟩:=q1
 cases r1
 refine wpAny_truthy_bool ?_
 cases c with
 |true=>exact hb pins s1 σ H1 Q I1 q1
 |false=>exact⟨.bl false,H1,I1,rfl,q1⟩
noncomputable def tIf (t:TT) (ta tb:TE):TE:=fun σ H Q=>t σ H fun c H1=>if c=true then ta σ H1 Q else tb σ H1 Q
theorem V9{c:Expr}(hc:PT X c tA)(ha:PE X a ta)(hb:PE X b tb):PE X (.IfExp c a b pos) (tIf tA ta tb):=by
 intro pins s σ H Q I h
 refine wpAny_IfExp (thn (hc pins s σ H _ I h) fun d s1 ⟨H1,I1,q1⟩=>?_)
 cases d with
 |true=>exact ha pins s1 σ H1 Q I1 q1
 |false=>exact hb pins s1 σ H1 Q I1 q1
end
noncomputable def SqL (K:PySem.W.Frag) (H:Hp) (a:Addr) (xs:List V):Prop:=
 Rd H a (.lst xs)\/
   ∃(o:Obj) (its:Array Value) (n:Nat),K.lookup a=some o/\o.cls= .type "list"/\o.dict=none/\o.data= .seq its n/\its.size<=sizeLine/\Vals xs its.toList
noncomputable def SqT (K:PySem.W.Frag) (H:Hp) (a:Addr) (xs:List V):Prop:=
 Rd H a (.tup xs)\/
   ∃(o:Obj) (its:Array Value) (n:Nat),K.lookup a=some o/\o.cls= .type "tuple"/\o.data= .seq its n/\its.size<=sizeLine/\Vals xs its.toList
noncomputable def C4g:Value ->Option V
 | .none=>some .non
 | .bool b=>some (.bl b)
 | .int i _=>some (.int i)
 | .str x _=>some (.str x)
 | .bytes b _=>some (.byt b)
 | .float b _=>some (.flt b)
 | .ref a=>some (.ref a)
 | .type n=>some (.ty n)
 |_=>none
theorem RelV.abs{x:V}{u:Value}(r:RelV x u):C4g u=some x:=by
 cases x with
 |non=>cases r;rfl
 |bl _=>cases r;rfl
 |int _=>obtain⟨t,rfl⟩:=r;rfl
 |str _=>obtain⟨t,rfl⟩:=r;rfl
 |byt _=>obtain⟨t,rfl⟩:=r;rfl
 |flt _=>obtain⟨t,rfl⟩:=r;rfl
 |ref _=>cases r;rfl
 |ty _=>cases r;rfl
theorem RelV.inj{x y:V}{u:Value}(r:RelV x u)(q:RelV y u):x=y:=Option.some.inj (r.abs.symm.trans q.abs)
theorem Vals.inj:∀{xs ys:List V} {us:List Value},Vals xs us ->Vals ys us ->xs=ys
 |_,_,_,.nil,.nil=>rfl
 |_,_,_,.cons r t,.cons r' t'=>by rw[r.inj r',Vals.inj t t']
section
variable{X:Cx}{pins:List (Addr×Obj)}{σ:St}{H:Hp}{s:Shared}{a:Addr}{xs ys:List V}
theorem SqL.of{K:PySem.W.Frag}(h:H a=some (.lst xs)):SqL K H a xs:= .inl (.inl h)
theorem SqT.of{K:PySem.W.Frag}(h:H a=some (.tup xs)):SqT K H a xs:= .inl (.inl h)
theorem Inv.list(I:Inv X pins σ H s)(h:SqL X.K H a xs):∃its:List Value,Vals xs its/\PlainL s.heap a its.toArray/\xs.length<=sizeLine:=by
 rcases h with h|⟨o,its,n,hk,hc,hd,hs,hz,r⟩
 . obtain⟨z,its,n,r,e⟩:=h.ok I.hok
   exact⟨its,r,⟨_,n,e,rfl,rfl,rfl⟩,z⟩
 . refine⟨its.toList,r,⟨o,n,I.kIn a o hk,hc,hd,by simpa using hs⟩,?_⟩
   have e:=r.length
   simp only[Array.length_toList] at e
   omega
theorem Inv.tuple(I:Inv X pins σ H s)(h:SqT X.K H a xs):∃its:List Value,Vals xs its/\IsTup s.heap a its.toArray/\xs.length<=sizeLine:=by
 rcases h with h|⟨o,its,n,hk,hc,hs,hz,r⟩
 . obtain⟨z,its,r,p⟩:=h.ok I.hok
   exact⟨its,r,p,z⟩
 . refine⟨its.toList,r,⟨o,I.kIn a o hk,hc,n,by simpa using hs⟩,?_⟩
   have e:=r.length
   simp only[Array.length_toList] at e
   omega
theorem Inv.list_inj(I:Inv X pins σ H s)(h:SqL X.K H a xs)(h':SqL X.K H a ys):xs=ys:=by
 obtain⟨its,r,⟨o,n,e,_,_,d⟩,_⟩:=I.list h
 obtain⟨its',r',⟨o',n',e',_,_,d'⟩,_⟩:=I.list h'
 rw[e] at e';cases e'
 rw[d] at d'
 injection d' with d1 _
 have:its=its':=by simpa using congrArg Array.toList d1
 subst this
 exact r.inj r'
theorem Inv.tuple_inj(I:Inv X pins σ H s)(h:SqT X.K H a xs)(h':SqT X.K H a ys):xs=ys:=by
 obtain⟨its,r,⟨o,e,_,n,d⟩,_⟩:=I.tuple h
 obtain⟨its',r',⟨o',e',_,n',d'⟩,_⟩:=I.tuple h'
 rw[e] at e';cases e'
 rw[d] at d'
 injection d' with d1 _
 have:its=its':=by simpa using congrArg Array.toList d1
 subst this
 exact r.inj r'
end
noncomputable abbrev Cx.wish (X:Cx) (E:Value ->Shared ->Prop):Cx:={X with xe:=E}
noncomputable abbrev Cx.nox (X:Cx):Cx:=X.wish fun _ _=>False
theorem Cx.Ok.wish{X:Cx}(ok:X.Ok)(E:Value ->Shared ->Prop):(X.wish E).Ok:=
 ⟨ok.mod,ok.kind,ok.glob,ok.blt,ok.above,ok.inj,ok.has,ok.cab,ok.hd,ok.frames,ok.stk,ok.exf,ok.bs,ok.bsz,ok.noex,ok.exfs,ok.funs,ok.frf⟩
theorem Cx.Ok.unwish{X:Cx}{E:Value ->Shared ->Prop}(ok:(X.wish E).Ok):X.Ok:=
 ⟨ok.mod,ok.kind,ok.glob,ok.blt,ok.above,ok.inj,ok.has,ok.cab,ok.hd,ok.frames,ok.stk,ok.exf,ok.bs,ok.bsz,ok.noex,ok.exfs,ok.funs,ok.frf⟩
section
variable{X:Cx}{pins:List (Addr×Obj)}{σ:St}{H:Hp}{s:Shared}{E:Value ->Shared ->Prop}
theorem Inv.wish(I:Inv X pins σ H s)(E:Value ->Shared ->Prop):Inv (X.wish E) pins σ H s:=⟨I.ok.wish E,I.os,I.bare,I.base,I.loc,I.cell,I.free,I.freeC,I.pin,I.hok,I.len⟩
theorem Inv.unwish(I:Inv (X.wish E) pins σ H s):Inv X pins σ H s:=⟨I.ok.unwish,I.os,I.bare,I.base,I.loc,I.cell,I.free,I.freeC,I.pin,I.hok,I.len⟩
theorem SP.unwish{D:Ends}{f:Flow}{s':Shared}(h:SP (X.wish E) pins D f s'):SP X pins D f s':=by
 cases f with
 |next=>obtain⟨σ',H',I,q⟩:=h;exact⟨σ',H',I.unwish,q⟩
 |brk=>obtain⟨σ',H',I,q⟩:=h;exact⟨σ',H',I.unwish,q⟩
 |cont=>obtain⟨σ',H',I,q⟩:=h;exact⟨σ',H',I.unwish,q⟩
 |ret u=>obtain⟨v,σ',H',I,r,q⟩:=h;exact⟨v,σ',H',I.unwish,r,q⟩
theorem PSs.nox{st:List Stmt}{t:TS}(h:PSs X.nox st t):PSs X st t:=fun pins s σ H D I hw=>
 wpAny_mono (h pins s σ H D (I.wish _) hw) (fun _ _ q=>q.unwish) fun _ _ z=>False.elim z
end
section
variable{X:Cx}{st:Stmt}{rest:List Stmt}{t u:TS}{e:Expr}{te:TE}{pos:Pos}
noncomputable def C3e:TS:=fun D σ H=>D.nx σ H
noncomputable def C2v (t u:TS):TS:=fun D σ H=>t {D with nx:=u D} σ H
theorem C8:PSs X [] C3e:=fun _ _ σ H _ I h=>wpAny_execs_nil ⟨σ,H,I,h⟩
theorem A4(h1:PS X st t)(h2:PSs X rest u):PSs X (st::rest) (C2v t u):=by
 intro pins s σ H D I h
 refine wpAny_execs_cons (thn (h1 pins s σ H {D with nx:=u D} I h) fun f s1 q=>?_)
 cases f with
 | next=>
   obtain⟨σ',H',I',q⟩:=q
   exact h2 pins s1 σ' H' D I' q
 |ret v=>exact q
 |brk=>exact q
 |cont=>exact q
theorem B0(h1:PS X st t):PSs X [st] t:=by
 intro pins s σ H D I h
 refine wpAny_execs_cons (thn (h1 pins s σ H D I h) fun f s1 q=>?_)
 cases f with
 |next=>exact wpAny_execs_nil q
 |ret v=>exact q
 |brk=>exact q
 |cont=>exact q
theorem Inv.quiet{pins:List (Addr×Obj)}{σ:St}{H:Hp}{s:Shared}(I:Inv X pins σ H s):interactive X.env=false:=by simp[interactive,I.ok.kind]
noncomputable def C2y (te:TE):TS:=fun D σ H=>te σ H fun _ H1=>D.nx σ H1
theorem Z2(he:PE X e te)(hs:swapsWith e none pos.line X.env=pure false:=by rfl):PS X (.Expr e pos) (C2y te):=by
 intro pins s σ H D I h
 exact wpAny_Expr_any (thn (he pins s σ H _ I h) fun v s1 ⟨x,H1,I1,r1,q1⟩=>⟨σ,H1,I1,q1⟩) I.quiet hs
noncomputable def C4a (te:TE):TS:=fun D σ H=>te σ H D.rt
theorem B7(he:PE X e te):PS X (.Return (some e) pos) (C4a te):=by
 intro pins s σ H D I h
 exact wpAny_Return_some (thn (he pins s σ H _ I h) fun v s1 ⟨x,H1,I1,r1,q1⟩=>⟨x,σ,H1,I1,r1,q1⟩)
noncomputable def C4n (c:TT) (t u:TS):TS:=fun D σ H=>c σ H fun b H1=>if b=true then t D σ H1 else u D σ H1
theorem G7{c:Expr}{a b:List Stmt}{tc:TT}(hc:PT X c tc)(ha:PSs X a t)(hb:PSs X b u):PS X (.If c a b pos) (C4n tc t u):=by
 intro pins s σ H D I h
 refine wpAny_If (thn (hc pins s σ H _ I h) fun d s1 ⟨H1,I1,q1⟩=>?_)
 cases d with
 |true=>exact ha pins s1 σ H1 D I1 q1
 |false=>exact hb pins s1 σ H1 D I1 q1
end
noncomputable abbrev TG:=V ->St ->Hp ->(St ->Hp ->Prop) ->Prop
noncomputable abbrev TGs:=List V ->St ->Hp ->(St ->Hp ->Prop) ->Prop
noncomputable def PG (X:Cx) (target:Expr) (t:TG):Prop:=
 ∀ (pins:List (Addr×Obj)) (s:Shared) (σ:St) (H:Hp) (v:V) (u:Value) (Q:St ->Hp ->Prop),Inv X pins σ H s ->RelV v u ->t v σ H Q ->
   wpAny (model X.prog X.w) X.A (assign target X.env u) (fun _ s'=>∃σ' H',Inv X pins σ' H' s'/\Q σ' H') X.xe s
noncomputable def PGs (X:Cx) (ts:List Expr) (t:TGs):Prop:=
 ∀ (pins:List (Addr×Obj)) (s:Shared) (σ:St) (H:Hp) (vs:List V) (us:List Value) (Q:St ->Hp ->Prop),Inv X pins σ H s ->Vals vs us ->t vs σ H Q ->
   wpAny (model X.prog X.w) X.A (assignInOrder ((assignEach ts X.env).map (·.2)) us) (fun _ s'=>∃σ' H',Inv X pins σ' H' s'/\Q σ' H') X.xe s
section
variable{X:Cx}{pos:Pos}
noncomputable def A4j (i:Nat):TG:=fun v σ H Q=>Q (σ.set i (some v)) H
theorem U1{i:Nat}{x:Str}(hN:X.N.Nodup)(hi:X.N[i]?=some x)(hx:Loc X.env.scope x)(hf:X.fn x=true\/X.env.scope.names.lookup x=some .local:=by first|exact .inl rfl|exact .inr rfl|assumption):PG X (.Name x pos) (A4j i):=by
 intro pins s σ H v u Q I r h
 exact wpAny_assign_Name (A1h I hN hi hx r (fun s' I'=>⟨_,H,I',h⟩) hf)
noncomputable def C2j:TGs:=fun vs σ H Q=>vs=[]/\Q σ H
noncomputable def B4w (t:TG) (u:TGs):TGs:=fun vs σ H Q=>∃v r,vs=v::r/\t v σ H fun σ' H'=>u r σ' H' Q
theorem A3e:PGs X [] C2j:=by
 intro pins s σ H vs us Q I r h
 obtain⟨e,h⟩:=h
 subst e
 cases r
 exact assignInOrder_nil ⟨σ,H,I,h⟩
theorem V6{e:Expr}{es:List Expr}{t:TG}{u:TGs}(h1:PG X e t)(h2:PGs X es u)
   (hs:(assignEach (e::es) X.env).map (·.2)=assign e X.env::(assignEach es X.env).map (·.2):=by rfl):PGs X (e::es) (B4w t u):=by
 intro pins s σ H vs us Q I r h
 obtain⟨v,vr,e1,h⟩:=h
 subst e1
 cases r with
 | cons r rr=>
   rw[hs]
   refine assignInOrder_cons (thn (h1 pins s σ H _ _ _ I r h) fun _ s1 hh_=>?_)
   obtain⟨σ1,H1,I1,q1⟩:=hh_
   exact h2 pins s1 σ1 H1 _ _ Q I1 rr q1
noncomputable def B6t (K:PySem.W.Frag) (n:Nat) (t:TGs):TG:=fun v σ H Q=>∃a xs,v= .ref a/\SqT K H a xs/\xs.length=n/\t xs σ H Q
theorem A9x{es:List Expr}{k:Nat}{t:TGs}{n:Nat}(hc:X.calm=true)(h:PGs X es t)
   (hn:(assignEach es X.env).length=n:=by rfl) (hst:(assignEach es X.env).findIdx? (·.1)=none:=by rfl):PG X (.Tuple es k pos) (B6t X.K n t):=by
 intro pins s σ H v u Q I r hw
 obtain⟨a,xs,e1,hq,hl,hw⟩:=hw
 subst e1
 cases r
 obtain⟨its,rv,ht,hz⟩:=I.tuple hq
 refine assign_Tuple_tuple (I.ok.hd hc) ht (by simp[hn, <-hl,rv.length]) hst fun h' hx=>?_
 have I1:Inv X pins σ H {s with heap:=h'}:=I.kept (t':=s.toks) fun b o e=>hx b o (Nat.ne_of_lt (Heap.lt_size e)) e
 exact h pins _ σ H xs _ Q I1 (by simpa using rv) hw
noncomputable def B8a (te:TE) (g:TG):TS:=fun D σ H=>te σ H fun x H1=>g x σ H1 D.nx
theorem A9u{tg e:Expr}{te:TE}{g:TG}(he:PE X e te)(hg:PG X tg g)(hs:swapsWithSole [tg] e pos.line X.env=pure false:=by rfl)(hw:swappedStores [tg] e X.env=pure none:=by rfl)
   (h1:(assignEach [tg] X.env).map (·.2)=[assign tg X.env]:=by rfl):PS X (.Assign [tg] e pos) (B8a te g):=by
 intro pins s σ H D I h
 refine wpAny_Assign_stores (thn (he pins s σ H _ I h) fun v s1 hh_=>?_) hs hw
 obtain⟨x,H1,I1,r1,q1⟩:=hh_
 rw[h1]
 exact thn (hg pins s1 σ H1 x v _ I1 r1 q1) fun _ s2 q=>q
theorem B3{i:Nat}{x:Str}{e:Expr}{te:TE}{pos':Pos}(hN:X.N.Nodup)(hi:X.N[i]?=some x)(hx:Loc X.env.scope x)(he:PE X e te)(hs:swapsWith e (some (.Name x pos')) pos.line X.env=pure false:=by rfl)(hf:X.fn x=true\/X.env.scope.names.lookup x=some .local:=by first|exact .inl rfl|exact .inr rfl|assumption):
   PS X (.Assign [.Name x pos'] e pos) (B8a te (A4j i)):=by
 intro pins s σ H D I h
 refine wpAny_Assign_Name (thn (he pins s σ H _ I h) fun v s1 hh_=>?_) hs
 obtain⟨y,H1,I1,r1,q1⟩:=hh_
 exact A1h I1 hN hi hx r1 (fun s2 I2=>⟨_,H1,I2,q1⟩) hf
end
section
variable{X:Cx}{pos:Pos}
noncomputable def B3q (c:TT) (tb:TS):TS:=fun D σ H=>∃W:Nat ->St ->Hp ->Prop,(∃m,W m σ H)/\∀m σ H,W m σ H ->
 c σ H fun b H1=>if b=true then∃N:St ->Hp ->Prop,(∀σ' H',N σ' H' ->∃m',m'<m/\W m' σ' H')/\tb {D with nx:=N,ct:=N,bk:=D.nx} σ H1 else D.nx σ H1
theorem A4c{c:Expr}{body:List Stmt}{tc:TT}{tb:TS}(hp:PassesOwn (model X.prog X.w) X.A X.env X.xe)(hc:PT X c tc)(hb:PSs X body tb):PS X (.While c body [] pos) (B3q tc tb):=by
 intro pins s σ H D I h
 obtain⟨W,⟨m0,w0⟩,turn⟩:=h
 refine wpAny_While (codeAny_whileLoop (fun n s'=>∃σ' H',Inv X pins σ' H' s'/\W n σ' H') ?_ m0 ⟨σ,H,I,w0⟩)
 rintro n s1 ⟨σ1,H1,I1,w1⟩
 refine wpAny_passesOwn hp (thn (hc pins s1 σ1 H1 _ I1 (turn n σ1 H1 w1)) fun b s2 ⟨H2,I2,q2⟩=>?_)
 cases b with
 | true=>
   obtain⟨N,hN,q2⟩:=q2
   rw[if_pos rfl]
   refine wpAny_passesOwn hp (thn (hb pins s2 σ1 H2 _ I2 q2) fun f s3 q3=>?_)
   cases f with
   | next=>
     obtain⟨σ3,H3,I3,n3⟩:=q3
     obtain⟨m',hm,w3⟩:=hN σ3 H3 n3
     exact⟨m',hm,σ3,H3,I3,w3⟩
   | cont=>
     obtain⟨σ3,H3,I3,n3⟩:=q3
     obtain⟨m',hm,w3⟩:=hN σ3 H3 n3
     exact⟨m',hm,σ3,H3,I3,w3⟩
   |brk=>exact q3
   |ret v=>exact q3
 | false=>
   rw[if_neg Bool.false_ne_true]
   exact wpAny_execs_nil ⟨σ1,H2,I2,q2⟩
end
structure It where
 go:Nat ->Hp ->Prop
 yld:Nat ->Hp ->V ->Hp ->Prop
 stop:Nat ->Hp ->Prop
noncomputable def Y1 (X:Cx) (pins:List (Addr×Obj)) (H:Hp) (b:Addr):Prop:=
 H b=none/\b≠X.env.locals/\b ∉ X.fs/\(b∈X.ex\/X.s₀.heap.objs.size<=b)/\(∀x c,X.env.cells.lookup x=some c ->c≠b)/\∀p∈X.pn++pins,p.1≠b
theorem Inv.fpOk{X:Cx}{pins:List (Addr×Obj)}{σ:St}{H H':Hp}{s:Shared}{b:Addr}(I:Inv X pins σ H s)(hb:s.heap.objs.size<=b)(hn:H' b=none):Y1 X pins H' b:=by
 refine⟨hn,Nat.ne_of_gt (Nat.lt_of_lt_of_le I.lt hb),I.nofs hb,.inr (Nat.le_trans I.sz hb),fun x c e z=>?_,fun p hp z=>?_⟩
 . obtain⟨v,q⟩:=I.cell x c e
   exact absurd (Nat.lt_of_lt_of_le q.lt (by rw[z];exact hb)) (Nat.lt_irrefl _)
 . exact absurd (Nat.lt_of_lt_of_le (Heap.lt_size (I.pin p hp).1) (by rw[z];exact hb)) (Nat.lt_irrefl _)
structure Turn(P:Program)(w:World)(K:PySem.W.Frag)(tg:Expr)(J:It)(fp:List Addr)(it:Addr)(tn:Nat ->Heap ->Prop):Prop where
 mem:it∈fp
 obj:∀i h,tn i h ->∀b∈fp,∃o,h.get? b=some o/\∀v,o.data≠ .cell v
 keep:∀i h h',tn i h ->(∀b∈fp,∀o,h.get? b=some o ->h'.get? b=some o) ->tn i h'
 item:∀(X:Cx),X.prog=P ->X.w=w ->X.K=K ->X.calm=true ->∀(i:Nat) (pins:List (Addr×Obj)) (s:Shared) (σ:St) (H:Hp) (E:Value ->Shared ->Prop),Inv X pins σ H s ->(∀b∈fp,Y1 X pins H b) ->tn i s.heap ->J.go i H ->
   wpAny (model P w) X.A (pyNext (.ref it)) (fun r s1=>∃u,r=some u/\
     wpAny (model P w) X.A (letOwnedTupleGo tg (.ref it) u) (fun _ s2=>∃x H',Inv X pins σ H' s2/\RelV x u/\J.yld i H x H'/\tn (i+1) s2.heap/\∀b∈fp,H' b=none) E s1) E s
 done:∀(X:Cx),X.prog=P ->X.w=w ->X.K=K ->X.calm=true ->∀(i:Nat) (pins:List (Addr×Obj)) (s:Shared) (σ:St) (H:Hp) (E:Value ->Shared ->Prop),Inv X pins σ H s ->(∀b∈fp,Y1 X pins H b) ->tn i s.heap ->J.stop i H ->
   wpAny (model P w) X.A (pyNext (.ref it)) (fun r s1=>r=none/\Inv X pins σ H s1) E s
 self:∀(A:Around) (i:Nat) (s:Shared) (Q:Value ->Shared ->Prop) (E:Value ->Shared ->Prop),tn i s.heap ->Q (.ref it) s ->wpAny (model P w) A (pyIter (.ref it)) Q E s
noncomputable abbrev TI:=St ->Hp ->(It ->Hp ->Prop) ->Prop
noncomputable def PIE (X:Cx) (pins:List (Addr×Obj)) (σ:St) (tg:Expr) (R:It ->Hp ->Prop) (itv:Value) (s2:Shared):Prop:=
 ∃(it:Addr) (fp:List Addr) (tn:Nat ->Heap ->Prop) (J:It) (H':Hp),itv= .ref it/\Inv X pins σ H' s2/\Turn X.prog X.w X.K tg J fp it tn/\tn 0 s2.heap/\(∀b∈fp,Y1 X pins H' b)/\R J H'
noncomputable def PI (X:Cx) (tg iter:Expr) (wi:TI):Prop:=
 ∀ (pins:List (Addr×Obj)) (s:Shared) (σ:St) (H:Hp) (R:It ->Hp ->Prop),Inv X pins σ H s ->wi σ H R ->
   wpAny (model X.prog X.w) X.A (eval iter X.env) (fun v s1=>wpAny (model X.prog X.w) X.A (pyIter v) (PIE X pins σ tg R) X.xe s1) X.xe s
theorem B0x{M:Model}{A:Around}{E:Value ->Shared ->Prop}{s:Shared}{tg:Expr}{it:Addr}{u:Value}{o:Obj}{n:String}{vs:Array Value}{Q:Unit ->Shared ->Prop}(ho:s.heap.get? it=some o)(hc:o.cls= .type n)(hd:o.data= .fields vs)
   (hn: ["enumerate","zip","dict_itemiterator","dict_reverseitemiterator","odict_iterator","itertools.zip_longest","itertools.pairwise"].contains n=false) (hQ:Q () s):wpAny M A (letOwnedTupleGo tg (.ref it) u) Q E s:=by
 unfold letOwnedTupleGo
 cases tg <;>first
   |exact wpAny_pure hQ
   |(cases u<;>first
       |exact wpAny_pure hQ
       | (refine wpAny_bind (wpAny_load ho ?_)
          rw[hc,hd]
          show wpAny M A (if(["enumerate","zip","dict_itemiterator","dict_reverseitemiterator","odict_iterator","itertools.zip_longest","itertools.pairwise"].contains n&&vs[0]?==some (rawInt _))=true then _ else _) Q E s
          rw[if_neg (by intro h;rw[hn,Bool.false_and] at h;cases h)]
          exact wpAny_pure hQ))
noncomputable def Itl (K:PySem.W.Frag) (a:Addr):It:=
 ⟨fun i H=>∃xs x,SqL K H a xs/\xs[i]?=some x,fun i H x H'=>H'=H/\∀xs,SqL K H a xs ->xs[i]?=some x,fun i H=>∃xs,SqL K H a xs/\xs.length<=i⟩
noncomputable def Itt (K:PySem.W.Frag) (a:Addr):It:=
 ⟨fun i H=>∃xs x,SqT K H a xs/\xs[i]?=some x,fun i H x H'=>H'=H/\∀xs,SqT K H a xs ->xs[i]?=some x,fun i H=>∃xs,SqT K H a xs/\xs.length<=i⟩
noncomputable def Itr (lo:Int) (n:Nat):It:=⟨fun i _=>i<n,fun i H x H'=>H'=H/\x= .int (lo+i),fun i _=>n<=i⟩
theorem A8h{P:Program}{w:World}{K:PySem.W.Frag}{tg:Expr}(it:Addr)(lo:Int)(n:Nat):Turn P w K tg (Itr lo n) [it] it (fun i h=>IsRangeIter h it (lo+(i:Nat)*1) ((n:Int)- (i:Nat)) 1) where
 mem:=by simp
 obj :=fun i h st b hb=>by
   have e:b=it:=by simpa using hb
   subst e
   exact⟨_,st,fun v z=>by
     have z':Data.fields _=Data.cell v:=z
     cases z'⟩
 keep:=fun i h h' st k=>k it (by simp) _ st
 item:=by
   intro X hP hw hK hc i pins s σ H E I hf st hg
   subst hP hw hK
   obtain⟨f0,f1,f2,f3,f4,f5⟩:=hf it (by simp)
   have W:=Walks.range (prog:=X.prog) (w:=X.w) (I.ok.hd hc) it lo 1 n
   refine W.item i s _ _ hg st fun v h' tk hv st' kk=>?_
   obtain⟨t,rfl⟩:=hv
   have I1:Inv X pins σ H {s with heap:=h',toks:=tk}:=I.turned (fun b o hb e=>kk b o (by simpa using hb) e) f0 f1 f3 f4 f5
   refine⟨_,rfl,B0x (s:={s with heap:=h',toks:=tk}) (n:="range_iterator") st' rfl rfl (by decide) ⟨.int (lo+i),H,I1,⟨t,?_⟩,⟨rfl,rfl⟩,st',fun b hb=>(hf b hb).1⟩⟩
   rw[Int.mul_one]
 done:=by
   intro X hP hw hK hc i pins s σ H E I hf st hg
   subst hP hw hK
   obtain⟨f0,f1,f2,f3,f4,f5⟩:=hf it (by simp)
   exact wpAny_pyNext_range_end (I.ok.hd hc) st (by have:n<=i:=hg;omega) fun h' eb=>⟨rfl,I.turned (t':=s.toks) (fun b o hb e=>eb b o hb e) f0 f1 f3 f4 f5⟩
 self:=fun _ _ _ _ _ st h=>wpAny_pyIter_rangeiter st h
section
variable{X:Cx}{tg:Expr}
noncomputable def B9g (K:PySem.W.Frag) (tl:TE):TI:=fun σ H R=>tl σ H fun x H1=>∃a,x= .ref a/\(∃xs,SqL K H1 a xs)/\R (Itl K a) H1
noncomputable def C4e (K:PySem.W.Frag) (tl:TE):TI:=fun σ H R=>tl σ H fun x H1=>∃a,x= .ref a/\(∃xs,SqT K H1 a xs)/\R (Itt K a) H1
theorem B5m{pins:List (Addr×Obj)}{σ:St}{H:Hp}{s:Shared}{R:It ->Hp ->Prop}{E:Value ->Shared ->Prop}{lo hi:Int}{t u v:Tok}{tk:Nat}(I:Inv X pins σ H s)(h1: -(2^62)<=lo)(h2:lo<2^62)(h3: -(2^62)<=hi)(h4:hi<2^62)
   (q:R (Itr lo (hi-lo).toNat) H):wpAny (model X.prog X.w) X.A (pyIter (.ref s.heap.objs.size)) (PIE X pins σ tg R) E {s with heap:=s.heap.push {cls:= .type "range",data:= .fields #[.int lo t,.int hi u,.int 1 v]},toks:=tk}:=by
 refine wpAny_pyIter_range (IsRange.new ..) (small_one h1 h2 h3 h4) ?_
 have I1:Inv X pins σ H {s with heap:=s.heap.push {cls:= .type "range",data:= .fields #[.int lo t,.int hi u,.int 1 v]},toks:=tk}:=I.kept fun b o e=>Heap.get?_push_of_some _ e
 refine⟨(s.heap.push {cls:= .type "range",data:= .fields #[.int lo t,.int hi u,.int 1 v]}).objs.size,[(s.heap.push {cls:= .type "range",data:= .fields #[.int lo t,.int hi u,.int 1 v]}).objs.size],_,_,H,rfl,
   I1.kept (t':=tk) fun b o e=>Heap.get?_push_of_some _ e,A8h _ lo (hi-lo).toNat,?_,fun b hb=>?_,q⟩
 . have e1:lo+((0:Nat):Int)*1=lo:=by simp
   have e2:(((hi-lo).toNat:Nat):Int)- ((0:Nat):Int)=Builtin.Range.rangeSize lo hi 1:=by rw[rangeSize_one];split<;>omega
   show IsRangeIter _ _ (lo+((0:Nat):Int)*1) ((((hi-lo).toNat:Nat):Int)- ((0:Nat):Int)) 1
   rw[e1,e2]
   exact Heap.get?_push_size _ rfl
 . have e:b=(s.heap.push {cls:= .type "range",data:= .fields #[.int lo t,.int hi u,.int 1 v]}).objs.size:=by simpa using hb
   subst e
   exact I1.fpOk (Nat.le_refl _) (I1.hok.fresh (Nat.le_refl _))
noncomputable def C2k (ta:TA):TI:=fun σ H R=>ta σ H fun vs H1=>∃j:Int,vs=[.int j]/\ -(2^62)<=j/\j<2^62/\R (Itr 0 j.toNat) H1
theorem A4n{a:Expr}{ta:TA}{p pos:Pos}(hg:Gl X "range")(hm:X.mg "range"=none)(ha:PA X [a] ta)(hs:starEach [a] X.env=[(false,eval a X.env)]:=by rfl):PI X tg (.Call (.Name "range" p) [a] [] pos) (C2k ta):=by
 intro pins s σ H R I h
 refine Call_ (A5v I hg hm boot_range (PyProof.Rows.callWith_type1 (thn (ha pos pins s σ H _ I h) fun us s1 hh_=>?_) hs rfl))
 obtain⟨vs,H1,I1,r1,q1⟩:=hh_
 obtain⟨j,e,q1,q2,q⟩:=q1
 subst e
 cases r1 with
 | cons r rr=>
   cases rr
   obtain⟨t,rfl⟩:=r
   exact call_range_1 (B5m I1 (by omega) (by omega) q1 q2 (by simpa using q))
noncomputable def C4s (wi:TI) (g:TG) (tb:TS):TS:=fun D σ H=>wi σ H fun J H1=>∃W:Nat ->Nat ->St ->Hp ->Prop,(∃m,W 0 m σ H1)/\∀i m σ H,W i m σ H ->
 (J.stop i H/\D.nx σ H)\/(J.go i H/\∃N:St ->Hp ->Prop,(∀σ' H',N σ' H' ->∃m',m'<m/\W (i+1) m' σ' H')/\∀x H',J.yld i H x H' ->g x σ H' fun σ2 H2=>tb {D with nx:=N,ct:=N,bk:=D.nx} σ2 H2)
noncomputable def Z4 (fp:List Addr) (h:Heap):List (Addr×Obj):=fp.filterMap fun b=>(h.get? b).map fun o=>(b,o)
theorem Z8{fp:List Addr}{h:Heap}{b:Addr}{o:Obj}(hb:b∈fp)(e:h.get? b=some o):(b,o)∈Z4 fp h:=List.mem_filterMap.mpr ⟨b,hb,by rw[e];rfl⟩
theorem B3b{fp:List Addr}{h:Heap}{p:Addr×Obj}(hp:p∈Z4 fp h):p.1∈fp/\h.get? p.1=some p.2:=by
 obtain⟨b,hb,e⟩:=List.mem_filterMap.mp hp
 cases q:h.get? b with
 |none=>rw[q] at e;cases e
 | some o=>
   rw[q] at e
   have e':(b,o)=p:=Option.some.inj e
   subst e'
   exact⟨hb,q⟩
theorem Inv.pinned{pins:List (Addr×Obj)}{σ:St}{H:Hp}{s:Shared}{fp:List Addr}(I:Inv X pins σ H s)(hf:∀b∈fp,Y1 X pins H b)(ho:∀b∈fp,∃o,s.heap.get? b=some o/\∀v,o.data≠ .cell v):Inv X (pins++Z4 fp s.heap) σ H s:=
 I.pins_of fun p hp=>(List.mem_append.mp hp).elim (fun z=>I.pin p (List.mem_append_right _ z)) fun z=>by
   obtain⟨hb,e⟩:=B3b z
   obtain⟨f0,f1,f2,_⟩:=hf p.1 hb
   obtain⟨o,e',d⟩:=ho p.1 hb
   rw[e] at e';cases e'
   exact⟨e,f0,f1,f2,d⟩
theorem Inv.unpinned{pins pl:List (Addr×Obj)}{σ:St}{H:Hp}{s:Shared}(I:Inv X (pins++pl) σ H s):Inv X pins σ H s:=I.pins_of fun p hp=>I.pin p (List.mem_append_right _ (List.mem_append_left _ hp))
theorem B3g{iter:Expr}{body:List Stmt}{wi:TI}{g:TG}{tb:TS}{pos:Pos}(hp:PassesOwn (model X.prog X.w) X.A X.env X.xe)(hc:X.calm=true)(hi:PI X tg iter wi)(hg:PG X tg g)(hb:PSs X body tb)
   (hs:∀x,foldedSetIterable iter X.env x=pure x:=by intro _;rfl):PS X (.For tg iter body [] pos) (C4s wi g tb):=by
 intro pins s σ H D I h
 refine wpAny_For (thn (hi pins s σ H _ I h) fun v s1 h1=>thn h1 fun itv s2 h2=>?_) hs
 obtain⟨it,fp,tn,J,H2,e,I2,T,st2,f2,W,⟨m0,w0⟩,turn⟩:=h2
 subst e
 have stat:∀{H':Hp},(∀b∈fp,H' b=none) ->∀b∈fp,Y1 X pins H' b:=fun hn b hb=>⟨hn b hb,(f2 b hb).2⟩
 refine codeAny_forLoop_any (fun n s'=>∃i σ' H',Inv X pins σ' H' s'/\tn i s'.heap/\(∀b∈fp,H' b=none)/\W i n σ' H') ?_ m0 ⟨0,σ,H2,I2,st2,fun b hb=>(f2 b hb).1,w0⟩
 rintro n s3 ⟨i,σ3,H3,I3,st3,fr3,w3⟩
 rcases turn i n σ3 H3 w3 with⟨stop,qn⟩|⟨go,N,hN,step⟩
 . refine wpAny_passesOwn hp (thn (T.done X rfl rfl rfl hc i pins s3 σ3 H3 X.xe I3 (stat fr3) st3 stop) fun r s4 ⟨hr,I4⟩=>?_)
   subst hr
   exact wpAny_execs_nil ⟨σ3,H3,I4,qn⟩
 . refine wpAny_passesOwn hp (thn (T.item X rfl rfl rfl hc i pins s3 σ3 H3 X.xe I3 (stat fr3) st3 go) fun r s4 ⟨u,hr,h4⟩=>?_)
   subst hr
   refine wpAny_passesOwn hp (thn h4 fun _ s5 hh_=>?_)
   obtain⟨x,H5,I5,r5,y5,st5,fr5⟩:=hh_
   have I5':=I5.pinned (stat fr5) (T.obj _ _ st5)
   refine wpAny_passesOwn hp (thn (hg _ s5 σ3 H5 x u _ I5' r5 (step x H5 y5)) fun _ s6 hh_=>?_)
   obtain⟨σ6,H6,I6,q6⟩:=hh_
   refine wpAny_passesOwn hp (thn (hb _ s6 σ6 H6 _ I6 q6) fun f s7 q7=>?_)
   have again:∀{σ7:St} {H7:Hp},Inv X (pins++Z4 fp s5.heap) σ7 H7 s7 ->N σ7 H7 ->∃m,m<n/\∃i σ' H',Inv X pins σ' H' s7/\tn i s7.heap/\(∀b∈fp,H' b=none)/\W i m σ' H':=fun{σ7 H7} I7 n7=>by
     obtain⟨m',hm,w7⟩:=hN σ7 H7 n7
     refine⟨m',hm,i+1,σ7,H7,I7.unpinned,T.keep _ _ _ st5 fun b hb o e=>(I7.pin (b,o) (List.mem_append_right _ (List.mem_append_right _ (Z8 hb e)))).1,fun b hb=>?_,w7⟩
     obtain⟨o,e,d⟩:=T.obj _ _ st5 b hb
     exact(I7.pin (b,o) (List.mem_append_right _ (List.mem_append_right _ (Z8 hb e)))).2.1
   cases f with
   |next=>obtain⟨σ7,H7,I7,n7⟩:=q7;exact again I7 n7
   |cont=>obtain⟨σ7,H7,I7,n7⟩:=q7;exact again I7 n7
   |brk=>obtain⟨σ7,H7,I7,q7⟩:=q7;exact⟨σ7,H7,I7.unpinned,q7⟩
   |ret v=>obtain⟨x7,σ7,H7,I7,r7,q7⟩:=q7;exact⟨x7,σ7,H7,I7.unpinned,r7,q7⟩
end
theorem B2z{lo:Int}{n:Nat}{g:TG}{tb:TS}{D:Ends}{σ:St}{H:Hp}(Pv:Nat ->St ->Hp ->Prop)(h0:Pv 0 σ H)
   (hs:∀i σ H,i<n ->Pv i σ H ->g (.int (lo+i)) σ H fun σ2 H2=>tb {D with nx:=Pv (i+1),ct:=Pv (i+1),bk:=D.nx} σ2 H2) (hd:∀σ H,Pv n σ H ->D.nx σ H):
   ∃ W:Nat ->Nat ->St ->Hp ->Prop,(∃m,W 0 m σ H)/\∀i m σ H,W i m σ H ->
     ((Itr lo n).stop i H/\D.nx σ H)\/((Itr lo n).go i H/\∃N:St ->Hp ->Prop,(∀σ' H',N σ' H' ->∃m',m'<m/\W (i+1) m' σ' H')/\∀x H',(Itr lo n).yld i H x H' ->g x σ H' fun σ2 H2=>tb {D with nx:=N,ct:=N,bk:=D.nx} σ2 H2):=by
 refine⟨fun i m σ H=>m=n-i/\i<=n/\Pv i σ H,⟨n,by simp,Nat.zero_le _,h0⟩,?_⟩
 rintro i m σ H ⟨rfl,hi,p⟩
 by_cases hlt:i<n
 . refine .inr ⟨hlt,Pv (i+1),fun σ' H' p'=>⟨n-(i+1),by omega,rfl,hlt,p'⟩,fun x H' y=>?_⟩
   obtain⟨e,y⟩:=y
   subst e y
   exact hs i σ _ hlt p
 . have e:i=n:=by omega
   subst e
   exact .inl ⟨Nat.le_refl _,hd σ H p⟩
theorem A3u{c:TT}{tb:TS}{D:Ends}{σ:St}{H:Hp}(Pv:St ->Hp ->Prop)(μ:St ->Hp ->Nat)(h0:Pv σ H)
   (hs:∀σ H,Pv σ H ->c σ H fun b H1=>if b=true then tb {D with nx:=fun σ' H'=>Pv σ' H'/\μ σ' H'<μ σ H,ct:=fun σ' H'=>Pv σ' H'/\μ σ' H'<μ σ H,bk:=D.nx} σ H1 else D.nx σ H1)
   (mono:∀σ H Q Q',(∀b H1,Q b H1 ->Q' b H1) ->c σ H Q ->c σ H Q'):B3q c tb D σ H:=by
 refine⟨fun m σ H=>m=μ σ H/\Pv σ H,⟨_,rfl,h0⟩,?_⟩
 rintro m σ H ⟨rfl,p⟩
 refine mono σ H _ _ (fun b H1 q=>?_) (hs σ H p)
 cases b with
 |true=>exact⟨_,fun σ' H' ⟨p',l⟩=>⟨_,l,rfl,p'⟩,q⟩
 |false=>exact q
noncomputable abbrev R2:=V ->V ->Hp ->VK ->Prop
noncomputable def OpR (X:Cx) (f:Value ->Value ->Sem Value) (r:R2):Prop:=
 ∀ (pins:List (Addr×Obj)) (s:Shared) (σ:St) (H:Hp) (x y:V) (v u:Value) (Q:VK),Inv X pins σ H s ->RelV x v ->RelV y u ->r x y H Q ->
   wpAny (model X.prog X.w) X.A (f v u) (EP X pins σ Q) X.xe s
noncomputable def UnR (X:Cx) (f:Value ->Sem Value) (r:V ->Hp ->VK ->Prop):Prop:=
 ∀ (pins:List (Addr×Obj)) (s:Shared) (σ:St) (H:Hp) (x:V) (v:Value) (Q:VK),Inv X pins σ H s ->RelV x v ->r x H Q ->
   wpAny (model X.prog X.w) X.A (f v) (EP X pins σ Q) X.xe s
noncomputable def A1v (X:Cx) (f:Value) (r:List V ->Hp ->VK ->Prop):Prop:=
 ∀ (pins:List (Addr×Obj)) (s:Shared) (σ:St) (H:Hp) (xs:List V) (us:List Value) (Q:VK),Inv X pins σ H s ->Vals xs us ->r xs H Q ->
   wpAny (model X.prog X.w) X.A (call f us) (EP X pins σ Q) X.xe s
noncomputable def tOp (r:R2) (ta tb:TE):TE:=fun σ H Q=>ta σ H fun x H1=>tb σ H1 fun y H2=>r x y H2 Q
noncomputable def tUn (r:V ->Hp ->VK ->Prop) (ta:TE):TE:=fun σ H Q=>ta σ H fun x H1=>r x H1 Q
noncomputable def rI (C:Int ->Int ->Prop) (g:Int ->Int ->V):R2:=fun x y H Q=>∃i j,x= .int i/\y= .int j/\C i j/\Q (g i j) H
noncomputable def rI0 (g:Int ->Int ->V):R2:=fun x y H Q=>∃i j,x= .int i/\y= .int j/\Q (g i j) H
noncomputable def rU (g:Int ->V):V ->Hp ->VK ->Prop:=fun x H Q=>∃i,x= .int i/\Q (g i) H
section
variable{X:Cx}{a b c:Expr}{ta tb tc:TE}{pos:Pos}
theorem C0r(ha:PE X a ta)(hb:PE X b tb){pins:List (Addr×Obj)}{s:Shared}{σ:St}{H:Hp}{R:V ->V ->Hp ->Prop}(I:Inv X pins σ H s)
   (h:ta σ H fun x H1=>tb σ H1 fun y H2=>R x y H2) {Q:Value ->Shared ->Prop} {f:Value ->Value ->Sem Value}
   (hf:∀v u s2 x y H2,Inv X pins σ H2 s2 ->RelV x v ->RelV y u ->R x y H2 ->wpAny (model X.prog X.w) X.A (f v u) Q X.xe s2):
   wpAny (model X.prog X.w) X.A (eval a X.env) (fun v s₁=>wpAny (model X.prog X.w) X.A (eval b X.env) (fun u s₂=>wpAny (model X.prog X.w) X.A (f v u) Q X.xe s₂) X.xe s₁) X.xe s:=by
 refine thn (ha pins s σ H _ I h) fun v s1 hh_=>?_
 obtain⟨x,H1,I1,r1,q1⟩:=hh_
 refine thn (hb pins s1 σ H1 _ I1 q1) fun u s2 hh_=>?_
 obtain⟨y,H2,I2,r2,q2⟩:=hh_
 exact hf v u s2 x y H2 I2 r1 r2 q2
theorem A8{op:Operator}{r:R2}(ho:OpR X (binaryOp op) r)(ha:PE X a ta)(hb:PE X b tb):PE X (.BinOp a op b pos) (tOp r ta tb):=by
 intro pins s σ H Q I h
 exact wpAny_BinOp (C0r ha hb I h fun v u s2 x y H2 I2 rx ry q=>ho pins s2 σ H2 x y v u Q I2 rx ry q)
theorem A5k{op:UnaryOp}{r:V ->Hp ->VK ->Prop}(ho:UnR X (unaryOp op) r)(ha:PE X a ta):PE X (.UnaryOp op a pos) (tUn r ta):=by
 intro pins s σ H Q I h
 exact UnaryOp_ (thn (ha pins s σ H _ I h) fun v s1 ⟨x,H1,I1,r1,q1⟩=>ho pins s1 σ H1 x v Q I1 r1 q1)
theorem opI{f:Value ->Value ->Sem Value}{C:Int ->Int ->Prop}{g:Int ->Int ->Int}
   (rule:∀(i j:Int) (t u:Tok) (s:Shared) (Q:Value ->Shared ->Prop) (E:Value ->Shared ->Prop),C i j ->Q (.int (g i j) s.toks) {s with toks:=s.toks+1} ->wpAny (model X.prog X.w) X.A (f (.int i t) (.int j u)) Q E s):
   OpR X f (rI C fun i j=> .int (g i j)):=by
 intro pins s σ H x y v u Q I rx ry h
 obtain⟨i,j,rfl,rfl,hc,q⟩:=h
 obtain⟨t,rfl⟩:=rx
 obtain⟨t',rfl⟩:=ry
 exact rule i j t t' s _ _ hc ⟨.int (g i j),H,I.tok _,⟨_,rfl⟩,q⟩
theorem C2b{f:Value ->Value ->Sem Value}{g:Int ->Int ->Int}
   (rule:∀(i j:Int) (t u:Tok) (s:Shared) (Q:Value ->Shared ->Prop) (E:Value ->Shared ->Prop),Q (.int (g i j) s.toks) {s with toks:=s.toks+1} ->wpAny (model X.prog X.w) X.A (f (.int i t) (.int j u)) Q E s):
   OpR X f (rI0 fun i j=> .int (g i j)):=by
 intro pins s σ H x y v u Q I rx ry h
 obtain⟨i,j,rfl,rfl,q⟩:=h
 obtain⟨t,rfl⟩:=rx
 obtain⟨t',rfl⟩:=ry
 exact rule i j t t' s _ _ ⟨.int (g i j),H,I.tok _,⟨_,rfl⟩,q⟩
theorem B7p{f:Value ->Value ->Sem Value}{g:Int ->Int ->Bool}
   (rule:∀(i j:Int) (t u:Tok) (s:Shared) (Q:Value ->Shared ->Prop) (E:Value ->Shared ->Prop),Q (.bool (g i j)) s ->wpAny (model X.prog X.w) X.A (f (.int i t) (.int j u)) Q E s):
   OpR X f (rI0 fun i j=> .bl (g i j)):=by
 intro pins s σ H x y v u Q I rx ry h
 obtain⟨i,j,rfl,rfl,q⟩:=h
 obtain⟨t,rfl⟩:=rx
 obtain⟨t',rfl⟩:=ry
 exact rule i j t t' s _ _ ⟨.bl (g i j),H,I,rfl,q⟩
noncomputable def C3c (i j:Int):Prop:=0<=j/\j<=1000000/\i.natAbs<2^64
noncomputable def CMul (i j:Int):Prop:=(-(2^64)<i/\i<2^64)\/(-(2^64)<j/\j<2^64)
theorem CMul.ok{i j:Int}(h:CMul i j):IntMulOk i j:=by
 rcases h with⟨h1,h2⟩|⟨h1,h2⟩
 . exact .of_left (intBits_le_64 h1 h2)
 . exact .of_right (intBits_le_64 h1 h2)
theorem G6:OpR X (binaryOp .Add) (rI0 fun i j=> .int (i+j)):=C2b fun _ _ _ _ _ _ _ q=>add_int q
theorem A0z:OpR X (binaryOp .Sub) (rI0 fun i j=> .int (i-j)):=C2b fun _ _ _ _ _ _ _ q=>sub_int q
theorem D6:OpR X (binaryOp .Mod) (rI (fun _ j=>0<j) fun i j=> .int (i % j)):=opI fun i j _ _ _ _ _ hc q=>by
 have h1:(0:Int)<j:=hc
 exact mod_int' (by omega) (by rw[Int.fmod_eq_emod_of_nonneg i (by omega)];exact q)
theorem B9w:OpR X (binaryOp .Pow) (rI C3c fun i j=> .int (i^j.toNat)):=opI fun _ _ _ _ _ _ _ hc q=>pow_int_small hc.1 hc.2.1 hc.2.2 q
theorem unI{f:Value ->Sem Value}{g:Int ->Int}
   (rule:∀(i:Int) (t:Tok) (s:Shared) (Q:Value ->Shared ->Prop) (E:Value ->Shared ->Prop),Q (.int (g i) s.toks) {s with toks:=s.toks+1} ->wpAny (model X.prog X.w) X.A (f (.int i t)) Q E s):
   UnR X f (rU fun i=> .int (g i)):=by
 intro pins s σ H x v Q I rx h
 obtain⟨i,rfl,q⟩:=h
 obtain⟨t,rfl⟩:=rx
 exact rule i t s _ _ ⟨.int (g i),H,I.tok _,⟨_,rfl⟩,q⟩
theorem A2d:UnR X (unaryOp .USub) (rU fun i=> .int (-i)):=unI fun _ _ _ _ _ q=>neg_int q
end
noncomputable def C2n:V ->V ->Bool
 | .non,.non=>true| .non,.int _=>true| .int _,.non=>true| .non,.bl _=>true| .bl _,.non=>true| .non,.str _=>true| .str _,.non=>true
 | .int _,.int _=>true| .bl _,.bl _=>true| .str _,.str _=>true| .byt _,.byt _=>true
 | .int _,.str _=>true| .str _,.int _=>true| .bl _,.str _=>true| .str _,.bl _=>true
 |_,_=>false
noncomputable def rEq:R2:=fun x y H Q=>C2n x y=true/\Q (.bl (decide (x=y))) H
noncomputable def rNe:R2:=fun x y H Q=>C2n x y=true/\Q (.bl (!decide (x=y))) H
theorem B0c{i j:Int}:decide (V.int i=V.int j)=(i==j):=by
 rw[Bool.eq_iff_iff]
 simp
theorem B4d{i j:Bool}:decide (V.bl i=V.bl j)=(i==j):=by
 rw[Bool.eq_iff_iff]
 simp
theorem B1b{i j:Str}:decide (V.str i=V.str j)=(i==j):=by
 rw[Bool.eq_iff_iff]
 simp
theorem B1f{i j:Array UInt8}:decide (V.byt i=V.byt j)=(i.toList==j.toList):=by
 rw[Bool.eq_iff_iff]
 cases i
 cases j
 simp
section
variable{X:Cx}{a b c:Expr}{ta tb tc:TE}{pos:Pos}
theorem C9{pins:List (Addr×Obj)}{σ:St}{H:Hp}{s:Shared}{Q:VK}{k k':Bool}(I:Inv X pins σ H s)(q:Q (.bl k) H)(e:k=k'):EP X pins σ Q (.bool k') s:=by
 subst e
 exact⟨.bl k,H,I,rfl,q⟩
theorem U7:OpR X (compareOp .Eq) rEq:=by
 intro pins s σ H x y v u Q I rx ry h
 obtain⟨hs,q⟩:=h
 cases x with
 | non=>
   cases rx
   cases y with
   |non=>cases ry;exact PySem.EqNone.eq_none_none (C9 I q (by simp))
   |bl j=>cases ry;exact PySem.EqNone.eq_none_bool (C9 I q (by simp))
   |int j=>obtain⟨t',rfl⟩:=ry;exact PySem.EqNone.eq_none_int (C9 I q (by simp))
   |str j=>obtain⟨t',rfl⟩:=ry;exact PySem.EqNone.eq_none_str (C9 I q (by simp))
   |_=>exact absurd (show false=true from hs) Bool.false_ne_true
 | bl i=>
   cases rx
   cases y with
   |non=>cases ry;exact PySem.EqNone.eq_bool_none (C9 I q (by simp))
   |bl j=>cases ry;exact eq_bool (C9 I q B4d)
   |str j=>obtain⟨t',rfl⟩:=ry;exact PySem.EqMixed.eq_bool_str (C9 I q (by simp))
   |_=>exact absurd (show false=true from hs) Bool.false_ne_true
 | int i=>
   obtain⟨t,rfl⟩:=rx
   cases y with
   |non=>cases ry;exact PySem.EqNone.eq_int_none (C9 I q (by simp))
   |int j=>obtain⟨t',rfl⟩:=ry;exact eq_int (C9 I q B0c)
   |str j=>obtain⟨t',rfl⟩:=ry;exact PySem.EqMixed.eq_int_str (C9 I q (by simp))
   |_=>exact absurd (show false=true from hs) Bool.false_ne_true
 | str i=>
   obtain⟨t,rfl⟩:=rx
   cases y with
   |non=>cases ry;exact PySem.EqNone.eq_str_none (C9 I q (by simp))
   |bl j=>cases ry;exact PySem.EqMixed.eq_str_bool (C9 I q (by simp))
   |int j=>obtain⟨t',rfl⟩:=ry;exact PySem.EqMixed.eq_str_int (C9 I q (by simp))
   |str j=>obtain⟨t',rfl⟩:=ry;exact eq_str (C9 I q B1b)
   |_=>exact absurd (show false=true from hs) Bool.false_ne_true
 | byt i=>
   obtain⟨t,rfl⟩:=rx
   cases y with
   |byt j=>obtain⟨t',rfl⟩:=ry;exact PySem.W.eq_bytes (C9 I q B1f)
   |_=>exact absurd (show false=true from hs) Bool.false_ne_true
 |_=>cases y<;>exact absurd (show false=true from hs) Bool.false_ne_true
theorem B4r:OpR X (compareOp .NotEq) rNe:=by
 intro pins s σ H x y v u Q I rx ry h
 obtain⟨hs,q⟩:=h
 cases x with
 | non=>
   cases rx
   cases y with
   |non=>cases ry;exact PySem.EqNone.ne_none_none (C9 I q (by simp))
   |bl j=>cases ry;exact PySem.EqNone.ne_none_bool (C9 I q (by simp))
   |int j=>obtain⟨t',rfl⟩:=ry;exact PySem.EqNone.ne_none_int (C9 I q (by simp))
   |str j=>obtain⟨t',rfl⟩:=ry;exact PySem.EqNone.ne_none_str (C9 I q (by simp))
   |_=>exact absurd (show false=true from hs) Bool.false_ne_true
 | bl i=>
   cases rx
   cases y with
   |non=>cases ry;exact PySem.EqNone.ne_bool_none (C9 I q (by simp))
   |bl j=>cases ry;exact ne_bool (C9 I q (congrArg not B4d))
   |str j=>obtain⟨t',rfl⟩:=ry;exact PySem.EqMixed.ne_bool_str (C9 I q (by simp))
   |_=>exact absurd (show false=true from hs) Bool.false_ne_true
 | int i=>
   obtain⟨t,rfl⟩:=rx
   cases y with
   |non=>cases ry;exact PySem.EqNone.ne_int_none (C9 I q (by simp))
   |int j=>obtain⟨t',rfl⟩:=ry;exact ne_int (C9 I q (congrArg not B0c))
   |str j=>obtain⟨t',rfl⟩:=ry;exact PySem.EqMixed.ne_int_str (C9 I q (by simp))
   |_=>exact absurd (show false=true from hs) Bool.false_ne_true
 | str i=>
   obtain⟨t,rfl⟩:=rx
   cases y with
   |non=>cases ry;exact PySem.EqNone.ne_str_none (C9 I q (by simp))
   |bl j=>cases ry;exact PySem.EqMixed.ne_str_bool (C9 I q (by simp))
   |int j=>obtain⟨t',rfl⟩:=ry;exact PySem.EqMixed.ne_str_int (C9 I q (by simp))
   |str j=>obtain⟨t',rfl⟩:=ry;exact ne_str (C9 I q (congrArg not B1b))
   |_=>exact absurd (show false=true from hs) Bool.false_ne_true
 | byt i=>
   obtain⟨t,rfl⟩:=rx
   cases y with
   |byt j=>obtain⟨t',rfl⟩:=ry;exact PySem.W.ne_bytes (C9 I q (congrArg not B1f))
   |_=>exact absurd (show false=true from hs) Bool.false_ne_true
 |_=>cases y<;>exact absurd (show false=true from hs) Bool.false_ne_true
theorem B0f:OpR X (compareOp .Lt) (rI0 fun i j=> .bl (decide (i<j))):=B7p fun _ _ _ _ _ _ _ q=>lt_int q
theorem A7j:OpR X (compareOp .LtE) (rI0 fun i j=> .bl (decide (i<=j))):=B7p fun _ _ _ _ _ _ _ q=>le_int q
theorem B3j:OpR X (compareOp .Gt) (rI0 fun i j=> .bl (decide (j<i))):=B7p fun _ _ _ _ _ _ _ q=>gt_int q
theorem B9d:OpR X (compareOp .GtE) (rI0 fun i j=> .bl (decide (j<=i))):=B7p fun _ _ _ _ _ _ _ q=>ge_int q
theorem B2h:OpR X (compareOp .In) (fun x y H Q=>∃i j,x= .str i/\y= .str j/\Q (.bl (!(Builtin.Str.occurrences j i 0 j.length 1).isEmpty)) H):=by
 intro pins s σ H x y v u Q I rx ry h
 obtain⟨i,j,rfl,rfl,q⟩:=h
 obtain⟨t,rfl⟩:=rx
 obtain⟨t',rfl⟩:=ry
 exact in_str (C9 I q rfl)
theorem C0h:OpR X (compareOp .Is) (fun x y H Q=>y= .non/\Q (.bl (decide (x= .non))) H):=by
 intro pins s σ H x y v u Q I rx ry h
 obtain⟨rfl,q⟩:=h
 cases ry
 refine is_none_gen (C9 I q ?_)
 cases x<;>first
   |(cases rx;rfl)
   |(obtain⟨t,rfl⟩:=rx;rfl)
theorem B8r:OpR X (compareOp .IsNot) (fun x y H Q=>y= .non/\Q (.bl (!decide (x= .non))) H):=by
 intro pins s σ H x y v u Q I rx ry h
 obtain⟨rfl,q⟩:=h
 cases ry
 refine isnot_none_gen (C9 I q ?_)
 cases x<;>first
   |(cases rx;rfl)
   |(obtain⟨t,rfl⟩:=rx;rfl)
theorem B9(b:Expr){op:CmpOp}(h:op≠ .In:=by decide)(h2:op≠ .NotIn:=by decide):behindInMarks op b=false:=by
 have e1:(op==CmpOp.In)=false:=by cases op<;>first|rfl|exact absurd rfl h
 have e2:(op==CmpOp.NotIn)=false:=by cases op<;>first|rfl|exact absurd rfl h2
 cases b<;>simp[behindInMarks,e1,e2]
theorem V5{op:CmpOp}{r:R2}(ho:OpR X (compareOp op) r)(ha:PE X a ta)(hb:PE X b tb)(hm:behindInMarks op b=false):PE X (.Compare a [op] [b] pos) (tOp r ta tb):=by
 intro pins s σ H Q I h
 exact wpAny_Compare1 (C0r ha hb I h fun v u s2 x y H2 I2 rx ry q=>ho pins s2 σ H2 x y v u Q I2 rx ry q) hm
noncomputable def B9b (t:TE):TT:=fun σ H Q=>t σ H fun x H'=>∃k,x= .bl k/\Q k H'
theorem B5{op:CmpOp}{r:R2}(ho:OpR X (compareOp op) r)(ha:PE X a ta)(hb:PE X b tb)(hm:behindInMarks op b=false):PT X (.Compare a [op] [b] pos) (B9b (tOp r ta tb)):=by
 intro pins s σ H Q I h
 refine wpAny_isTrue_Compare1 (thn (ha pins s σ H _ I h) fun v s1 ⟨x,H1,I1,r1,q1⟩=>thn (hb pins s1 σ H1 _ I1 q1) fun u s2 ⟨y,H2,I2,r2,q2⟩=>
   thn (ho pins s2 σ H2 x y v u _ I2 r1 r2 q2) fun c s3 ⟨z,H3,I3,r3,k,e,q3⟩=>?_) hm
 subst e
 cases r3
 exact wpAny_truthy_bool ⟨H3,I3,q3⟩
noncomputable def C0v (r r':R2) (ta tb tc:TE):TE:=fun σ H Q=>ta σ H fun x H1=>tb σ H1 fun y H2=>r x y H2 fun z H3=>∃k,z= .bl k/\
 (if k=true then tc σ H3 fun w' H4=>r' y w' H4 Q else Q (.bl false) H3)
theorem A7a{op op':CmpOp}{r r':R2}(ho:OpR X (compareOp op) r)(ho':OpR X (compareOp op') r')(ha:PE X a ta)(hb:PE X b tb)(hc:PE X c tc)
   (hm:lastMarks [op,op'] [b,c]=false:=by with_unfolding_all rfl):PT X (.Compare a [op,op'] [b,c] pos) (B9b (C0v r r' ta tb tc)):=by
 intro pins s σ H Q I h
 refine isTrue_chain (thn (ha pins s σ H _ I h) fun v s1 ⟨x,H1,I1,r1,q1⟩=>test_link (thn (hb pins s1 σ H1 _ I1 q1) fun u s2 ⟨y,H2,I2,r2,q2⟩=>
   thn (ho pins s2 σ H2 x y v u _ I2 r1 r2 q2) fun d s3 ⟨z,H3,I3,r3,k,e,q3⟩=>?_)) hm
 subst e
 cases r3
 refine wpAny_truthy_bool ?_
 cases k with
 | false=>
   obtain⟨k',e',q'⟩:=q3
   cases e'
   exact ite_ff ⟨H3,I3,q'⟩
 | true=>
   refine ite_tt (test_last (thn (hc pins s3 σ H3 _ I3 q3) fun w' s4 ⟨z',H4,I4,r4,q4⟩=>thn (ho' pins s4 σ H4 y z' u w' _ I4 r2 r4 q4) fun d' s5 hh_=>?_))
   obtain⟨z2,H5,I5,r5,k2,e2,q5⟩:=hh_
   subst e2
   cases r5
   exact wpAny_truthy_bool ⟨H5,I5,q5⟩
theorem A3z:(sizeLine:Nat)<2^63:=by rw[sizeLine_eq];decide
theorem B8:OpR X (binaryOp .Add) (fun x y H Q=>∃i j,x= .str i/\y= .str j/\i.length+j.length<=sizeLine/\Q (.str (i++j)) H):=by
 intro pins s σ H x y v u Q I rx ry h
 obtain⟨i,j,rfl,rfl,hz,q⟩:=h
 obtain⟨t,rfl⟩:=rx
 obtain⟨t',rfl⟩:=ry
 exact add_str (fun t' tk=>⟨.str (i++j),H,I.tok _,⟨_,rfl⟩,q⟩) hz
theorem A3t{x:V}{us:List Value}(r:Vals [x] us):∃u,us=[u]/\RelV x u:=by
 cases r with
 |cons r1 r2=>cases r2;exact⟨_,rfl,r1⟩
theorem C3b{x y:V}{us:List Value}(r:Vals [x,y] us):∃u w',us=[u,w']/\RelV x u/\RelV y w':=by
 cases r with
 | cons r1 r2=>
   cases r2 with
   |cons r3 r4=>cases r4;exact⟨_,_,rfl,r1,r3⟩
theorem A0n:A1v X (.type "int") (fun xs H Q=>(∃i,xs=[.int i]/\Q (.int i) H)\/∃k,xs=[.bl k]/\Q (.int (if k then 1 else 0)) H):=by
 intro pins s σ H xs us Q I r h
 rcases h with⟨i,rfl,q⟩|⟨k,rfl,q⟩
 . obtain⟨u,rfl,t,rfl⟩:=A3t r
   exact call_int_int ⟨.int i,H,I,⟨_,rfl⟩,q⟩
 . obtain⟨u,rfl,r1⟩:=A3t r
   cases r1
   exact call_int_bool ⟨.int (if k then 1 else 0),H,I.tok _,⟨_,rfl⟩,q⟩
theorem A6c:A1v X (.type "str") (fun xs H Q=>∃i,xs=[.int i]/\i.natAbs.log2<1920/\Q (.str (toString i)) H):=by
 intro pins s σ H xs us Q I r h
 obtain⟨i,rfl,hz,q⟩:=h
 obtain⟨u,rfl,t,rfl⟩:=A3t r
 exact PySem.P.str_of_int hz ⟨.str _,H,I.tok _,⟨_,rfl⟩,q⟩
end
structure ObjM(h:Heap)(x dx C:Addr)(mA:Str ->Option Value):Prop where
 obj:h.get? x=some (PySem.W.instObj C dx)
 ns:h.Ns1 dx mA
 ne:dx≠x
theorem A4y{h:Heap}{dx:Addr}{mA:Str ->Option Value}(n:h.Ns1 dx mA):∃od,h.get? dx=some od/\∀name,PySem.W.lookIn name od=some (mA name):=by
 obtain⟨o,es,ep,ho,hd,hk,_,hm⟩:=n
 refine⟨o,ho,fun name=>?_⟩
 have e:=hm name
 unfold nsFind findBy at e
 rw[<-Array.find?_toList] at e
 unfold PySem.W.lookIn
 rw[hd]
 dsimp only
 split
 . rename_i y q
   rw[q] at e
   exact congrArg some e
 . rename_i q
   rw[q] at e
   have a:es.toList.any (·.refKey)=false:=by
     rw[List.any_eq_false]
     intro y hy
     obtain⟨z,t,hkey⟩:=hk y (Array.mem_toList_iff.mp hy)
     simp[DictEntry.refKey,hkey]
   have a':¬es.toList.any (·.refKey)=true:=by rw[a];exact Bool.false_ne_true
   rw[if_neg a']
   exact congrArg some e
theorem ObjM.look{h:Heap}{x dx C:Addr}{mA:Str ->Option Value}(I:ObjM h x dx C mA):∃od,PySem.W.InstAt h x (PySem.W.instObj C dx) C (some od)/\∀name,PySem.W.lookIn name od=some (mA name):=
 let⟨od,ho,hl⟩:=A4y I.ns
 ⟨od,⟨I.obj,rfl,rfl,ho⟩,hl⟩
section
variable{prog:Program}{w:World}{A:Around}{E:Value ->Shared ->Prop}{s:Shared}{K:PySem.W.Frag}{x dx C f:Addr}{mA:Str ->Option Value}{name:Str}{v:Value}
theorem B6s{expr:Bool}{Q:Value ->Shared ->Prop}(X:K.In s.heap)(I:ObjM s.heap x dx C mA)(hg:PySem.W.plainGet K C name=true)(hh:PySem.W.hasDictIn K C=true)
   (ha:PySem.W.findIn K (.ref C) name=some none) (hv:mA name=some v) (hv':PySem.W.handedIn v=true) (h:Q v {s with toks:=s.toks+1}):
   wpAny (model prog w) A (getAttr (.ref x) name expr) Q E s:=by
 obtain⟨od,J,hl⟩:=I.look
 exact PySem.W.get_value X J (PySem.W.plainGet_of hg).1 (PySem.W.findObj_own hh ha rfl (by rw[hl,hv])) hv' h
theorem B7y{ns:List Str}{Q:Unit ->Shared ->Prop}(X:K.In s.heap)(I:ObjM s.heap x dx C mA)
   (hs:PySem.W.findIn K (.ref C) "__setattr__"=some (some (.builtin "object.__setattr__"))) (hp:PySem.W.plainOver K C=true) (ht:PySem.W.takerIn K C name=some none) (hh:PySem.W.hasDictIn K C=true)
   (hw:PySem.Within mA ns) (hsz:ns.length<=sizeLine)
   (h:∀h',ObjM h' x dx C (fun y=>if y=name then some v else mA y) ->Heap.SameBut dx s.heap h' ->Q () {s with heap:=h',toks:=s.toks+2}):
   wpAny (model prog w) A (setAttr (.ref x) name v) Q E s:=by
 obtain⟨od,J,hl⟩:=I.look
 refine PySem.W.set_plain X J hs (PySem.W.osa_open (s:={s with toks:=s.toks+1}) (r:=none) X J hp ht fun b=>?_)
 obtain⟨cd,hc,hd'⟩:=PySem.W.any_some hh
 have hx:s.heap.get? x=some ⟨.ref C,some dx,.plain, #[]⟩:=I.obj
 refine wpAny_bind (wpAny_pure (wpAny_bind (wpAny_bind (wpAny_loadPart hx (wpAny_bind (PySem.W.Looks.here (s:={s with toks:=s.toks+1}) (PySem.W.looks_clsIn X hc) ?_))))))
 rw[hd']
 refine wpAny_pure (a:=some dx) (wpAny_bind (wpAny_pure (wpAny_bind ?_)))
 refine wpAny_nsSet1 (s:={s with toks:=s.toks+1}) I.ns fun h' hn2 hs2=>?_
 obtain⟨oD,esD,epD,hoD,hdD,hcD⟩:=hn2.count (PySem.Within.cons name v hw)
 refine wpAny_bind (wpAny_lookBehind hoD (by rw[hdD];exact pastItsLine_dict (Nat.le_trans hcD (by rw[List.length_cons];omega))) ?_)
 exact wpAny_pure (h _ ⟨(hs2.2 _ (Ne.symm I.ne)).trans I.obj,hn2,I.ne⟩ hs2)
theorem B5j{R:Result ->Shared ->Prop}{vs:List Value}{kw:List (Str×Value)}(X:K.In s.heap)(hm:PySem.W.makesIn K C=true)
   (hi:PySem.W.findIn K (.ref C) "__init__"=some (some (.ref f))) (hf:PySem.W.typeIn K (.ref f)=some (.type "function"))
   (h:codeAny (model prog w) (A.under (.builtin "type.__call__" ⟨.ref C::vs,kw⟩)) (.call (.ref f) ⟨.ref (s.heap.objs.size+1)::vs,kw⟩) (PySem.W.InitBack (s.heap.objs.size+1) R)
     {s with heap:=(s.heap.push PySem.W.emptyDict).push (PySem.W.instObj C s.heap.objs.size)}):
   codeAny (model prog w) A (.call (.ref C) ⟨vs,kw⟩) R s:=by
 obtain⟨hh,g,d,t,os⟩:=s
 exact PySem.W.make_core (PySem.W.makes_of X hm) (PySem.W.looks_findIn X hi) (fun self=>PySem.W.bind_fn X self hf) (.inl rfl) h
end
noncomputable def Y6 (f:Str) (v:V):List (Str×V) ->List (Str×V)
 | []=>[(f,v)]
 |(g,x)::r=>if g=f then(g,v)::r else(g,x)::Y6 f v r
theorem D5(f g:Str)(v:V):∀fs:List (Str×V),(Y6 f v fs).lookup g=if g=f then some v else fs.lookup g
 | []=>by
   show List.lookup g [(f,v)]=_
   by_cases h:g=f
   . have hb:(g==f)=true:=beq_iff_eq.mpr h
     simp only[List.lookup,hb,if_pos h]
   . have hb:(g==f)=false:=beq_eq_false_iff_ne.mpr h
     simp only[List.lookup,hb,if_neg h]
 | (k, x)::r=>by
   have ih:=D5 f g v r
   rw[show Y6 f v ((k,x)::r)=(if k=f then(k,v)::r else(k,x)::Y6 f v r) from rfl]
   by_cases hk:k=f
   . rw[if_pos hk]
     by_cases h:g=k
     . have hb:(g==k)=true:=beq_iff_eq.mpr h
       simp only[List.lookup,hb,if_pos (h.trans hk)]
     . have hb:(g==k)=false:=beq_eq_false_iff_ne.mpr h
       simp only[List.lookup,hb,if_neg (fun e:g=f=>h (e.trans hk.symm))]
   . rw[if_neg hk]
     by_cases h:g=k
     . have hb:(g==k)=true:=beq_iff_eq.mpr h
       simp only[List.lookup,hb,if_neg (fun e:g=f=>hk (h.symm.trans e))]
     . have hb:(g==k)=false:=beq_eq_false_iff_ne.mpr h
       simp only[List.lookup,hb]
       exact ih
theorem A2a(f:Str)(v:V):∀fs:List (Str×V),f∈(Y6 f v fs).map (·.1)/\∀g,g∈fs.map (·.1) ->g∈(Y6 f v fs).map (·.1)
 | []=>⟨by simp[Y6],fun g h=>by simp at h⟩
 | (k, x)::r=>by
   obtain⟨i1,i2⟩:=A2a f v r
   rw[show Y6 f v ((k,x)::r)=(if k=f then(k,v)::r else(k,x)::Y6 f v r) from rfl]
   by_cases hk:k=f
   . rw[if_pos hk]
     subst hk
     exact⟨by simp,fun g h=>by simpa using h⟩
   . rw[if_neg hk]
     refine⟨?_,fun g h=>?_⟩
     . rw[List.map_cons]
       exact List.mem_cons_of_mem _ i1
     . rw[List.map_cons] at h ⊢
       rcases List.mem_cons.mp h with e|e
       . exact List.mem_cons.mpr (.inl e)
       . exact List.mem_cons_of_mem _ (i2 g e)
theorem A0h(f:Str)(v:V):∀fs:List (Str×V),(Y6 f v fs).length<=fs.length+1
 | []=>by simp[Y6]
 | (k,x)::r=>by
   have ih:=A0h f v r
   rw[show Y6 f v ((k,x)::r)=(if k=f then(k,v)::r else(k,x)::Y6 f v r) from rfl]
   by_cases hk:k=f
   . rw[if_pos hk,List.length_cons,List.length_cons];omega
   . rw[if_neg hk,List.length_cons,List.length_cons];omega
theorem RelO.some_of{v:V}{o:Option Value}(r:RelO (some v) o):∃u,o=some u/\RelV v u:=by
 cases o with
 |none=>exact(show False from r).elim
 |some u=>exact⟨u,rfl,r⟩
theorem B2q{v:V}{u:Value}(r:RelV v u):PySem.W.handedIn u=true:=by
 cases v with
 |non=>cases(show u=Value.none from r);rfl
 |bl b=>cases(show u=Value.bool b from r);rfl
 |int i=>obtain⟨t,e⟩:=(show∃t,u=Value.int i t from r);cases e;rfl
 |str x=>obtain⟨t,e⟩:=(show∃t,u=Value.str x t from r);cases e;rfl
 |byt b=>obtain⟨t,e⟩:=(show∃t,u=Value.bytes b t from r);cases e;rfl
 |flt b=>obtain⟨t,e⟩:=(show∃t,u=Value.float b t from r);cases e;rfl
 |ref a=>cases(show u=Value.ref a from r);rfl
 |ty n=>cases(show u=Value.type n from r);rfl
section
variable{P:Program}{w:World}{H H':Hp}{h h':Heap}{a C dx:Addr}{fs fs':List (Str×V)}
theorem A5w(hok:HOk P w H h)(e:H a=some (.ins C dx fs)):∃mA,ObjM h a dx C mA/\(∀f,RelO (fs.lookup f) (mA f))/\PySem.Within mA (fs.map (·.1))/\fs.length<=1000/\H dx=some (.own a):=by
 obtain⟨d,z,ne,ob,mA,n,r,q⟩:=(show ObjOk P w H h a (.ins C dx fs) from hok a _ e)
 exact⟨mA,⟨ob,n,ne⟩,r,q,z,d⟩
end
structure Cls(K:PySem.W.Frag)(C:Addr):Prop where
 pg:PySem.W.plainGet K C Str.empty=true
 hd:PySem.W.hasDictIn K C=true
 po:PySem.W.plainOver K C=true
 sa:PySem.W.findIn K (.ref C) "__setattr__"=some (some (.builtin "object.__setattr__"))
theorem Cls.get{K:PySem.W.Frag}{C:Addr}(c:Cls K C)(f:Str):PySem.W.plainGet K C f=true:=c.pg
noncomputable def NoAttr (K:PySem.W.Frag) (C:Addr) (f:Str):Prop:=PySem.W.findIn K (.ref C) f=some none
theorem NoAttr.taker{K:PySem.W.Frag}{C:Addr}{f:Str}(n:NoAttr K C f):PySem.W.takerIn K C f=some none:=by
 unfold PySem.W.takerIn
 rw[show PySem.W.findIn K (.ref C) f=some none from n]
 rfl
section
variable{X:Cx}{pins:List (Addr×Obj)}{σ:St}{H:Hp}{s:Shared}{a C dx:Addr}{fs:List (Str×V)}{f:Str}{v:V}{A:Around}{E:Value ->Shared ->Prop}
theorem A9m{b:Bool}{Q:Value ->Shared ->Prop}(I:Inv X pins σ H s)(e:H a=some (.ins C dx fs))(c:Cls X.K C)(n:NoAttr X.K C f)(l:fs.lookup f=some v)
   (h:∀u s',Inv X pins σ H s' ->RelV v u ->Q u s'):wpAny (model X.prog X.w) A (getAttr (.ref a) f b) Q E s:=by
 obtain⟨mA,O,r,_,_,_⟩:=A5w I.hok e
 obtain⟨u,hu,ru⟩:=RelO.some_of (v:=v) (o:=mA f) (by rw[<-l];exact r f)
 exact B6s I.kIn O (c.get f) c.hd n hu (B2q ru) (h u _ (I.tok _) ru)
theorem A9c{y:V}{u:Value}{Q:Unit ->Shared ->Prop}(I:Inv X pins σ H s)(e:H a=some (.ins C dx fs))(c:Cls X.K C)(n:NoAttr X.K C f)(hl:fs.length<1000)(ry:RelV y u)
   (h:∀s',Inv X pins σ (upd H a (.ins C dx (Y6 f y fs))) s' ->Q () s'):wpAny (model X.prog X.w) A (setAttr (.ref a) f u) Q E s:=by
 obtain⟨mA,O,r,wi,_,ho⟩:=A5w I.hok e
 have hz:(fs.map (·.1)).length<=sizeLine:=by rw[List.length_map,sizeLine_eq];omega
 refine B7y I.kIn O c.sa c.po n.taker c.hd wi hz fun h' O' sb=>h _ ?_
 have hd:∃o,h'.get? dx=some o:=let⟨o,_,_,e',_⟩:=O'.ns;⟨o,e'⟩
 refine I.write (x:=a) (e:=dx) (by rw[e];exact True.intro) (.inr ho) (fun b q hb z=>(sb.2 b hb).trans z) hd ?_
 refine⟨by rw[D3 O.ne];exact ho,?_,O.ne,O'.obj,_,O'.ns,fun g=>?_,fun g hg=>?_⟩
 . have:=A0h f y fs;omega
 . show RelO ((Y6 f y fs).lookup g) (if g=f then some u else mA g)
   rw[D5]
   by_cases q:g=f
   . rw[if_pos q,if_pos q];exact ry
   . rw[if_neg q,if_neg q];exact r g
 . by_cases q:g=f
   . rw[q];exact(A2a f y fs).1
   . refine(A2a f y fs).2 g (wi g fun z=>hg ?_)
     show(if g=f then some u else mA g)=none
     rw[if_neg q];exact z
theorem Inv.made(I:Inv X pins σ H s):Inv X pins σ (upd (upd H s.heap.objs.size (.own (s.heap.objs.size+1))) (s.heap.objs.size+1) (.ins C s.heap.objs.size []))
   {s with heap:=(s.heap.push PySem.W.emptyDict).push (PySem.W.instObj C s.heap.objs.size)}:=by
 have e1:(s.heap.push PySem.W.emptyDict).get? s.heap.objs.size=some PySem.W.emptyDict:=Heap.get?_push_size s.heap rfl
 have e2:((s.heap.push PySem.W.emptyDict).push (PySem.W.instObj C s.heap.objs.size)).get? (s.heap.objs.size+1)=some (PySem.W.instObj C s.heap.objs.size):=by
   have:=Heap.get?_push_size (s.heap.push PySem.W.emptyDict) (o:=PySem.W.instObj C s.heap.objs.size) rfl
   rwa[Heap.size_push] at this
 have e3:(s.heap.push PySem.W.emptyDict).Ns s.heap.objs.size (fun _=>none):=⟨PySem.W.emptyDict, #[],_,e1,rfl,(fun e he=>absurd he (by simp)),fun _=>rfl⟩
 have I1:=I.laid (a:=s.heap.objs.size) (o:= .own (s.heap.objs.size+1)) (h':=s.heap.push PySem.W.emptyDict) (t':=s.toks) (fun b u q=>Heap.get?_push_of_some _ q) (Nat.le_refl _) ⟨_,e1⟩
 refine I1.laid (a:=s.heap.objs.size+1) (o:= .ins C s.heap.objs.size []) (t':=s.toks) (fun b u q=>Heap.get?_push_of_some _ q) (Nat.le_of_eq (Heap.size_push _ _)) ?_
 have ne:s.heap.objs.size≠s.heap.objs.size+1:=Nat.ne_of_lt (Nat.lt_succ_self _)
 refine⟨by rw[D3 ne,A9],Nat.zero_le _,ne,e2,fun _=>none,(Heap.Ns1.of_empty e3).at fun o q=>Heap.get?_push_of_some _ q,fun _=>True.intro,fun y hy=>absurd rfl hy⟩
theorem B6w{prog:Program}{w:World}{env:Env}{e:Expr}{f:Str}{pos:Pos}{s:Shared}{Q:Value ->Shared ->Prop}(hb:attributeBase e f env (eval e env)=eval e env)
   (h:wpAny (model prog w) A (eval e env) (fun o s₁=>wpAny (model prog w) A (getAttr o f true) Q E s₁) E s):wpAny (model prog w) A (eval (.Attribute e f pos) env) Q E s:=
 Attribute_any_ h (by rw[arm_eval_Attribute,hb])
end
noncomputable def C4r (K:PySem.W.Frag) (ta:TE) (f:Str):TE:=fun σ H Q=>ta σ H fun x H1=>∃a C dx fs v,x= .ref a/\H1 a=some (.ins C dx fs)/\Cls K C/\NoAttr K C f/\fs.lookup f=some v/\Q v H1
noncomputable def C4m (K:PySem.W.Frag) (ta tv:TE) (f:Str):TS:=fun D σ H=>tv σ H fun y H1=>ta σ H1 fun x H2=>∃a C dx fs,x= .ref a/\H2 a=some (.ins C dx fs)/\Cls K C/\NoAttr K C f/\fs.length<1000/\
 D.nx σ (upd H2 a (.ins C dx (Y6 f y fs)))
section
variable{X:Cx}{o e value:Expr}{f:Str}{pos pos' tpos:Pos}{ta tv:TE}
theorem A6b(he:PE X e ta)(hb:attributeBase e f X.env (eval e X.env)=eval e X.env):PE X (.Attribute e f pos) (C4r X.K ta f):=by
 intro pins s σ H Q I h
 refine B6w hb (thn (he pins s σ H _ I h) fun u s1 hh_=>?_)
 obtain⟨x,H1,I1,rx,a,C,dx,fs,v,ex,ea,c,n,l,q⟩:=hh_
 subst ex
 obtain rfl:u=Value.ref a:=rx
 exact A9m I1 ea c n l fun u' s2 I2 ru=>⟨v,H1,I2,ru,q⟩
theorem A6f(ha:PE X o ta)(hv:PE X value tv)(hs:swapsWith value (some (.Attribute o f pos')) pos.line X.env=pure false):PS X (.Assign [.Attribute o f pos'] value pos) (C4m X.K ta tv f):=by
 intro pins s σ H D I h
 refine plainObj_wpAny_Assign_Attribute (thn (hv pins s σ H _ I h) fun u s1 ⟨y,H1,I1,ry,q⟩=>thn (ha pins s1 σ H1 _ I1 q) fun ov s2 hh_=>?_) hs
 obtain⟨x,H2,I2,rx,a,C,dx,fs,ex,ea,c,n,l,q2⟩:=hh_
 subst ex
 obtain rfl:ov=Value.ref a:=rx
 exact A9c I2 ea c n l ry fun s3 I3=>⟨σ,_,I3,q2⟩
end
section
variable{X:Cx}{pins:List (Addr×Obj)}{σ:St}{H:Hp}{s:Shared}{A:Around}{E:Value ->Shared ->Prop}{Q:Value ->Shared ->Prop}{c:Value}{b:Bool}
inductive TyOf(K:PySem.W.Frag)(H:Hp):V ->Value ->Prop where
 |non:TyOf K H .non (.type "NoneType")
 |bl (x:Bool):TyOf K H (.bl x) (.type "bool")
 |int (i:Int):TyOf K H (.int i) (.type "int")
 |str (x:Str):TyOf K H (.str x) (.type "str")
 |flt (x:UInt64):TyOf K H (.flt x) (.type "float")
 |lst {a:Addr} {xs:List V} (e:H a=some (.lst xs)):TyOf K H (.ref a) (.type "list")
 |frz {a:Addr} {o:Obj} {xs:List V} (e:H a=some (.frz o (.lst xs))):TyOf K H (.ref a) (.type "list")
 |tup {a:Addr} {xs:List V} (e:H a=some (.tup xs)):TyOf K H (.ref a) (.type "tuple")
 |dK {a:Addr} {kvs:List (Key×V)} (e:H a=some (.dK kvs)):TyOf K H (.ref a) (.type "dict")
 |dT {a:Addr} {kvs:List (List Key×V)} (e:H a=some (.dT kvs)):TyOf K H (.ref a) (.type "dict")
 |ins {a C dx:Addr} {fs:List (Str×V)} (e:H a=some (.ins C dx fs)) (cl:Cls K C) (ha:PySem.W.findIn K (.ref C) "__class__"=some (some (.builtin "object.__class__")))
     (hn:PySem.W.specialIn K (.builtin "object.__class__") "__get__"=some (some (.builtin "getset_descriptor.__get__"))) (htk:PySem.W.takesIn K (.builtin "object.__class__")=some true)
     (hm:PySem.W.mroIn K C (.type "object")=some true):TyOf K H (.ref a) (.ref C)
theorem B3a{x:V}{u t:Value}(I:Inv X pins σ H s)(rx:RelV x u)(ty:TyOf X.K H x t)(e:PySem.W.kitOne X.K t c=some b)(h:∀tk,Q (.bool b) {s with toks:=tk}):
   wpAny (model X.prog X.w) A (call (.builtin "isinstance") [u,c]) Q E s:=by
 cases ty with
 |non=>cases(show u=Value.none from rx);exact PySem.W.kia_one PySem.W.kitx_none I.kIn True.intro e (fun z=>nomatch z) h
 |bl y=>cases(show u=Value.bool y from rx);exact PySem.W.kia_one PySem.W.kitx_bool I.kIn True.intro e (fun z=>nomatch z) h
 |int i=>obtain⟨t,q⟩:=(show∃t,u=Value.int i t from rx);cases q;exact PySem.W.kia_one PySem.W.kitx_int I.kIn True.intro e (fun z=>nomatch z) h
 |str y=>obtain⟨t,q⟩:=(show∃t,u=Value.str y t from rx);cases q;exact PySem.W.kia_one PySem.W.kitx_str I.kIn True.intro e (fun z=>nomatch z) h
 |flt y=>obtain⟨t,q⟩:=(show∃t,u=Value.float y t from rx);cases q;exact PySem.W.kia_one PySem.W.kitx_float I.kIn True.intro e (fun z=>nomatch z) h
 | @lst a xs ea=>
   cases(show u=Value.ref a from rx)
   obtain⟨_,_,n,_,h1⟩:=(show ObjOk X.prog X.w H s.heap a (.lst xs) from I.hok a _ ea)
   exact PySem.W.kia_one PySem.W.kitx_list I.kIn ⟨_,h1,rfl⟩ e (fun z=>nomatch z) h
 | @frz a ob xs ea=>
   cases(show u=Value.ref a from rx)
   obtain⟨_,_,_,n,_,h1⟩:=(show ObjOk X.prog X.w H s.heap a (.frz ob (.lst xs)) from I.hok a _ ea)
   exact PySem.W.kia_one PySem.W.kitx_list I.kIn ⟨_,h1,rfl⟩ e (fun z=>nomatch z) h
 | @tup a xs ea=>
   cases(show u=Value.ref a from rx)
   obtain⟨_,_,_,p⟩:=(show ObjOk X.prog X.w H s.heap a (.tup xs) from I.hok a _ ea)
   obtain⟨o,h1,h2,_⟩:=p
   exact PySem.W.kia_one PySem.W.kitx_tuple I.kIn ⟨o,h1,h2⟩ e (fun z=>nomatch z) h
 | @dK a kvs ea=>
   cases(show u=Value.ref a from rx)
   obtain⟨_,_,vs,_,p⟩:=(show ObjOk X.prog X.w H s.heap a (.dK kvs) from I.hok a _ ea)
   obtain⟨o,es,ep,h1,h2,_⟩:=p
   exact PySem.W.kia_one PySem.W.kitx_dict I.kIn ⟨o,h1,h2.1⟩ e (fun z=>nomatch z) h
 | @dT a kvs ea=>
   cases(show u=Value.ref a from rx)
   obtain⟨_,_,xs,_,o,es,ep,h1,h2,_⟩:=(show ObjOk X.prog X.w H s.heap a (.dT kvs) from I.hok a _ ea)
   exact PySem.W.kia_one PySem.W.kitx_dict I.kIn ⟨o,h1,h2.1⟩ e (fun z=>nomatch z) h
 | @ins a C dx fs ea cl ha hn htk hm=>
   cases(show u=Value.ref a from rx)
   obtain⟨mA,O,_⟩:=A5w I.hok ea
   obtain⟨od,J,_⟩:=O.look
   exact PySem.W.kia_one (PySem.W.kitx_own (cl.get _) cl.hd ha hn htk hm) I.kIn J e (fun z=>nomatch z) h
end
structure Room(k:Nat)(A:Around):Prop where
 hd:A.handled=none
 dp:A.depth+3*k+5<recursionLimit
 un:A.units+16*k+200<cLine
theorem Room.mono{j k:Nat}{A:Around}(r:Room k A)(h:j<=k):Room j A:=⟨r.hd,by have:=r.dp;omega,by have:=r.un;omega⟩
theorem Room.deeper{k:Nat}{A:Around}(r:Room (k+1) A)(env:Env):Room k (A.deeper env):=
 ⟨r.hd,by have:=r.dp;show A.depth+1+3*k+5<_;omega,by have:=r.un;show A.units+3+16*k+200<_;omega⟩
theorem A9w{A:Around}{C:Addr}{us:List Value}{kw:List (Str×Value)}:(A.under (.builtin "type.__call__" ⟨.ref C::us,kw⟩)).depth=A.depth+1:=by
 first|rfl|simp[Around.under,Code.weight,Code.isCreation,Code.isGuard,Code.isCaller,Code.frames,Code.isFrame,guardIds]
theorem A9d{A:Around}{C:Addr}{us:List Value}{kw:List (Str×Value)}:(A.under (.builtin "type.__call__" ⟨.ref C::us,kw⟩)).units=A.units+1:=by
 first|rfl|simp[Around.under,Code.cUnits,Code.frames,Code.isFrame]
theorem Room.make{k:Nat}{A:Around}(r:Room (k+1) A)(C:Addr)(us:List Value)(kw:List (Str×Value)):Room k (A.under (.builtin "type.__call__" ⟨.ref C::us,kw⟩)):=
 ⟨r.hd,by have:=r.dp;rw[A9w];omega,by have:=r.un;rw[A9d];omega⟩
theorem Room.depth{k:Nat}{A:Around}(r:Room k A):A.depth<recursionLimit:=by have:=r.dp;omega
theorem Room.units{k:Nat}{A:Around}(r:Room k A):A.units+64<cLine:=by have:=r.un;omega
noncomputable def B5d:TA:=fun _ H Q=>Q [] H
noncomputable def A8a (ta:TE) (tr:TA):TA:=fun σ H Q=>ta σ H fun x H1=>tr σ H1 fun xs H2=>Q (x::xs) H2
section
variable{X:Cx}{e:Expr}{es:List Expr}{te:TE}{t:TA}{pos:Pos}
theorem A2:PA X [] B5d:=fun _ _ _ _ H Q I h=>Calls.spliced_nil ⟨[],H,I,.nil,h⟩
theorem A0(ha:PE X e te)(hr:PA X es t)(hs:starEach (e::es) X.env=(false,eval e X.env)::starEach es X.env:=by rfl):PA X (e::es) (A8a te t):=by
 intro pos pins s σ H Q I h
 rw[hs]
 show wpAny _ _ (spliced ((false,eval e X.env)::backTo pos (starEach es X.env))) _ _ s
 refine Calls.spliced_cons (thn (ha pins s σ H _ I h) fun u s1 hh_=>?_)
 obtain⟨x,H1,I1,r1,q1⟩:=hh_
 exact thn (hr pos pins s1 σ H1 _ I1 q1) fun us s2 ⟨xs,H2,I2,r2,q2⟩=>⟨x::xs,H2,I2,.cons r1 r2,q2⟩
noncomputable def C3w (t:TA):TE:=fun σ H Q=>t σ H fun xs H1=>xs.length<=sizeLine/\∀p,H1 p=none ->Q (.ref p) (upd H1 p (.tup xs))
noncomputable def C4t (t:TA):TE:=fun σ H Q=>t σ H fun xs H1=>xs.length<=sizeLine/\∀p,H1 p=none ->Q (.ref p) (upd H1 p (.lst xs))
theorem J9{x1}(h:PA X es t):PE X (.Tuple es x1 pos) (C3w t):=by
 intro pins s σ H Q I hq
 refine wpAny_Tuple_spliced (thn (h pos pins s σ H _ I hq) fun us s1 ⟨xs,H1,I1,r,z,q⟩=>⟨by rw[<-r.length];exact z,?_⟩)
 have hf:H1 s1.heap.objs.size=none:=I1.hok.fresh (Nat.le_refl _)
 refine⟨.ref s1.heap.objs.size,upd H1 s1.heap.objs.size (.tup xs),I1.laid (t':=s1.toks) (fun b u e=>Heap.get?_push_of_some _ e) (Nat.le_refl _) ?_,rfl,q _ hf⟩
 exact⟨z,us,r,⟨_,Heap.get?_push_size _ rfl,rfl,_,rfl⟩⟩
theorem U6(h:PA X es t):PE X (.List es pos) (C4t t):=by
 intro pins s σ H Q I hq
 refine wpAny_List_spliced (thn (h pos pins s σ H _ I hq) fun us s1 ⟨xs,H1,I1,r,z,q⟩=>⟨by rw[<-r.length];exact z,?_⟩)
 have hf:H1 s1.heap.objs.size=none:=I1.hok.fresh (Nat.le_refl _)
 refine⟨.ref s1.heap.objs.size,upd H1 s1.heap.objs.size (.lst xs),I1.laid (t':=s1.toks) (fun b u e=>Heap.get?_push_of_some _ e) (Nat.le_refl _) ?_,rfl,q _ hf⟩
 exact⟨z,us,0,r,Heap.get?_push_size _ rfl⟩
end
noncomputable abbrev Sp:=List V ->Hp ->VK ->XK ->Prop
noncomputable abbrev CXT:=List Env ->Hp ->Shared ->XK ->Value ->Shared ->Prop
structure Env0(P:Program)(w:World)(K:PySem.W.Frag)(mg:Str ->Option Value)(base:Heap)(A:Around)(outer:List Env)(s:Shared)(H:Hp):Prop where
 frames:A.frames=some outer
 mod:Mod K mg base
 bs:∀b o,base.get? b=some o ->s.heap.get? b=some o/\H b=none
 bsz:base.objs.size<=s.heap.objs.size
 funs:s.heap.FunFrames base outer
 frf:∀b∈frs outer,H b=none
 hok:HOk P w H s.heap
 bare:AllBare s.gens
noncomputable def CE (outer:List Env) (P:Program) (w:World) (H:Hp) (s:Shared) (Q:VK) (u:Value) (s':Shared):Prop:=
 ∃v H',s'.os=s.os/\AllBare s'.gens/\Un (frs outer) [] H H' s.heap s'.heap/\HOk P w H' s'.heap/\RelV v u/\Q v H'
noncomputable def CR (CX:CXT) (outer:List Env) (P:Program) (w:World) (H:Hp) (s:Shared) (Q:VK) (E:XK) (r:Result) (s':Shared):Prop:=
 match r with
 | .ok (.ret u)=>CE outer P w H s Q u s'
 | .ok _=>False
 | .error e=>CX outer H s E e s'
structure FnOk(P:Program)(w:World)(K:PySem.W.Frag)(mg:Str ->Option Value)(base:Heap)(CX:CXT)(k:Nat)(f:Addr)(fd:FuncData)(ps:List Str)(sp:Sp):Prop where
 len:∀vs H Q E,sp vs H Q E ->vs.length=ps.length
 run:∀(A:Around) (outer:List Env) (s:Shared) (H:Hp) (args:Args) (us:List Value) (vs:List V) (Q:VK) (E:XK),Room k A ->Env0 P w K mg base A outer s H ->BindsTo s fd args (ps.zip us) ->Vals vs us ->sp vs H Q E ->
   codeAny (model P w) A (.call (.ref f) args) (CR CX outer P w H s Q E) s
theorem FnOk.mono{P:Program}{w:World}{K:PySem.W.Frag}{mg:Str ->Option Value}{base:Heap}{CX:CXT}{j k:Nat}{f:Addr}{fd:FuncData}{ps:List Str}{sp:Sp}(F:FnOk P w K mg base CX j f fd ps sp)(h:j<=k):
   FnOk P w K mg base CX k f fd ps sp:=⟨F.len,fun A outer s H args us vs Q E hr=>F.run A outer s H args us vs Q E (hr.mono h)⟩
theorem Env0.make{P:Program}{w:World}{K:PySem.W.Frag}{mg:Str ->Option Value}{base:Heap}{A:Around}{outer:List Env}{s:Shared}{H:Hp}(e:Env0 P w K mg base A outer s H)(C:Addr)(us:List Value)(kw:List (Str×Value)):
   Env0 P w K mg base (A.under (.builtin "type.__call__" ⟨.ref C::us,kw⟩)) outer s H:=⟨by first|exact e.frames|(simpa[Around.under,Code.envs,Code.isFrame,pushEnvs] using e.frames),e.mod,e.bs,e.bsz,e.funs,e.frf,e.hok,e.bare⟩
section
variable{X:Cx}{pins:List (Addr×Obj)}{σ:St}{H:Hp}{s s':Shared}
theorem Inv.env0(I:Inv X pins σ H s):Env0 X.prog X.w X.K X.mg X.base X.A X.stack s H:=
 ⟨I.ok.frames,I.ok.mod,I.bs,Nat.le_trans I.ok.bsz I.sz,I.stack,I.stkFree,I.hok,I.bare⟩
theorem Inv.after{Q:VK}{u:Value}(I:Inv X pins σ H s)(h:CE X.stack X.prog X.w H s Q u s'):EP X pins σ Q u s':=by
 obtain⟨v,H',os,bare,un,hok,r,q⟩:=h
 obtain⟨hh,g,d,t,os'⟩:=s'
 obtain rfl:os'=s.os:=os
 exact⟨v,H',I.call (h':=hh) (g':=g) (d':=d) (t':=t) (ch:=[]) un hok bare (fun b z=>absurd z (by simp)),r,q⟩
end
noncomputable def C1x (C:Addr) (sp:Sp) (dvs:List V) (E:XK) (t:TA):TE:=fun σ H Q=>t σ H fun vs H1=>∀x dx,H1 x=none ->H1 dx=none ->dx≠x ->
 sp (.ref x::(vs++dvs)) (upd (upd H1 dx (.own x)) x (.ins C dx [])) (fun v H2=>v= .non/\Q (.ref x) H2) E
noncomputable def Binds (K:PySem.W.Frag) (fd:FuncData) (ps:List Str) (ds:List Value):Prop:=
 ∀(s:Shared) (us:List Value),K.In s.heap ->(us++ds).length=ps.length ->BindsTo s fd ⟨us,[]⟩ (ps.zip (us++ds))
theorem Binds.all{K:PySem.W.Frag}{fd:FuncData}{ps:List Str}(h:∀us:List Value,us.length=ps.length ->bindArgs fd ⟨us,[]⟩=pure (ps.zip us)):Binds K fd ps []:=fun s us _ hl=>by
 rw[List.append_nil] at hl ⊢
 exact .of_eq (h us hl)
noncomputable def B0a (CX:CXT) (X:Cx) (E:XK):Prop:=∀(pins:List (Addr×Obj)) (σ:St) (H:Hp) (s:Shared) (e:Value) (s':Shared),Inv X pins σ H s ->CX X.stack H s E e s' ->X.xe e s'
section
variable{X:Cx}{CX:CXT}{k:Nat}{f C:Addr}{fd:FuncData}{ps:List Str}{sp:Sp}{dvs:List V}{ds:List Value}{E:XK}{x m:Str}{p pos apos:Pos}{e o:Expr}{es:List Expr}{ta:TE}{t:TA}
structure Mk(K:PySem.W.Frag)(C f:Addr):Prop where
 makes:PySem.W.makesIn K C=true
 init:PySem.W.findIn K (.ref C) "__init__"=some (some (.ref f))
 fn:PySem.W.isFn K (.ref f)=true
 kp:PySem.W.keepIn K (.ref C)=true
theorem B4f{pins:List (Addr×Obj)}{σ:St}{H:Hp}{s:Shared}{Q:VK}{us:List Value}{vs:List V}(M:Mk X.K C f)(F:FnOk X.prog X.w X.K X.mg X.base CX k f fd ps sp)(hr:Room (k+1) X.A)(hb:Binds X.K fd ps ds)(hd:Vals dvs ds)
   (hx:B0a CX X E) (I:Inv X pins σ H s) (r:Vals vs us)
   (h:∀x dx,H x=none ->H dx=none ->dx≠x ->sp (.ref x::(vs++dvs)) (upd (upd H dx (.own x)) x (.ins C dx [])) (fun v H2=>v= .non/\Q (.ref x) H2) E):
   wpAny (model X.prog X.w) X.A (call (.ref C) us) (EP X pins σ Q) X.xe s:=by
 have hq:=h (s.heap.objs.size+1) s.heap.objs.size (I.hok.fresh (Nat.le_succ _)) (I.hok.fresh (Nat.le_refl _)) (Nat.ne_of_lt (Nat.lt_succ_self _))
 have I2:=Inv.made (C:=C) I
 have r2:Vals (V.ref (s.heap.objs.size+1)::(vs++dvs)) (Value.ref (s.heap.objs.size+1)::(us++ds)):= .cons rfl (r.append hd)
 have hl:(Value.ref (s.heap.objs.size+1)::us++ds).length=ps.length:=by
   have e:=r2.length
   rw[F.len _ _ _ _ hq] at e
   exact e.symm
 refine wpAny_call (B5j (f:=f) I.kIn M.makes M.init (beq_iff_eq.mp M.fn) (codeAny_mono (F.run _ X.stack _ _ ⟨Value.ref (s.heap.objs.size+1)::us,[]⟩ (Value.ref (s.heap.objs.size+1)::(us++ds)) _ _ E (hr.make C us [])
   (I2.env0.make C us []) (hb _ (Value.ref (s.heap.objs.size+1)::us) I2.kIn hl) r2 hq) fun r s' hq'=>?_))
 cases r with
 |error e=>exact hx pins σ _ _ e s' I2 hq'
 | ok fl=>
   cases fl with
   | ret u=>
     obtain⟨v,H',I3,rv,ev,q3⟩:=I2.after hq'
     subst ev
     exact⟨rv,⟨V.ref (s.heap.objs.size+1),H',I3,rfl,q3⟩⟩
   |next=>exact False.elim hq'
   |brk=>exact False.elim hq'
   |cont=>exact False.elim hq'
theorem A5s(M:Mk X.K C f)(F:FnOk X.prog X.w X.K X.mg X.base CX k f fd ps sp)(hr:Room (k+1) X.A)(hg:Gl X x)(hm:X.mg x=some (.ref C))(hb:Binds X.K fd ps ds)(hd:Vals dvs ds)(hx:B0a CX X E)
   (ha:PA X (e::es) t) (hdb:(x==("__debug__":Str))=false:=by decide) (he:starEach (e::es) X.env=(false,eval e X.env)::starEach es X.env:=by rfl) (hpl:(backTo pos (starEach es X.env)).any (·.1)=false:=by rfl):
   PE X (.Call (.Name x p) (e::es) [] pos) (C1x C sp dvs E t):=by
 intro pins s σ H Q I h
 refine wpAny_Call_Name_kw (V4 I hg hm ?_ hdb)
 refine PySem.W.callWith_K (h₀:=X.base) I.ok.mod.kin M.kp (thn (ha pos pins s σ H _ I h) fun us s1 ⟨vs,H1,I1,r,q⟩=>⟨I1.kIn,?_⟩) he hpl
 exact B4f M F hr hb hd hx I1 r q
end
section
variable{X:Cx}{CX:CXT}{k:Nat}{f C:Addr}{fd:FuncData}{ps ks:List Str}{sp:Sp}{E:XK}{x m:Str}{p pos apos kpos:Pos}{e o:Expr}{es:List Expr}{kws:List Keyword}{te ta:TE}{t tk:TA}{nm:Option Str}
variable{g:List Value ->List Value ->List Value}{gV:List V ->List V ->List V}
end
structure FnScope(N P:List Str)(sc:Scope):Prop where
 kind:sc.kind= .function
 co:sc.isCoroutine=false
 gen:sc.isGenerator=false
 nd:N.Nodup
 pre:N.take P.length=P
 par:∀x∈P,sc.names.lookup x=some .local\/sc.names.lookup x=some .cell
 nofree:∀y∈sc.names,y.2≠ .free
theorem A4z{kindOf:Str ->Option NameKind}{x:Str}:∀{binds:List (Str×Value)} {m:Str ->Option Value},(∀v,(x,v) ∉ binds) ->bindL kindOf binds m x=m x
 | [],_,_=>rfl
 | (n,v)::r,m,h=>by
   unfold bindL
   rw[A4z fun w hw=>h w (List.mem_cons_of_mem _ hw)]
   split
   . have:x≠n:=by rintro rfl;exact h v List.mem_cons_self
     simp[this]
   . rfl
theorem A4t{kindOf:Str ->Option NameKind}{x:Str}:∀{binds:List (Str×Value)} {m:Str ->Option Value},(∀v,(x,v) ∉ binds) ->bindC kindOf binds m x=m x
 | [],_,_=>rfl
 | (n,v)::r,m,h=>by
   unfold bindC
   rw[A4t fun w hw=>h w (List.mem_cons_of_mem _ hw)]
   split
   . rfl
   . have:x≠n:=by rintro rfl;exact h v List.mem_cons_self
     simp[this]
theorem A4u{kindOf:Str ->Option NameKind}{x:Str}{v:Value}:∀{P:List Str} {vs:List Value} {i:Nat} {m:Str ->Option Value},P.Nodup ->P[i]?=some x ->vs[i]?=some v ->kindOf x=some .local ->
   bindL kindOf (P.zip vs) m x=some v
 | [],_,_,_,_,h,_,_=>by simp at h
 |_::_,[],_,_,_,_,h,_=>by simp at h
 | p::P,w::vs,0,m,nd,h1,h2,hk=>by
   simp at h1 h2;subst h1;subst h2
   show bindL kindOf ((p,w)::P.zip vs) m p=_
   unfold bindL
   rw[A4z fun v hv=>(List.nodup_cons.mp nd).1 (List.of_mem_zip hv).1,if_pos hk]
   simp
 | p::P,w::vs,i+1,m,nd,h1,h2,hk=>by
   show bindL kindOf ((p,w)::P.zip vs) m x=_
   unfold bindL
   exact A4u (i:=i) (List.nodup_cons.mp nd).2 (by simpa using h1) (by simpa using h2) hk
theorem A5j{kindOf:Str ->Option NameKind}{x:Str}{v:Value}:∀{P:List Str} {vs:List Value} {i:Nat} {m:Str ->Option Value},P.Nodup ->P[i]?=some x ->vs[i]?=some v ->kindOf x≠some .local ->
   bindC kindOf (P.zip vs) m x=some v
 | [],_,_,_,_,h,_,_=>by simp at h
 |_::_,[],_,_,_,_,h,_=>by simp at h
 | p::P,w::vs,0,m,nd,h1,h2,hk=>by
   simp at h1 h2;subst h1;subst h2
   show bindC kindOf ((p,w)::P.zip vs) m p=_
   unfold bindC
   rw[A4t fun v hv=>(List.nodup_cons.mp nd).1 (List.of_mem_zip hv).1,if_neg hk]
   simp
 | p::P,w::vs,i+1,m,nd,h1,h2,hk=>by
   show bindC kindOf ((p,w)::P.zip vs) m x=_
   unfold bindC
   exact A5j (i:=i) (List.nodup_cons.mp nd).2 (by simpa using h1) (by simpa using h2) hk
noncomputable def A0t (N:List Str) (vs:List V):St:=vs.map some++List.replicate (N.length-vs.length) none
noncomputable def A1m (CX:CXT) (P:Program) (w:World) (K:PySem.W.Frag) (mg:Str ->Option Value) (base:Heap) (N:List Str) (qual:Str) (scope:Scope) (f:Addr) (cd:Value) (A:Around) (outer:List Env) (s:Shared) (H:Hp) (E:XK):Cx where
 prog:=P
 w:=w
 K:=K
 mg:=mg
 base:=base
 A:=A.deeper (envOfC qual scope s.heap.objs.size f cd)
 N:=N
 s₀:=s
 H₀:=H
 env:=envOfC qual scope s.heap.objs.size f cd
 outer:=outer
 stack:=envOfC qual scope s.heap.objs.size f cd::outer
 ex:=[]
 calm:=true
 fn:=fun _=>true
 pn:=[]
 xe:=fun e s'=>wpAny (model P w) (A.deeper (envOfC qual scope s.heap.objs.size f cd)) (leaving (envOfC qual scope s.heap.objs.size f cd) e) (fun _ s''=>CX outer H s E e s'') (fun e' s''=>CX outer H s E e' s'') s'
theorem A7b{sc:Scope}{n:Nat}{x:Str}(h:sc.names.lookup x=some .cell):∃c,(cellsFrom n sc.names []).lookup x=some c:=by
 have q:=PySem.W.cellsFrom_some sc.names n [] (.inl h)
 exact Option.isSome_iff_exists.mp q
theorem B1y{CX:CXT}{P:Program}{w:World}{K:PySem.W.Frag}{mg:Str ->Option Value}{base:Heap}{N ps:List Str}{qual:Str}{scope:Scope}{f:Addr}{cd:Value}{A:Around}{outer:List Env}{s s1:Shared}{H:Hp}{E:XK}{us:List Value}{vs:List V}
   (S:FnScope N ps scope) (hd:A.handled=none) (e0:Env0 P w K mg base A outer s H) (hl:vs.length=ps.length) (r:Vals vs us)
   (x:InCallC s s.heap.objs.size (bindL (envOfC qual scope s.heap.objs.size f cd).kindOf (ps.zip us) fun _=>none) (cellsFrom (s.heap.objs.size+1) scope.names []) (bindC (envOfC qual scope s.heap.objs.size f cd).kindOf (ps.zip us) fun _=>none) s1):
   Inv (A1m CX P w K mg base N qual scope f cd A outer s H E) [] (A0t N vs) H s1:=by
 have hpl:ps.length<=N.length:=by have:=congrArg List.length S.pre;rw[List.length_take] at this;omega
 obtain⟨h1,tk,rfl,hk⟩:=x.done
 have noA:∀b:Addr,b ∉ (A1m CX P w K mg base N qual scope f cd A outer s H E).ex:=fun b z=>absurd (show b∈([]:List Addr) from z) (by simp)
 refine⟨⟨e0.mod,S.kind,rfl,rfl,Nat.le_refl _,fun y z c h1 h2=>?_,fun y hy=>?_,fun y c _ h=>?_,fun _=>hd,Around.frames_deeper e0.frames,.inr ⟨rfl,rfl⟩,fun b z=>absurd z (noA b),e0.bs,e0.bsz,fun b _ _=>noA b,fun b z=>absurd z (noA b),e0.funs,e0.frf⟩,
   rfl,e0.bare,Un.kept hk,⟨_,x.toInCall.ns,fun i y v h1 h2 h3=>?_⟩,fun y c h=>⟨_,x.cell y c h⟩,e0.hok.fresh (Nat.le_refl _),fun y c h=>?_,fun p hp=>absurd (show p∈([]:List (Addr×Obj)) from hp) (by simp),e0.hok.kept hk,?_⟩
 . exact name_of_addr x.apart (PySem.mem_of_lookup h1) (PySem.mem_of_lookup h2)
 . have hy:scope.names.lookup y=some .cell\/scope.names.lookup y=some .free:=hy
   rcases hy with hy|hy
   . exact A7b hy
   . exact absurd rfl (S.nofree _ (PySem.mem_of_lookup hy))
 . exact Nat.le_of_lt (x.above y c (PySem.mem_of_lookup h))
 . have hi:i<vs.length:=by
     unfold A0t at h2
     by_cases hi:i<vs.length
     . exact hi
     . rw[List.getElem?_append_right (by simpa using hi)] at h2
       rw[List.getElem?_replicate] at h2
       split at h2<;>cases h2
   have ha:vs[i]?=some v:=by
     unfold A0t at h2
     rw[List.getElem?_append_left (by simpa using hi),List.getElem?_map] at h2
     cases e:vs[i]? with
     |none=>rw[e] at h2;cases h2
     |some a=>rw[e] at h2;cases h2;rfl
   obtain⟨u,hu,rv⟩:=r.get ha
   have hp:ps[i]?=some y:=by
     rw[<-S.pre,List.getElem?_take_of_lt (by omega)];exact h1
   have ndP:ps.Nodup:=by rw[<-S.pre];exact S.nd.sublist (List.take_sublist _ _)
   refine⟨u,rv,?_⟩
   rcases S.par y (List.mem_of_getElem? hp) with k|k
   . exact .inl ⟨k,A4u ndP hp hu k⟩
   . obtain⟨c,e⟩:=A7b (n:=s.heap.objs.size+1) k
     refine .inr ⟨.inl k,c,e,?_⟩
     have q:=x.cell y c e
     rw[A5j ndP hp hu (by show scope.names.lookup y≠_;rw[k];decide)] at q
     exact q
 . exact e0.hok.fresh (Nat.le_of_lt (x.above y c (PySem.mem_of_lookup h)))
 . unfold A0t
   show _=N.length
   rw[List.length_append,List.length_map,List.length_replicate]
   omega
theorem B4y{CX:CXT}{P:Program}{w:World}{K:PySem.W.Frag}{mg:Str ->Option Value}{base:Heap}{k:Nat}{f:Addr}{name qual:Str}{params:Arguments}{body:List Stmt}{scope:Scope}{dV kV doc pm cdv ct oc:Value}{an od:Option Addr}
   {osl:Array (Option Value)} {N ps:List Str} {sp:Sp} (lk:K.lookup f=some ⟨oc,od,.func (PySem.W.fnOf name qual params body scope dV kV doc pm an cdv ct),osl⟩) (hcd:PySem.W.codeIn K cdv qual=true) (S:FnScope N ps scope)
   (len:∀vs H Q E,sp vs H Q E ->vs.length=ps.length)
   (hbody:∀(A:Around) (outer:List Env) (s:Shared) (H:Hp) (vs:List V) (Q:VK) (E:XK),Room k (A.deeper (envOfC qual scope s.heap.objs.size f cdv)) ->sp vs H Q E ->
     ∃t,PSs (A1m CX P w K mg base N qual scope f cdv A outer s H E) body t/\t {nx:=fun _ H'=>Q .non H',rt:=Q} (A0t N vs) H):
   FnOk P w K mg base CX (k+1) f (PySem.W.fnOf name qual params body scope dV kV doc pm an cdv ct) ps sp:=by
 refine⟨len,fun A outer s H args us vs Q E hr e0 hb r hsp=>?_⟩
 have hl:=len _ _ _ _ hsp
 have KX:K.In s.heap:=e0.mod.kin.keeps fun b o e=>(e0.bs b o e).1
 have lim:s.heap.NoLimit:=e0.mod.nolimit.keeps fun b o e=>(e0.bs b o e).1
 have hkind:∀y∈ps.zip us,scope.names.lookup y.1=some .local\/(scope.names.lookup y.1=some .cell/\((cellsFrom (s.heap.objs.size+1) scope.names []).lookup y.1).isSome=true):=fun⟨n,v⟩ hy=>by
   rcases S.par n (List.of_mem_zip hy).1 with q|q
   . exact .inl q
   . exact .inr ⟨q,PySem.W.cellsFrom_some _ _ _ (.inl q)⟩
 refine codeAny_call_function hr.depth (KX _ _ lk) rfl S.co S.gen rfl (PySem.W.codeRec_of KX hcd) (hb _ _ _ _ ?_)
 refine wpAny_newFunctionEnv_cells S.kind hkind fun env he s1 x=>?_
 subst he
 refine⟨lim.keeps x.toInCall.keep,codeAny_func ?_⟩
 obtain⟨t,ht,hq⟩:=hbody A outer s H vs Q E (hr.deeper _) hsp
 have I:Inv (A1m CX P w K mg base N qual scope f cdv A outer s H E) [] (A0t N vs) H s1:=B1y S hr.hd e0 hl r x
 refine wpAny_mono (ht [] s1 (A0t N vs) H _ I hq) (fun fl s' hs=>?_) fun e s' hs=>hs
 have fin:∀{σ':St} {H':Hp} {v:V} {u:Value},Inv (A1m CX P w K mg base N qual scope f cdv A outer s H E) [] σ' H' s' ->RelV v u ->Q v H' ->CE outer P w H s Q u s':=
   fun{σ' H' v u} J rv q=>⟨v,H',J.os,J.bare,J.base,J.hok,rv,q⟩
 cases fl with
 | ret u=>
   obtain⟨v,σ',H',J,rv,q⟩:=hs
   exact fin J rv q
 | next=>
   obtain⟨σ',H',J,q⟩:=hs
   exact fin (v:=V.non) (u:=Value.none) J rfl q
 | brk=>
   obtain⟨_,_,_,q⟩:=hs
   exact False.elim q
 | cont=>
   obtain⟨_,_,_,q⟩:=hs
   exact False.elim q
section
variable{X:Cx}{x:Str}{p pos:Pos}{e:Expr}{es:List Expr}{t:TA}{id T:String}{r:List V ->Hp ->VK ->Prop}
noncomputable def tCB (r:List V ->Hp ->VK ->Prop) (t:TA):TE:=fun σ H Q=>t σ H fun vs H1=>r vs H1 Q
theorem D9(hc:A1v X (.builtin id) r)(hg:Gl X x)(hm:X.mg x=none)(hv:bootBuiltins x=some (.builtin id))(ha:PA X (e::es) t)(hn:x≠"__name__":=by decide)(hdb:(x==("__debug__":Str))=false:=by decide)
   (he:starEach (e::es) X.env=(false,eval e X.env)::starEach es X.env:=by rfl) (hpl:(backTo pos (starEach es X.env)).any (·.1)=false:=by rfl):PE X (.Call (.Name x p) (e::es) [] pos) (tCB r t):=by
 intro pins s σ H Q I h
 refine wpAny_Call_Name_kw (A5v I hg hm hv ?_ hn hdb)
 exact PyProof.Rows.callWith_builtin1 (thn (ha pos pins s σ H _ I h) fun us s1 ⟨vs,H1,I1,r1,q1⟩=>hc pins s1 σ H1 vs us Q I1 r1 q1) he hpl
theorem J1(hc:A1v X (.type T) r)(hg:Gl X x)(hm:X.mg x=none)(hv:bootBuiltins x=some (.type T))(ha:PA X (e::es) t)(hn:x≠"__name__":=by decide)(hdb:(x==("__debug__":Str))=false:=by decide)
   (he:starEach (e::es) X.env=(false,eval e X.env)::starEach es X.env:=by rfl) (hpl:(backTo pos (starEach es X.env)).any (·.1)=false:=by rfl):PE X (.Call (.Name x p) (e::es) [] pos) (tCB r t):=by
 intro pins s σ H Q I h
 refine wpAny_Call_Name_kw (A5v I hg hm hv ?_ hn hdb)
 exact PyProof.Rows.callWith_type1 (thn (ha pos pins s σ H _ I h) fun us s1 ⟨vs,H1,I1,r1,q1⟩=>hc pins s1 σ H1 vs us Q I1 r1 q1) he hpl
end
end L2
namespace HT
open PySem PyProof.Rows
section
open PySem.SeqAt
open PySem.AutoSeq1 (wpAny_loadPart')
open PySem.MeetsSeq PySem.MeetsSeq2 PySem.MeetsSeq3
end
section
variable{prog:Program}{w:World}{A:Around}{E:Value ->Shared ->Prop}{s:Shared}
end
end HT
namespace L2
open PySem PySem.Spec PyProof.Rows
noncomputable abbrev TO:=St ->Hp ->(Option Int ->Hp ->Prop) ->Prop
noncomputable def PO (X:Cx) (e:Option Expr) (t:TO):Prop:=
 ∀ (pins:List (Addr×Obj)) (s:Shared) (σ:St) (H:Hp) (Q:Option Int ->Hp ->Prop),Inv X pins σ H s ->t σ H Q ->
   wpAny (model X.prog X.w) X.A (evalPart e X.env) (fun u s'=>∃o H',Inv X pins σ H' s'/\IsPart u o/\Q o H') X.xe s
noncomputable def B6u:TO:=fun _ H Q=>Q none H
noncomputable def C2m (t:TE):TO:=fun σ H Q=>t σ H fun x H1=>∃i,x= .int i/\Q (some i) H1
section
variable{X:Cx}{e:Expr}{te:TE}{lo hi:Option Expr}{tl th:TO}{pos p2:Pos}
theorem V2:PO X none B6u:=by
 intro pins s σ H Q I h
 rw[evalPart_none]
 exact wpAny_pure ⟨none,H,I,.none,h⟩
theorem G0(h:PE X e te):PO X (some e) (C2m te):=by
 intro pins s σ H Q I hw
 rw[evalPart_some]
 refine thn (h pins s σ H _ I hw) fun u s1 hh_=>?_
 obtain⟨x,H1,I1,r1,q1⟩:=hh_
 obtain⟨i,rfl,q⟩:=q1
 obtain⟨t,rfl⟩:=r1
 exact⟨some i,H1,I1,.int i t,q⟩
noncomputable def SlR (X:Cx) (r:V ->Option Int ->Option Int ->Hp ->VK ->Prop):Prop:=
 ∀ (pins:List (Addr×Obj)) (s:Shared) (σ:St) (H:Hp) (x:V) (v vl vu:Value) (lo hi:Option Int) (sl:Addr) (Q:VK),Inv X pins σ H s ->RelV x v ->s.heap.IsSliceOf sl vl vu .none ->IsPart vl lo ->IsPart vu hi ->r x lo hi H Q ->
   ∃T id,typeLookup (.type T) "__getitem__"=pure (some (.builtin id))/\s.TypeIs v T/\wpAny (model X.prog X.w) X.A (getItem v (.ref sl)) (EP X pins σ Q) X.xe s
noncomputable def tSl (r:V ->Option Int ->Option Int ->Hp ->VK ->Prop) (te:TE) (tl th:TO):TE:=fun σ H Q=>te σ H fun x H1=>tl σ H1 fun l H2=>th σ H2 fun u H3=>r x l u H3 Q
theorem G4{r:V ->Option Int ->Option Int ->Hp ->VK ->Prop}(hr:SlR X r)(he:PE X e te)(hl:PO X lo tl)(hu:PO X hi th):PE X (.Subscript e (.Slice lo hi none p2) pos) (tSl r te tl th):=by
 intro pins s σ H Q I h
 refine Subscript_ (thn (he pins s σ H _ I h) fun v s1 hh_=>?_)
 obtain⟨x,H1,I1,r1,q1⟩:=hh_
 refine wpAny_Slice (thn (hl pins s1 σ H1 _ I1 q1) fun vl s2 ⟨l,H2,I2,pl,q2⟩=>thn (hu pins s2 σ H2 _ I2 q2) fun vu s3 hh_=>?_)
 obtain⟨u,H3,I3,pu,q3⟩:=hh_
 rw[evalPart_none]
 refine wpAny_pure ?_
 have I4:Inv X pins σ H3 {s3 with heap:=s3.heap.push {cls:= .type "slice",data:= .fields #[vl,vu,.none]}}:=I3.kept (t':=s3.toks) fun b ob q=>Heap.get?_push_of_some _ q
 obtain⟨T,id,hT,ht,hg⟩:=hr pins {s3 with heap:=s3.heap.push {cls:= .type "slice",data:= .fields #[vl,vu,.none]}} σ H3 x v vl vu l u s3.heap.objs.size Q I4 r1 (Heap.IsSliceOf.new ..) pl pu q3
 show wpAny (model X.prog X.w) X.A (subscriptTail e (.Slice lo hi none p2) v (.ref s3.heap.objs.size)) (EP X pins σ Q) X.xe {s3 with heap:=s3.heap.push {cls:= .type "slice",data:= .fields #[vl,vu,.none]}}
 exact tail_any (ops:=[.ref s3.heap.objs.size,v]) ht hT hg (by with_unfolding_all rfl)
end
noncomputable def ixN (n:Nat) (i:Int):Option Nat:=if 0<=i then(if i<n then some i.toNat else none) else if -(n:Int)<=i then some (i+n).toNat else none
noncomputable def atI {α:Type} (xs:List α) (i:Int):Option α:=(ixN xs.length i).bind fun j=>xs[j]?
theorem B7r{n:Nat}{i:Int}{j:Nat}(h:ixN n i=some j):seqIndex? i n=some j/\j<n/\ -(n:Int)<=i/\i<n:=by
 unfold ixN at h
 by_cases h0:0<=i
 . rw[if_pos h0] at h
   by_cases h1:i<n
   . rw[if_pos h1] at h
     have e:i.toNat=j:=Option.some.inj h
     exact⟨by rw[seqIndex_of h0 h1,e],by omega,by omega,h1⟩
   . rw[if_neg h1] at h;cases h
 . rw[if_neg h0] at h
   by_cases h1: -(n:Int)<=i
   . rw[if_pos h1] at h
     have e:(i+n).toNat=j:=Option.some.inj h
     exact⟨by rw[seqIndex_neg (by omega) h1,e],by omega,h1,by omega⟩
   . rw[if_neg h1] at h;cases h
theorem A5y{α:Type}{xs:List α}{i:Int}{v:α}(h:atI xs i=some v):∃j,seqIndex? i xs.length=some j/\xs[j]?=some v/\j<xs.length/\ -(xs.length:Int)<=i/\i<xs.length:=by
 unfold atI at h
 cases e:ixN xs.length i with
 |none=>rw[e] at h;cases h
 | some j=>
   rw[e] at h
   obtain⟨h1,h2,h3,h4⟩:=B7r e
   exact⟨j,h1,h,h2,h3,h4⟩
theorem D8{α:Type}{xs:List α}{j:Nat}{v:α}(h:xs[j]?=some v):atI xs (j:Int)=some v:=by
 have hj:j<xs.length:=(List.getElem?_eq_some_iff.mp h).1
 have e:ixN xs.length (j:Int)=some j:=by
   unfold ixN
   rw[if_pos (by omega),if_pos (by omega)];simp
 unfold atI;rw[e];exact h
noncomputable def B7q (b:Expr):Prop:=∀o i,subscripted b false o i=operate [o,i] (getItem o i)
noncomputable def IxR (X:Cx) (r:R2):Prop:=
 ∀ (value slice:Expr) (pins:List (Addr×Obj)) (s:Shared) (σ:St) (H:Hp) (x y:V) (v u:Value) (Q:VK),Inv X pins σ H s ->RelV x v ->RelV y u ->r x y H Q ->
   subscripted slice false v u=operate [v,u] (getItem v u) ->wpAny (model X.prog X.w) X.A (subscriptTail value slice v u) (EP X pins σ Q) X.xe s
noncomputable def MtR (X:Cx) (id:String) (r:V ->List V ->Hp ->VK ->Prop):Prop:=
 ∀ (pins:List (Addr×Obj)) (s:Shared) (σ:St) (H:Hp) (x:V) (xs:List V) (v:Value) (us:List Value) (Q:VK),Inv X pins σ H s ->RelV x v ->Vals xs us ->r x xs H Q ->
   wpAny (model X.prog X.w) X.A (call (.builtin id) (v::us)) (EP X pins σ Q) X.xe s
section
variable{X:Cx}{a b:Expr}{ta tb:TE}{pos:Pos}
theorem J0{r:R2}(hr:IxR X r)(ha:PE X a ta)(hb:PE X b tb)(hs:B7q b):PE X (.Subscript a b pos) (tOp r ta tb):=by
 intro pins s σ H Q I h
 exact Subscript_ (C0r ha hb I h fun v u s2 x y H2 I2 rx ry q=>hr a b pins s2 σ H2 x y v u Q I2 rx ry q (hs _ _))
noncomputable def C3u (K:PySem.W.Frag):R2:=fun x y H Q=>∃p xs i v,x= .ref p/\y= .int i/\SqL K H p xs/\atI xs i=some v/\Q v H
noncomputable def C3a (K:PySem.W.Frag):R2:=fun x y H Q=>∃p xs i v,x= .ref p/\y= .int i/\SqT K H p xs/\atI xs i=some v/\Q v H
noncomputable def C4k:R2:=fun x y H Q=>∃z i c,x= .str z/\y= .int i/\z.length<=sizeLine/\atI z.cps.toList i=some c/\Q (.str ⟨#[c]⟩) H
theorem V0:IxR X (C3u X.K):=by
 intro value slice pins s σ H x y v u Q I rx ry h hs
 obtain⟨p,xs,i,z,rfl,rfl,hq,he,q⟩:=h
 cases rx
 obtain⟨t,rfl⟩:=ry
 obtain⟨its,r,pl,hz⟩:=I.list hq
 obtain⟨j,h1,h2,h3,h4,h5⟩:=A5y he
 obtain⟨w,ew,rw'⟩:=r.get h2
 have hl:=r.length
 have hn:=A3z
 have fin:EP X pins σ Q w s:=⟨z,H,I,rw',q⟩
 by_cases h0:0<=i
 . have hj:i.toNat=j:=by
     rw[seqIndex_of h0 h5] at h1
     exact Option.some.inj h1
   exact item_listR pl.isList h0 (by omega) (by rw[hj];simpa using ew) fin hs
 . have hj:(i+(its.toArray.size:Int)).toNat=j:=by
     rw[seqIndex_neg (by omega) h4] at h1
     rw[List.size_toArray, <-hl]
     exact Option.some.inj h1
   exact subscriptTail_builtinR (x:=w) pl.isList.typeIs slot_list_getitem.lookup
     (wpAny_getItem_list_neg (Q:=fun r s'=>r=w/\EP X pins σ Q r s') pl.isList (by omega) (by rw[List.size_toArray]<;>omega) (by omega) (by rw[hj];simpa using ew) ⟨rfl,fin⟩) hs
theorem A1c:IxR X (C3a X.K):=by
 intro value slice pins s σ H x y v u Q I rx ry h hs
 obtain⟨p,xs,i,z,rfl,rfl,hq,he,q⟩:=h
 cases rx
 obtain⟨t,rfl⟩:=ry
 obtain⟨its,r,pl,hz⟩:=I.tuple hq
 obtain⟨j,h1,h2,h3,h4,h5⟩:=A5y he
 obtain⟨w,ew,rw'⟩:=r.get h2
 have hl:=r.length
 have hn:=A3z
 have fin:EP X pins σ Q w s:=⟨z,H,I,rw',q⟩
 exact subscriptTail_builtinR (x:=w) pl.typeIs slot_tuple_getitem.lookup
   (getItem_tuple (j:=j) (Q:=fun r s'=>r=w/\EP X pins σ Q r s') pl (by omega) (by omega) (by rw[List.size_toArray, <-hl];exact h1) (by simpa using ew) ⟨rfl,fin⟩) hs
theorem A1a:IxR X C4k:=by
 intro value slice pins s σ H x y v u Q I rx ry h hs
 obtain⟨z,i,c,rfl,rfl,hz,he,q⟩:=h
 obtain⟨t,rfl⟩:=rx
 obtain⟨t',rfl⟩:=ry
 obtain⟨j,h1,h2,h3,h4,h5⟩:=A5y he
 have hl:z.cps.toList.length=z.length:=by simp[Str.length]
 rw[hl] at h1 h4 h5
 have hn:=A3z
 exact tail_any (typeIs_str s z t) slot_str_getitem.lookup (getItem_str (c:=c) (by
   have e1:decide (i< -(2^63:Int))=false:=decide_eq_false (by omega)
   have e2:decide (i>=2^63)=false:=decide_eq_false (by omega)
   rw[e1,e2,Bool.or_false]) (by rw[h1];simpa using h2) ⟨.str ⟨#[c]⟩,H,I.tok _,⟨_,rfl⟩,q⟩) hs
noncomputable def A2n:V ->Bool
 | .non=>true
 | .bl _=>true
 | .int _=>true
 | .str _=>true
 |_=>false
noncomputable def eqV:V ->V ->Bool
 | .non,.non=>true
 | .bl a,.bl b=>a==b
 | .bl a,.int b=>(if a then 1 else 0)==b
 | .int a,.bl b=>a==(if b then 1 else 0)
 | .int a,.int b=>a==b
 | .str a,.str b=>a==b
 |_,_=>false
theorem B9z{A:Around}{s:Shared}{y x:V}{u v:Value}(ry:RelV y u)(rx:RelV x v)(fy:A2n y=true)(fx:A2n x=true):SeqAt.EqAt A s u v (eqV y x):=by
 cases y with
 | non=>
   cases ry
   cases x with
   |non=>cases rx;exact SeqAt.EqAt.same _
   |bl b=>cases rx;exact SeqAt.EqAt.none_bool b
   |int b=>obtain⟨t,rfl⟩:=rx;exact SeqAt.EqAt.none_int b t
   |str b=>obtain⟨t,rfl⟩:=rx;exact SeqAt.EqAt.none_str b t
   |_=>exact absurd (show false=true from fx) Bool.false_ne_true
 | bl a=>
   cases ry
   cases x with
   |non=>cases rx;exact SeqAt.EqAt.bool_none a
   |bl b=>cases rx;exact SeqAt.EqAt.bool_bool a b
   |int b=>obtain⟨t,rfl⟩:=rx;exact SeqAt.EqAt.bool_int a b t
   |str b=>obtain⟨t,rfl⟩:=rx;exact SeqAt.EqAt.bool_str a b t
   |_=>exact absurd (show false=true from fx) Bool.false_ne_true
 | int a=>
   obtain⟨t',rfl⟩:=ry
   cases x with
   |non=>cases rx;exact SeqAt.EqAt.int_none a t'
   |bl b=>cases rx;exact SeqAt.EqAt.int_bool a t' b
   |int b=>obtain⟨t,rfl⟩:=rx;exact SeqAt.EqAt.int_int a t' b t
   |str b=>obtain⟨t,rfl⟩:=rx;exact SeqAt.EqAt.int_str a t' b t
   |_=>exact absurd (show false=true from fx) Bool.false_ne_true
 | str a=>
   obtain⟨t',rfl⟩:=ry
   cases x with
   |non=>cases rx;exact SeqAt.EqAt.str_none a t'
   |bl b=>cases rx;exact SeqAt.EqAt.str_bool a t' b
   |int b=>obtain⟨t,rfl⟩:=rx;exact SeqAt.EqAt.str_int a t' b t
   |str b=>obtain⟨t,rfl⟩:=rx;exact SeqAt.EqAt.str_str a t' b t
   |_=>exact absurd (show false=true from fx) Bool.false_ne_true
 |_=>exact absurd (show false=true from fy) Bool.false_ne_true
noncomputable def eqU (x:V) (u:Value):Bool:=match u with
 | .none=>eqV .non x
 | .bool b=>eqV (.bl b) x
 | .int i _=>eqV (.int i) x
 | .str z _=>eqV (.str z) x
 |_=>false
theorem B4c{x y:V}{u:Value}(r:RelV y u)(f:A2n y=true):eqU x u=eqV y x:=by
 cases y with
 |non=>cases r;rfl
 |bl b=>cases r;rfl
 |int i=>obtain⟨t,rfl⟩:=r;rfl
 |str z=>obtain⟨t,rfl⟩:=r;rfl
 |_=>exact absurd (show false=true from f) Bool.false_ne_true
theorem A6d{x:V}:∀{xs:List V} {us:List Value},Vals xs us ->xs.all A2n=true ->us.any (eqU x)=xs.any fun y=>eqV y x
 |_,_,.nil,_=>rfl
 | y::xs,u::us,.cons r t,f=>by
   rw[List.all_cons,Bool.and_eq_true] at f
   rw[List.any_cons,List.any_cons,B4c r f.1,A6d t f.2]
theorem A3n{A:Around}{s:Shared}{x:V}{v:Value}(rx:RelV x v)(fx:A2n x=true):∀{xs:List V} {us:List Value},Vals xs us ->xs.all A2n=true ->∀u∈us,SeqAt.EqAt A s u v (eqU x u)
 |_,_,.nil,_=>fun u hu=>by cases hu
 | y::xs,u::us,.cons r t,f=>fun u' hu=>by
   rw[List.all_cons,Bool.and_eq_true] at f
   rcases List.mem_cons.mp hu with rfl|hu
   . rw[B4c r f.1];exact B9z r rx f.1 fx
   . exact A3n rx fx t f.2 u' hu
noncomputable def inV (x:V) (xs:List V):Bool:=xs.any fun y=>eqV y x
noncomputable def rIn (K:PySem.W.Frag) (neg:Bool):R2:=fun x y H Q=>∃p xs,y= .ref p/\(SqL K H p xs\/SqT K H p xs)/\A2n x=true/\xs.all A2n=true/\Q (.bl (if neg then !inV x xs else inV x xs)) H
theorem A5a:OpR X (compareOp .In) (rIn X.K false):=by
 intro pins s σ H x y v u Q I rx ry h
 obtain⟨p,xs,rfl,hq,fx,fs,q⟩:=h
 cases ry
 rcases hq with hq|hq
 . obtain⟨its,r,pl,hz⟩:=I.list hq
   refine SeqAt.in_listAt (eqU x) pl.isList (fun w hw=>A3n rx fx r fs w (by simpa using hw)) ⟨.bl _,H,I,rfl,?_⟩
   rw[show its.toArray.any (eqU x)=its.any (eqU x) by simp,A6d r fs]
   exact q
 . obtain⟨its,r,pl,hz⟩:=I.tuple hq
   refine SeqAt.in_tupleAt (eqU x) pl (fun w hw=>A3n rx fx r fs w (by simpa using hw)) ⟨.bl _,H,I,rfl,?_⟩
   rw[show its.toArray.any (eqU x)=its.any (eqU x) by simp,A6d r fs]
   exact q
theorem A5q:OpR X (compareOp .NotIn) (fun x y H Q=>∃i j,x= .str i/\y= .str j/\Q (.bl (!(!(Builtin.Str.occurrences j i 0 j.length 1).isEmpty))) H):=by
 intro pins s σ H x y v u Q I rx ry h
 obtain⟨i,j,rfl,rfl,q⟩:=h
 obtain⟨t,rfl⟩:=rx
 obtain⟨t',rfl⟩:=ry
 exact notIn_str ⟨.bl _,H,I,rfl,q⟩
theorem A1j:A1v X (.builtin "len") (fun xs H Q=>∃p ys,xs=[.ref p]/\(SqL X.K H p ys\/SqT X.K H p ys)/\Q (.int ys.length) H):=by
 intro pins s σ H xs us Q I r h
 obtain⟨p,ys,rfl,hq,q⟩:=h
 obtain⟨u,rfl,rx⟩:=A3t r
 cases rx
 have hn:=A3z
 rcases hq with hq|hq
 . obtain⟨its,r',pl,hz⟩:=I.list hq
   have hlen:=r'.length
   exact Calls.call_len_list pl.isList (by simp only[List.size_toArray]<;>omega) ⟨.int ys.length,H,I.tok _,⟨s.toks+1,by rw[List.size_toArray,hlen]⟩,q⟩
 . obtain⟨its,r',pl,hz⟩:=I.tuple hq
   have hlen:=r'.length
   exact len_tuple pl (by simp only[List.size_toArray]<;>omega) ⟨.int ys.length,H,I.tok _,⟨s.toks+1,by rw[List.size_toArray,hlen]⟩,q⟩
theorem C6:A1v X (.builtin "len") (fun xs H Q=>∃z,xs=[.str z]/\z.length<=sizeLine/\Q (.int z.length) H):=by
 intro pins s σ H xs us Q I r h
 obtain⟨z,rfl,hz,q⟩:=h
 obtain⟨u,rfl,t,rfl⟩:=A3t r
 have hn:=A3z
 exact len_str (by omega) ⟨.int z.length,H,I.tok _,⟨_,rfl⟩,q⟩
theorem A0r:A1v X (.type "tuple") (fun xs H Q=>∃p ys,xs=[.ref p]/\((SqL X.K H p ys/\∀l,H l=none ->Q (.ref l) (upd H l (.tup ys)))\/(SqT X.K H p ys/\Q (.ref p) H))):=by
 intro pins s σ H xs us Q I r h
 obtain⟨p,ys,rfl,h⟩:=h
 obtain⟨u,rfl,rx⟩:=A3t r
 cases rx
 rcases h with⟨hq,q⟩|⟨hq,q⟩
 . obtain⟨its,r',pl,hz⟩:=I.list hq
   have hlen:=r'.length
   refine call_tuple_list pl.isList (fun h' kp=>?_) (by simp only[List.size_toArray]<;>omega)
   have I1:Inv X pins σ H {s with heap:=h'}:=I.kept (t':=s.toks) kp
   have I2:Inv X pins σ (upd H h'.objs.size (.tup ys)) {s with heap:=h'.push {cls:= .type "tuple",data:= .seq its.toArray}}:=
     I1.laid (t':=s.toks) (fun b o e=>Heap.get?_push_of_some _ e) (Nat.le_refl _) (show ObjOk X.prog X.w _ _ _ (.tup ys) from⟨hz,its,r',IsTup.new _ _⟩)
   exact⟨.ref h'.objs.size,_,I2,rfl,q _ (I1.hok.fresh (Nat.le_refl _))⟩
 . obtain⟨its,r',pl,hz⟩:=I.tuple hq
   exact call_tuple_same pl ⟨.ref p,H,I,rfl,q⟩
noncomputable def tyV (K:PySem.W.Frag) (T:String) (x:V) (H:Hp):Prop:=match x with
 | .str _=>T="str"
 | .int _=>T="int"
 | .ref p=>(T="list"/\∃xs,SqL K H p xs)\/(T="tuple"/\∃o,K.lookup p=some o/\o.cls= .type "tuple"/\o.dict=none)\/
     (T="dict"/\((∃kvs,H p=some (.dK kvs))\/∃kvs,H p=some (.dT kvs)))\/(T="set"/\∃S n,H p=some (.set S n))
 |_=>False
theorem B4k{pins:List (Addr×Obj)}{σ:St}{H:Hp}{s:Shared}{T:String}{x:V}{v:Value}(I:Inv X pins σ H s)(r:RelV x v)(ty:tyV X.K T x H):
   s.TypeIs v T/\∀a,v= .ref a ->∃ob,s.heap.get? a=some ob/\ob.dict=none:=by
 cases x with
 | str z=>
   obtain⟨t,rfl⟩:=r
   cases(show T="str" from ty)
   exact⟨typeIs_str s z t,fun _ e=>nomatch e⟩
 | int i=>
   obtain⟨t,rfl⟩:=r
   cases(show T="int" from ty)
   exact⟨typeIs_int s i t,fun _ e=>nomatch e⟩
 | ref p =>
   cases r
   rcases ty with⟨rfl,xs,hq⟩|⟨rfl,o,hk,hc,hd⟩|⟨rfl,hk⟩|⟨rfl,S,n,hk⟩
   . obtain⟨its,_,pl,_⟩:=I.list hq
     refine⟨pl.isList.typeIs,fun a e=>?_⟩
     cases e
     obtain⟨o,n,e,c,hd,_⟩:=pl
     exact⟨o,e,hd⟩
   . refine⟨⟨o,I.kIn p o hk,hc⟩,fun a e=>?_⟩
     cases e
     exact⟨o,I.kIn _ o hk,hd⟩
   . have z:∃o,s.heap.get? p=some o/\o.ExactDict:=by
       rcases hk with⟨kvs,hk⟩|⟨kvs,hk⟩
       . obtain⟨_,_,_,_,o,_,_,e,ex,_⟩:=I.hok p _ hk
         exact⟨o,e,ex⟩
       . obtain⟨_,_,_,_,o,_,_,e,ex,_⟩:=I.hok p _ hk
         exact⟨o,e,ex⟩
     obtain⟨o,e,ex⟩:=z
     refine⟨⟨o,e,ex.1⟩,fun a e2=>?_⟩
     cases e2
     exact⟨o,e,ex.2.1⟩
   . obtain⟨o,_,_,_,e,ex,_⟩:=I.hok p _ hk
     refine⟨⟨o,e,ex.1⟩,fun a e2=>?_⟩
     cases e2
     exact⟨o,e,ex.2.1⟩
 |_=>exact False.elim ty
noncomputable def C3x (K:PySem.W.Frag) (T:String) (r:V ->List V ->Hp ->VK ->Prop) (to:TE):TE:=fun σ H Q=>to σ H fun x H1=>tyV K T x H1/\r x [] H1 Q
noncomputable def tBM (K:PySem.W.Frag) (T:String) (r:V ->List V ->Hp ->VK ->Prop) (to:TE) (t:TA):TE:=fun σ H Q=>to σ H fun x H1=>tyV K T x H1/\t σ H1 fun xs H2=>r x xs H2 Q
variable{o e:Expr}{es:List Expr}{to:TE}{t:TA}{name:Str}{apos cpos:Pos}{T id:String}{r:V ->List V ->Hp ->VK ->Prop}
theorem A9g(pa:PlainAttrs T)(slot:Slot T name id)(hty:typeOf (.builtin id)=pure (.type "method_descriptor"))(hm:MtR X id r)(ho:PE X o to)
   (hbase:attributeBase o name X.env (eval o X.env)=eval o X.env:=by rfl) (hline:(apos.endLine==cpos.line)=true:=by rfl):PE X (.Call (.Attribute o name apos) [] [] cpos) (C3x X.K T r to):=by
 intro pins s σ H Q I h
 refine wpAny_Call_method0_late hbase hline (thn (ho pins s σ H _ I h) fun v s1 hh_=>?_)
 obtain⟨x,H1,I1,r1,ty,q1⟩:=hh_
 obtain⟨h1,h2⟩:=B4k I1 r1 ty
 exact⟨T,id,pa,slot,hty,h1,h2,Calls.callWith_builtin rfl (PySem.evalArgs_none (hm pins s1 σ H1 x [] v [] Q I1 r1 .nil q1))⟩
theorem A1k(pa:PlainAttrs T)(slot:Slot T name id)(hty:typeOf (.builtin id)=pure (.type "method_descriptor"))(hm:MtR X id r)(ho:PE X o to)(ha:PA X (e::es) t)
   (hbase:attributeBase o name X.env (eval o X.env)=eval o X.env:=by rfl)
   (hfew:((backTo cpos (starEach (e::es) X.env)).all (fun x=> !x.1)&&(backToKw cpos (keywordEach [] X.env)).all (fun x=>x.1.isSome)
     &&decide ((e::es).length+([]:List Keyword).length+(if([]:List Keyword).isEmpty then 0 else 1)<30))=true:=by rfl)
   (hline:(apos.endLine==cpos.line)=true:=by rfl) (hs:starEach (e::es) X.env=(false,eval e X.env)::starEach es X.env:=by rfl) (hplain:(backTo cpos (starEach es X.env)).any (·.1)=false:=by rfl):
   PE X (.Call (.Attribute o name apos) (e::es) [] cpos) (tBM X.K T r to t):=by
 intro pins s σ H Q I h
 refine wpAny_Call_method_late hbase hfew hline rfl (thn (ho pins s σ H _ I h) fun v s1 hh_=>?_)
 obtain⟨x,H1,I1,r1,ty,q1⟩:=hh_
 obtain⟨h1,h2⟩:=B4k I1 r1 ty
 refine⟨T,id,pa,slot,hty,h1,h2,?_⟩
 have hA:=ha cpos pins s1 σ H1 _ I1 q1
 rw[hs] at hA ⊢
 refine Calls.callWith_builtin (by show(false||(backTo cpos (starEach es X.env)).any (·.1))=false;rw[hplain]<;>rfl) (Calls.evalArgs_plain ?_)
 exact thn hA fun us s2 ⟨vs,H2,I2,r2,q2⟩=>hm pins s2 σ H2 x vs v us Q I2 r1 r2 q2
end
noncomputable def MtM (X:Cx) (id:String) (r:V ->List V ->Hp ->VK ->Prop):Prop:=
 ∀ (pins:List (Addr×Obj)) (s:Shared) (σ:St) (H:Hp) (x:V) (xs:List V) (v:Value) (us:List Value) (Q:VK),Inv X pins σ H s ->RelV x v ->Vals xs us ->r x xs H Q ->
   wpAny (model X.prog X.w) X.A (call (.builtin id) (v::us)) (EP X pins σ Q) X.xe s
theorem Vals.one{x:V}{us:List Value}(h:Vals [x] us):∃u,us=[u]/\RelV x u:=by
 cases h with
 |cons r t=>cases t;exact⟨_,rfl,r⟩
theorem Vals.two{x y:V}{us:List Value}(h:Vals [x,y] us):∃u v,us=[u,v]/\RelV x u/\RelV y v:=by
 cases h with
 | cons r t=>
   cases t with
   |cons q z=>cases z;exact⟨_,_,rfl,r,q⟩
theorem Vals.zero:∀{us:List Value},Vals [] us ->us=[]
 |_,.nil=>rfl
section
variable{X:Cx}{pins:List (Addr×Obj)}{σ:St}{H:Hp}{s:Shared}{l b:Addr}{xs ys zs:List V}
theorem Inv.lset{its its':List Value}{n:Nat}{f:Array Value ->Array Value}{t':Nat}(I:Inv X pins σ H s)(hH:H l=some (.lst xs))
   (e:s.heap.get? l=some {cls:= .type "list",data:= .seq its.toArray n}) (hf:f its.toArray=its'.toArray) (hv:Vals ys its') (hz:ys.length<=sizeLine):
   Inv X pins σ (upd H l (.lst ys)) {s with heap:=s.heap.update l (Obj.mapSeq f),toks:=t'}:=by
 have q:=PySem.IsL.update e f
 rw[hf] at q
 refine I.write (x:=l) (e:=l) (by rw[hH];exact trivial) (.inl rfl) (fun b' u hb hu=>(Heap.get?_update_other s.heap (Obj.mapSeq f) (Ne.symm hb)).trans hu) ⟨_,q⟩ ?_
 exact⟨hz,its',_,hv,q⟩
theorem Inv.lnew{its:List Value}{t':Nat}(I:Inv X pins σ H s)(hv:Vals ys its)(hz:ys.length<=sizeLine):
   Inv X pins σ (upd H s.heap.objs.size (.lst ys)) {s with heap:=s.heap.push {cls:= .type "list",data:= .seq its.toArray},toks:=t'}:=
 I.laid (fun _ _ q=>Heap.get?_push_of_some _ q) (Nat.le_refl _) ⟨hz,its,0,hv,Heap.get?_push_size _ rfl⟩
theorem Inv.fresh(I:Inv X pins σ H s):H s.heap.objs.size=none:=I.hok.fresh (Nat.le_refl _)
theorem Inv.lstM(I:Inv X pins σ H s)(hH:H l=some (.lst xs)):xs.length<=sizeLine/\∃(its:List Value) (n:Nat),Vals xs its/\xs.length=its.length/\s.heap.get? l=some {cls:= .type "list",data:= .seq its.toArray n}:=by
 obtain⟨z,its,n,r,e⟩:=I.hok l _ hH
 exact⟨z,its,n,r,r.length,e⟩
end
section
variable{X:Cx}
noncomputable def B6n:V ->List V ->Hp ->VK ->Prop:=fun x vs H Q=>∃l xs y,x= .ref l/\vs=[y]/\H l=some (.lst xs)/\xs.length<sizeLine/\Q .non (upd H l (.lst (xs++ [y])))
theorem A1z:MtM X "list.append" B6n:=by
 intro pins s σ H x vs v us Q I rx rv h
 obtain⟨l,xs,y,rfl,rfl,hH,hz,q⟩:=h
 cases rx
 obtain⟨u,rfl,ru⟩:=rv.one
 obtain⟨z,its,n,r,hl,e⟩:=I.lstM hH
 refine call_meets F.slot_list_append ⟨_,e,rfl⟩ F.entry_list_append (F.args_list_append_2 _ _) (PySem.list_append l its.toArray n u (by rw[List.size_toArray];omega)) ⟨e,?_⟩
 refine⟨.non,_,I.lset (its':=its++ [u]) hH e (by simp) (r.append (.cons ru .nil)) ?_,rfl,q⟩
 rw[List.length_append,List.length_singleton]
 omega
noncomputable def C4b:R2:=fun x y H Q=>∃l b xs zs,x= .ref l/\y= .ref b/\H l=some (.lst xs)/\H b=some (.lst zs)/\xs.length+zs.length<=sizeLine/\∀p,H p=none ->Q (.ref p) (upd H p (.lst (xs++zs)))
theorem B4s:OpR X (binaryOp .Add) C4b:=by
 intro pins s σ H x y v u Q I rx ry h
 obtain⟨l,b,xs,zs,rfl,rfl,hH,hB,hz,q⟩:=h
 cases rx
 cases ry
 obtain⟨z,its,n,r,hl,e⟩:=I.lstM hH
 obtain⟨z2,its2,n2,r2,hl2,e2⟩:=I.lstM hB
 refine PySem.P.add_list e e2 ?_ (by rw[List.size_toArray,List.size_toArray];omega)
 have ea:its.toArray++its2.toArray=(its++its2).toArray:=by simp
 rw[ea]
 exact⟨.ref _,_,I.lnew (t':=s.toks) (r.append r2) (by rw[List.length_append];omega),rfl,q _ I.fresh⟩
theorem B6v{α:Type}(xs:List α)(k:Nat):(List.replicate k xs).flatten.length=k*xs.length:=by
 induction k with
 |zero=>simp
 |succ k ih=>rw[List.replicate_succ,List.flatten_cons,List.length_append,ih,Nat.succ_mul,Nat.add_comm]
end
section
variable{prog:Program}{w:World}{A:Around}{E:Value ->Shared ->Prop}{s:Shared}
end
section
variable{X:Cx}
end
end L2
namespace Att
open PySem PySem.W PySem.Calls PyProof.Rows
theorem A2t{P:Params}{h:Heap}:∀(ns:List Int) (vs:List Value),WellAll P h vs (ns.map WData.int) ->IntsAre vs ns:=by
 intro ns
 induction ns with
 | nil=>
   intro vs w
   rw[List.map_nil] at w
   cases w
   exact .nil
 | cons n ns ih=>
   intro vs w
   rw[List.map_cons] at w
   cases w with
   | cons a b=>
     cases a
     exact .cons _ _ (ih _ b)
theorem B2t{l:OpenLaw}{n:Nat}(hn:l.most=some n){P:Params}{h:Heap}{args:List WData}{vals:List Value}
   (hpre:l.row.toRowW.claim.pre args=true) (hwl:WellAll P h vals args):
   ∃a vs ns,vals=[Value.ref a]/\args=[WData.list (ns.map WData.int)]/\h.get? a=some {cls:= .type "list",data:= .seq vs.toArray}/\IntsAre vs ns/\ns.length<=n:=by
 have hsh:WShape.hasAll [] args [.list .int]=true:=(pre_splitW hpre).1
 have hc:l.pre.holds [] {args:=args}=true:=(pre_splitW hpre).2
 obtain⟨d,r,rfl,h1,h2⟩:=hasAllW_cons hsh
 obtain rfl:=hasAllW_nil h2
 obtain⟨xs,rfl,h3⟩:=hasW_list h1
 obtain⟨ns,rfl⟩:=items_int h3
 have hlen:ns.length<=n:=by
   unfold OpenLaw.pre at hc
   have h4:(WTm.not (.lt (.lit (.int (n:Int))) (.len (.arg 0)))).holds [] {args:=[.list (ns.map .int)]}=true:=by
     have h4:=(holds_andW hc).1
     rw[hn] at h4
     exact h4
   have h5:=condW_of h4 (w_not (w_lt w_lit (w_len_list (w_arg rfl))))
   rw[List.length_map] at h5
   refine Nat.le_of_not_lt fun q=>?_
   have q':(n:Int)<((ns.length:Nat):Int):=by omega
   first
     |(rw[decide_eq_true q'] at h5;exact absurd h5 (by decide))
     |(simp at h5;omega)
 cases hwl with
 | cons w1 w2=>
   cases w2
   cases w1 with
   |list ho hall=>exact⟨_,_,ns,rfl,rfl,ho,A2t ns _ hall,hlen⟩
theorem B1t(l:OpenLaw)(args:List WData):l.row.toRowW.claim.post args (.bool true) args=true:=
 postW_of (r:=l.row.toRowW) (X:=(true==true))
   (show WShape.has [] (.bool true) .bool=true by first|rfl|decide|simp[WShape.has,WShape.arms,WShape.armsAll])
   (show(WTm.eq .res (.lit (.bool true))).value [] {args:=args,res:=some (.bool true),after:=args}=some (.bool (true==true)) from w_eq_bool (w_res rfl) w_lit) rfl
theorem attach_call{l:OpenLaw}{n:Nat}{q:Program}{loose:List Str}{XP:(Str ->Option Value) ->Heap ->Prop}{YP:World ->Heap ->Prop}{d:DefRec}
   (hn:l.most=some n) (hdf:d.params.defaults=[])
   (call:∀(w:World) (s₀ s₁:Shared) (mg mb:Str ->Option Value) (fa:Addr) (o:Obj) (pm cd doc:Value) (a:Addr) (vs:List Value) (ns:List Int),
     Ground q loose [] XP w s₀ mg mb s₁.heap ->YP w s₁.heap ->
     s₁.heap.get? fa=some o ->o.data= .func (docDef d.name d.params d.body d.scope pm cd doc) ->s₁.heap.CodeRec cd d.name ->mg d.name=some (.ref fa) ->
     s₁.heap.get? a=some {cls:= .type "list",data:= .seq vs.toArray} ->IntsAre vs ns ->ns.length<=n ->s₁.gens= #[] ->
     codeAny (model l.prog w) callerA (.call (.ref fa) ⟨[.ref a],[]⟩) (fun r s'=>r= .ok (.ret (.bool true))/\OldK s₁.heap s'.heap/\s'.os=s₁.os/\AllBare s'.gens) s₁):
   WalkO q loose XP YP l.row.toRowW d [] (fun f vs=>PySem.call f vs):=by
 intro w s₀ s₁ mg mb G Y fa o pm cd doc dV kV ho hd hcd hD hmg hg args vals as hpre hlay hrd hwl hlo
 obtain rfl:dV= .none:=Dflts.none hD hdf
 obtain rfl:kV= .none:=Dflts.noKw hD
 obtain⟨a,vs,ns,rfl,rfl,hobj,hints,hlen⟩:=B2t hn hpre hwl
 refine enter_call (codeAny_mono (call w s₀ s₁ mg mb fa o pm cd doc a vs ns G Y ho (fd_plain hd) hcd hmg hobj hints hlen hg) fun r s' hq=>?_)
 obtain⟨rfl,h2,h3,h4⟩:=hq
 exact⟨.inl ⟨.bool true,.bool true,[],rfl,fun _=>rfl,.bool true,B1t l _,fun _=>⟨List.Pairwise.nil,fun _ hm=>(nomatch hm)⟩⟩,h2,h3,h4⟩
section
variable{prog:Program}{w:World}{A:Around}{E:Value ->Shared ->Prop}{s:Shared}{K:Frag}
end
end Att
namespace L2
open PySem PySem.Spec PyProof.Rows
theorem A4w:∀{vs:List Value} {ns:List Int},IntsAre vs ns ->Vals (ns.map V.int) vs
 |_,_,.nil=> .nil
 |_,_,.cons n t h=> .cons ⟨t,rfl⟩ (A4w h)
noncomputable def C0x (H:Hp):Prop:=∀b,H b=none\/∃o xs,H b=some (.frz o (.lst xs))
theorem B4q{P:Program}{w:World}{K:PySem.W.Frag}{mg mb:Str ->Option Value}{CX:CXT}{k:Nat}{fa a:Addr}{fd:FuncData}{x:Str}{sp:Sp}{s₁:Shared}{vs:List Value}{ns:List Int}
   (KX:K.In s₁.heap) (hns:s₁.heap.Ns mainGlobals mg) (hb:s₁.heap.Ns builtinsNs mb) (hbb:∀x:Str,x≠"__name__" ->mb x=bootBuiltins x) (hlim:s₁.heap.NoLimit) (hg:s₁.gens= #[])
   (ha:s₁.heap.get? a=some {cls:= .type "list",data:= .seq vs.toArray}) (hi:IntsAre vs ns) (hl:ns.length<=sizeLine) (hr:Room k callerA)
   (F:∀base:Heap,K.In base ->base.Ns mainGlobals mg ->FnOk P w K mg base CX k fa fd [x] sp) (hbind:∀(s:Shared) (u:Value),BindsTo s fd ⟨[u],[]⟩ [(x,u)])
   (hsp:∀H:Hp,C0x H ->SqL K H a (ns.map V.int) ->sp [.ref a] H (fun v _=>v= .bl true) fun _ _ _=>False)
   (hCX:∀H e s',CX [] H s₁ (fun _ _ _=>False) e s' ->False):
   codeAny (model P w) callerA (.call (.ref fa) ⟨[.ref a],[]⟩) (fun r s'=>r= .ok (.ret (.bool true))/\OldK s₁.heap s'.heap/\s'.os=s₁.os/\AllBare s'.gens) s₁:=by
 have rv:=A4w hi
 have lenV:=hi.length
 have core :∀H:Hp,C0x H ->SqL K H a (ns.map V.int) ->HOk P w H s₁.heap ->(∀b,H b≠none ->b=a) ->(H a≠none ->K.lookup a=none) ->
     codeAny (model P w) callerA (.call (.ref fa) ⟨[.ref a],[]⟩) (fun r s'=>r= .ok (.ret (.bool true))/\OldK s₁.heap s'.heap/\s'.os=s₁.os/\AllBare s'.gens) s₁:=by
   intro H hO hS hok hA hK
   have base_of:∀{b:Addr} {o:Obj},s₁.heap.get? b=some o ->H b=none ->(A6n s₁.heap H).get? b=some o:=fun e n=>B5b e n
   have noA:∀{b:Addr} {o:Obj} {es:Array DictEntry} {ep:Nat},s₁.heap.get? b=some o ->o.data= .dict es ep ->H b=none:=fun{b o es ep} e d=>by
     cases q:H b with
     |none=>rfl
     | some u=>
       have e':b=a:=hA b (by rw[q];simp)
       subst e'
       rw[ha] at e;cases e
       have d':Data.seq vs.toArray _=Data.dict es ep:=d
       cases d'
   have nsK:∀{b:Addr} {m:Str ->Option Value},s₁.heap.Ns b m ->(A6n s₁.heap H).Ns b m:=fun{b m} ⟨o,es,ep,e,d,r⟩=>⟨o,es,ep,base_of e (noA e d),d,r⟩
   have hKb:K.In (A6n s₁.heap H):=fun b o e=>base_of (KX b o e) (by
     cases q:H b with
     |none=>rfl
     | some u=>
       have e':b=a:=hA b (by rw[q];simp)
       subst e'
       rw[hK (by rw[q];simp)] at e;cases e)
   have hM:Mod K mg (A6n s₁.heap H):=⟨hKb,nsK hns,⟨mb,nsK hb,hbb⟩,let⟨mc,h1,h2⟩:=hlim;⟨mc,nsK h1,h2⟩⟩
   have e0:Env0 P w K mg (A6n s₁.heap H) callerA [] s₁ H:=⟨rfl,hM,fun b o e=>B8c e,Nat.le_of_eq (B2r _ _),trivial,fun b hb=>absurd (show b∈([]:List Addr) from hb) (by simp),hok,.of_eq hg⟩
   refine codeAny_mono ((F _ hKb (nsK hns)).run callerA [] s₁ H ⟨[.ref a],[]⟩ [.ref a] [.ref a] _ _ hr e0 (hbind s₁ (.ref a)) (.cons rfl .nil) (hsp H hO hS)) fun r s' h=>?_
   cases r with
   |error e=>exact(hCX H e s' h).elim
   | ok fl =>
     cases fl with
     |next=>exact False.elim h
     |brk=>exact False.elim h
     |cont=>exact False.elim h
     | ret u=>
       obtain⟨v,H',os,bare,un,hok',r',q⟩:=h
       have q':v= .bl true:=q
       subst q'
       obtain rfl:u=Value.bool true:=r'
       refine⟨rfl,OldK.of_keep fun b o e=>?_,os,bare⟩
       cases q:H b with
       |none=>exact un.keep b o e q (by intro z;exact absurd (show b∈([]:List Addr) from z) (by simp)) (by simp)
       | some u=>
         rcases hO b with z|⟨ob,xs,z⟩
         . rw[q] at z;cases z
         . have z2:=un.frzs b ob _ z
           obtain⟨e1,_⟩:=hok b _ z
           obtain⟨e2,_⟩:=hok' b _ z2
           rw[e] at e1;cases e1
           exact e2
 cases hk:K.lookup a with
 | some o=>
   have e:=KX a o hk
   rw[ha] at e
   cases e
   refine core (fun _=>none) (fun _=> .inl rfl) (.inr ⟨_,vs.toArray,_,hk,rfl,rfl,rfl,by rw[List.size_toArray,lenV];exact hl,by simpa using rv⟩) (fun b u z=>by have z':(none:Option HO)=some u:=z;cases z') (fun b z=>absurd rfl z) fun z=>absurd rfl z
 | none=>
   refine core (fun b=>if b=a then some (.frz {cls:= .type "list",data:= .seq vs.toArray} (.lst (ns.map V.int))) else none) (fun b=>?_) (.inl (.inr ⟨{cls:= .type "list",data:= .seq vs.toArray},if_pos rfl⟩)) (fun b u z=>?_) (fun b z=>?_) fun _=>hk
   . by_cases hb:b=a
     . exact .inr ⟨_,_,if_pos hb⟩
     . exact .inl (if_neg hb)
   . by_cases hb:b=a
     . have z':=(if_pos hb).symm.trans z
       cases z'
       subst hb
       exact⟨ha,by rw[List.length_map];exact hl,vs,_,rv,ha⟩
     . have z':=(if_neg hb).symm.trans z
       cases z'
   . by_cases hb:b=a
     . exact hb
     . exact absurd (if_neg hb) z
theorem walk_of{l:PySem.W.OpenLaw}{n k:Nat}{q:Program}{loose:List Str}{XP:(Str ->Option Value) ->Heap ->Prop}{YP:World ->Heap ->Prop}{d:DefRec}{K:Params ->PySem.W.Frag}{CX:World ->CXT}{sp:World ->Sp}{x:Str}
   (hn:l.most=some n) (hn2:n<=sizeLine) (hdf:d.params.defaults=[]) (hr:Room k callerA)
   (hY:∀(w:World) (h:Heap),YP w h ->(K w.params).In h)
   (F:∀(w:World) (mg:Str ->Option Value) (fa:Addr) (h:Heap),(K w.params).In h ->h.Ns mainGlobals mg ->mg d.name=some (.ref fa) ->
     ∃ fd:FuncData,(∀(s:Shared) (u:Value),BindsTo s fd ⟨[u],[]⟩ [(x,u)])/\
       ∀base:Heap,(K w.params).In base ->base.Ns mainGlobals mg ->FnOk l.prog w (K w.params) mg base (CX w) k fa fd [x] (sp w))
   (hsp:∀(w:World) (H:Hp) (a:Addr) (ns:List Int),ns.length<=n ->C0x H ->SqL (K w.params) H a (ns.map V.int) ->sp w [.ref a] H (fun v _=>v= .bl true) fun _ _ _=>False)
   (hCX:∀(w:World) (H:Hp) (s:Shared) (e:Value) (s':Shared),CX w [] H s (fun _ _ _=>False) e s' ->False):
   PySem.W.WalkO q loose XP YP l.row.toRowW d [] (fun f vs=>PySem.call f vs):=by
 refine Att.attach_call hn hdf fun w s₀ s₁ mg mb fa o pm cd doc a vs ns G Y ho hd hcd hmg hobj hints hlen hg=>?_
 have KX:=hY w _ Y
 obtain⟨fd,hb,hF⟩:=F w mg fa _ KX G.T.g hmg
 exact B4q KX G.T.g G.T.b G.T.builtins G.T.nolimit hg hobj hints (Nat.le_trans hlen hn2) hr hF hb (fun H hO hS=>hsp w H a ns hlen hO hS) fun H e s'=>hCX w H s₁ e s'
noncomputable def B7w (s:Stmt) (j:Nat):Stmt:=match s with
 | .ClassDef _ _ _ body _ _ _ _ _ _ _=>body.getD j (.Pass ⟨0,0,0,0⟩)
 |_=> .Pass ⟨0,0,0,0⟩
noncomputable def G2 (s:Stmt):Arguments:=match s with
 | .FunctionDef _ a _ _ _ _ _ _ _ _=>a
 |_=>{posonlyargs:=[],args:=[],vararg:=none,kwonlyargs:=[],kw_defaults:=[],kwarg:=none,defaults:=[]}
noncomputable def D7 (s:Stmt):List Stmt:=match s with
 | .FunctionDef _ _ b _ _ _ _ _ _ _=>b
 |_=>[]
noncomputable def A7 (s:Stmt):Scope:=match s with
 | .FunctionDef _ _ _ _ _ _ sc _ _ _=>sc
 |_=>{kind:= .function,names:=[],isGenerator:=false,isCoroutine:=false}
noncomputable abbrev CX0:CXT:=fun _ _ _ _ _ _=>False
noncomputable abbrev E0:XK:=fun _ _ _=>False
theorem B3m{X:Cx}:B0a CX0 X E0:=fun _ _ _ _ _ _ _ h=>h.elim
structure Fun(K:PySem.W.Frag)(x qual:Str)(st:Stmt)(f:Addr)(fd:FuncData):Prop where
 ex:∃(oc:Value) (od:Option Addr) (kV doc pm:Value) (an:Option Addr) (cdv ct:Value) (osl:Array (Option Value)),
   fd=PySem.W.fnOf x qual (G2 st) (D7 st) (A7 st) .none kV doc pm an cdv ct/\K.lookup f=some ⟨oc,od,.func fd,osl⟩/\PySem.W.codeIn K cdv qual=true
 kp:PySem.W.keepIn K (.ref f)=true
section
variable{P:Program}{w:World}{K:PySem.W.Frag}{mg:Str ->Option Value}{base:Heap}
theorem Fun.ok{x qual:Str}{st:Stmt}{f:Addr}{fd:FuncData}{N ps:List Str}{k:Nat}{sp:Sp}(F:Fun K x qual st f fd)(S:FnScope N ps (A7 st))(len:∀vs H Q E,sp vs H Q E ->vs.length=ps.length)
   (hbody:∀(cdv:Value) (A:Around) (outer:List Env) (s:Shared) (H:Hp) (vs:List V) (Q:VK) (E:XK),Room k (A.deeper (envOfC qual (A7 st) s.heap.objs.size f cdv)) ->sp vs H Q E ->
     ∃t,PSs (A1m CX0 P w K mg base N qual (A7 st) f cdv A outer s H E).nox (D7 st) t/\t {nx:=fun _ H'=>Q .non H',rt:=Q} (A0t N vs) H):FnOk P w K mg base CX0 (k+1) f fd ps sp:=by
 obtain⟨oc,od,kV,doc,pm,an,cdv,ct,osl,rfl,lk,hcd⟩:=F.ex
 refine B4y lk hcd S len fun A outer s H vs Q E hr hsp=>?_
 obtain⟨t,h,q⟩:=hbody cdv A outer s H vs Q E hr hsp
 exact⟨t,h.nox,q⟩
theorem Fun.binds{x qual:Str}{st:Stmt}{f:Addr}{fd:FuncData}{ps:List Str}(F:Fun K x qual st f fd)
   (h:∀(kV doc pm:Value) (an:Option Addr) (cdv ct:Value) (us:List Value),us.length=ps.length ->bindArgs (PySem.W.fnOf x qual (G2 st) (D7 st) (A7 st) .none kV doc pm an cdv ct) ⟨us,[]⟩=pure (ps.zip us)):Binds K fd ps []:=by
 obtain⟨oc,od,kV,doc,pm,an,cdv,ct,osl,rfl,lk,hcd⟩:=F.ex
 exact .all (h kV doc pm an cdv ct)
theorem A9k{x qual:Str}{st:Stmt}{f:Addr}{oc:Value}{od an:Option Addr}{osl:Array (Option Value)}{kV doc pm cdv ct:Value}(l:K.lookup f=some ⟨oc,od,.func (PySem.W.fnOf x qual (G2 st) (D7 st) (A7 st) .none kV doc pm an cdv ct),osl⟩)
   (c:PySem.W.codeIn K cdv qual=true) (k:PySem.W.keepIn K (.ref f)=true):Fun K x qual st f (PySem.W.fnOf x qual (G2 st) (D7 st) (A7 st) .none kV doc pm an cdv ct):=⟨⟨oc,od,kV,doc,pm,an,cdv,ct,osl,rfl,l,c⟩,k⟩
end
theorem V8{n:Nat}(h:n<=1000):n<sizeLine:=Nat.lt_of_le_of_lt h (by decide)
section
variable{X:Cx}
theorem pv(i:Nat){x:Str}{pos:Pos}(hN:X.N[i]?=some x:=by rfl)(hv:Vis X.env.scope x:=by first|exact Or.inl rfl|exact Or.inr (Or.inl rfl)|exact Or.inr (Or.inr rfl))(hd:(x==("__debug__":Str))=false:=by decide)
   (hcd:(x==("__classdict__":Str))=false:=by decide):PE X (.Name x pos) (B3f i):=C0s hN hv hd hcd
end
theorem U8{A B:Prop}(h:B):if false=true then A else B:=by
 rw[if_neg Bool.false_ne_true]
 exact h
theorem V7{A B:Prop}(h:A):if true=true then A else B:=by
 rw[if_pos rfl]
 exact h
noncomputable def Same (H H':Hp):Prop:=∀b o,H b=some o ->H' b=some o
theorem Same.refl(H:Hp):Same H H:=fun _ _ h=>h
theorem Same.trans{H H1 H2:Hp}(a:Same H H1)(b:Same H1 H2):Same H H2:=fun c o h=>b c o (a c o h)
theorem Same.free{H H':Hp}(e:Same H H'){l:Addr}(h:H' l=Option.none):H l=Option.none:=by
 cases q:H l with
 |none=>rfl
 | some o=>
   rw[e l o q] at h
   cases h
theorem Same.seq{K:PySem.W.Frag}{H H':Hp}{a:Addr}{xs:List V}(e:Same H H')(h:SqL K H a xs):SqL K H' a xs:=by
 rcases h with(h|⟨o,h⟩)|h
 . exact .inl (.inl (e _ _ h))
 . exact .inl (.inr ⟨o,e _ _ h⟩)
 . exact .inr h
end L2
set_option maxHeartbeats 4000000
namespace L2
open PySem PySem.Spec PyProof.Rows
structure XT where
 t:Addr
 x:Value:= .none
 b:Bool:=false
instance:Coe Addr XT:=⟨fun t=>{t:=t}⟩
noncomputable abbrev Y2 (C:Value) (t:XT) (dd:Option Addr) (tb:Value):Obj:=
 {cls:=C,dict:=dd,data:= .fields #[.ref t.t,tb,t.x,.none,.bool t.b,.none]}
structure Noted(fs:List Addr)(h h':Heap)(a:Addr)(C:Value)(t:XT)(dd:Option Addr)(T:Addr)(fl:Value):Prop where
 keep:∀b o,b ∉ fs ->b≠a ->h.get? b=some o ->h'.get? b=some o
 slot:∀b o,b≠a ->h.get? b=some o ->∃sl,h'.get? b=some {o with slots:=sl}
 new:h.get? T=none
 ne:T≠a
 exc:h'.get? a=some (Y2 C t dd (.ref T))
 tbk:∃oT ts,h'.get? T=some oT/\oT.data= .fields ts/\ts[3]?=some fl
section
variable{M:Model}{A:Around}{E:Value ->Shared ->Prop}{s:Shared}{base:Heap}{env:Env}{outer:List Env}{L a:Addr}{t:XT}{C:Value}{dd:Option Addr}{tb:Value}{Q:Unit ->Shared ->Prop}
theorem B7a{oa:Obj}{vs:Array Value}{l:List Env}(hl:s.heap.FunFrames base l)(ha:s.heap.get? a=some oa)(hd:oa.data= .fields vs):a ∉ l.filterMap (·.frame):=by
 intro hm
 obtain⟨_,o,ho,hn⟩:=hl.mem hm
 rw[ha] at ho
 cases ho
 exact hn vs hd
theorem B0t{head:Value}{hn:Bool}(hfr:A.frames=some (env::outer))(hl:s.heap.FunFrames base (env::outer))(hf:env.frame=some L)
   (ha:s.heap.get? a=some (Y2 C t dd tb))
   (h:∀h' T,Noted ((env::outer).filterMap (·.frame)) s.heap h' a C t dd T (rawInt L) ->Q () {s with heap:=h'}):
   wpAny M A (do
     let x<-frameOf env
     let pl<-entryPlaceOf L hn
     let b<-EntryCells.newEntry head x .none (rawInt L) .none pl
     setField (.ref a) 1 b) Q E s:=by
 have na:=B7a hl ha rfl
 refine wpAny_bind (wpAny_frameOf_fun hfr hl hf fun g hg=>?_)
 refine wpAny_bind (wpAny_entryPlaceOf fun pl hpl=>?_)
 unfold EntryCells.newEntry newFields
 refine wpAny_bind (wpAny_newObj_type ?_ (hpl.sizeOk5 _ _ _ _ _))
 have a1:g.get? a=some (Y2 C t dd tb):=(hg.2.1 a na).trans ha
 have a2:=fun(z:Obj)=>Heap.get?_push_of_some (h:=g) z a1
 have nT:g.objs.size≠a:=Nat.ne_of_gt (Heap.lt_size a1)
 refine wpAny_setField (a2 _) rfl (by show 1<6;decide) (h _ g.objs.size ?_)
 have up:∀(z:Obj) (f:Obj ->Obj) b o,b≠a ->g.get? b=some o ->((g.push z).update a f).get? b=some o:=by
   intro z f b o hb e
   rw[Heap.get?_update_other _ _ (Ne.symm hb)]
   exact Heap.get?_push_of_some _ e
 refine⟨fun b o hb hba e=>up _ _ b o hba ((hg.2.1 b hb).trans e),fun b o hba e=>?_,?_,nT,?_,?_⟩
 . obtain⟨sl,e1⟩:=hg.2.2 b o e
   exact⟨sl,up _ _ b _ hba e1⟩
 . refine Heap.get?_none_of_le ?_
   rw[hg.1]
   exact Nat.le_refl _
 . exact Heap.get?_update_self _ (a2 _) rfl
 . refine⟨_,_,(Heap.get?_update_other _ _ (Ne.symm nT)).trans (Heap.get?_push_size _ rfl),rfl,?_⟩
   first
     |(simp;done)
     |(rcases hpl with rfl|⟨_,_,_,_,_,_,_,rfl⟩<;>simp)
noncomputable def C0m (h:Heap) (a:Addr) (tb:Value):Prop:=tb= .none\/∃T oT ts,tb= .ref T/\T≠a/\h.get? T=some oT/\oT.data= .fields ts/\ts[3]?=some .none
theorem B9p(hfr:A.frames=some (env::outer))(hl:s.heap.FunFrames base (env::outer))(hf:env.frame=some L)
   (ha:s.heap.get? a=some (Y2 C t dd tb)) (ht:C0m s.heap a tb)
   (h:∀h' T,(∀b o,b ∉ (env::outer).filterMap (·.frame) ->b≠a ->tb≠ .ref b ->s.heap.get? b=some o ->h'.get? b=some o) ->
     (∀b o,b≠a ->tb≠ .ref b ->s.heap.get? b=some o ->∃sl,h'.get? b=some {o with slots:=sl}) ->s.heap.get? T=none ->T≠a ->
     h'.get? a=some (Y2 C t dd (.ref T)) ->(∃oT ts,h'.get? T=some oT/\oT.data= .fields ts/\ts[3]?=some (rawInt L)) ->Q () {s with heap:=h'}):
   wpAny M A (noteFrame (.ref a) env) Q E s:=by
 unfold noteFrame
 simp only[hf]
 refine wpAny_bind (wpAny_field ha rfl (x:=tb) rfl ?_)
 rcases ht with rfl|⟨T,oT,ts,rfl,nT,hT,dT,h3⟩
 . rw[if_neg (by decide)]
   refine B0t hfr hl hf ha fun h' T N=>?_
   exact h h' T (fun b o hb hba _ e=>N.keep b o hb hba e) (fun b o hba _ e=>N.slot b o hba e) N.new N.ne N.exc N.tbk
 . rw[if_pos (show(Value.ref T !=Value.none)=true by simp)]
   refine wpAny_bind (wpAny_field hT dT h3 ?_)
   rw[if_neg (show¬((Value.none==rawInt L)=true) by simp[rawInt])]
   refine wpAny_bind (wpAny_setField hT dT (Array.getElem?_eq_some_iff.mp h3).1 ?_)
   have oth:∀(f:Obj ->Obj) b,b≠T ->(s.heap.update T f).get? b=s.heap.get? b:=fun f b hb=>Heap.get?_update_other _ _ (Ne.symm hb)
   have nrec:∀b o,s.heap.get? b=some o ->(∀vs,o.data≠ .fields vs) ->b≠T:=by
     intro b o e hn q
     rw[q,hT] at e
     cases e
     exact hn ts dT
   refine B0t (s:={s with heap:=_}) hfr (hl.of_keeps fun b o e hn=>⟨o,(oth _ b (nrec b o e hn)).trans e,rfl⟩) hf ((oth _ a (Ne.symm nT)).trans ha) fun h' T' N=>?_
   have neb:∀b,Value.ref T≠Value.ref b ->b≠T:=fun b q z=>q (by rw[z])
   refine h h' T' (fun b o hb hba hbT e=>N.keep b o hb hba ((oth _ b (neb b hbT)).trans e)) (fun b o hba hbT e=>N.slot b o hba ((oth _ b (neb b hbT)).trans e)) ?_ N.ne N.exc N.tbk
   have nw:=N.new
   by_cases q:T'=T
   . subst q
     have:=Heap.get?_update_self (Obj.mapFields (·.setIfInBounds 3 Value.none)) hT (Obj.isFreed_of_fields (Obj.data_mapFields dT _))
     rw[nw] at this
     cases this
   . rw[oth _ T' q] at nw
     exact nw
theorem B9s{T:Addr}{oT:Obj}{ts:Array Value}{fl:Value}(ha:s.heap.get? a=some (Y2 C t dd (.ref T)))(nT:T≠a)(hT:s.heap.get? T=some oT)(dT:oT.data= .fields ts)(h3:ts[3]?=some fl)
   (h:∀h',(∀b o,b≠T ->s.heap.get? b=some o ->h'.get? b=some o) ->C0m h' a (.ref T) ->Q () {s with heap:=h'}):wpAny M A (setFlight (.ref a) none) Q E s:=by
 have sz:3<ts.size:=(Array.getElem?_eq_some_iff.mp h3).1
 unfold setFlight
 refine wpAny_bind (wpAny_field ha rfl (x:= .ref T) rfl ?_)
 rw[if_pos (show(Value.ref T !=Value.none)=true by simp)]
 refine wpAny_setField hT dT sz (h _ (fun b o hb e=>(Heap.get?_update_other _ _ (Ne.symm hb)).trans e) ?_)
 have d2:=Obj.data_mapFields dT (·.setIfInBounds 3 ((none:Option Addr).elim Value.none fun f=>rawInt f))
 exact .inr ⟨T,_,_,rfl,nT,Heap.get?_update_self _ hT (Obj.isFreed_of_fields d2),d2,by simp[sz]⟩
end
noncomputable def Hd (A:Around) (h:Heap):Prop:=A.handled=none\/∃x ox vs,A.handled=some (.ref x)/\h.get? x=some ox/\ox.data= .fields vs/\vs[2]?=some .none
theorem A0s : entryFor table "proto.unchain" = some Builtin.«proto.unchain» := entryFor_of_tree (by kernel_rfl)
section
variable{prog:Program}{w:World}{A:Around}{E:Value ->Shared ->Prop}{s:Shared}
theorem Hd.keeps{h h':Heap}(x:Hd A h)(k:∀b o,h.get? b=some o ->h'.get? b=some o):Hd A h':=by
 rcases x with z|⟨x,ox,vs,z,e,d,n⟩
 . exact .inl z
 . exact .inr ⟨x,ox,vs,z,k x ox e,d,n⟩
theorem A7n{α:Type}{a:Addr}{oa:Obj}{ws:Array Value}{h₀:Heap}{Q:α ->Shared ->Prop}(hd:Hd A h₀)(k:∀b o,h₀.get? b=some o ->s.heap.get? b=some o)(na:h₀.get? a=none)
   (ha:s.heap.get? a=some oa) (da:oa.data= .fields ws) (h2:2<ws.size)
   (h:∀h',(∀b o,b≠a ->s.heap.get? b=some o ->h'.get? b=some o) ->(∃o',h'.get? a=some o'/\o'.cls=oa.cls) ->E (.ref a) {s with heap:=h'}):
   wpAny (model prog w) A (raiseNew (.ref a):Sem α) Q E s:=by
 unfold raiseNew
 refine wpAny_bind (wpAny_handled ?_)
 rcases hd with z|⟨x,ox,vs,z,e,d,n⟩
 . rw[z]
   exact wpAny_bind (wpAny_pure (wpAny_throw (h _ (fun b o _ e=>e) ⟨_,ha,rfl⟩)))
 . rw[z]
   have nx:x≠a:=by
     intro q
     rw[q,na] at e
     cases e
   dsimp only
   rw[if_pos (show(Value.ref x !=Value.ref a)=true by simpa using nx)]
   refine wpAny_bind (wpAny_holding (wpAny_runValue (codeAny_builtin A0s ?_)))
   unfold Builtin.«proto.unchain»
   dsimp only
   refine wpAny_bind (wpAny_field (k x ox e) d n ?_)
   rw[if_pos (by decide)]
   refine wpAny_pure ?_
   dsimp only
   unfold updateField
   refine wpAny_bind (wpAny_bind (wpAny_load ha ?_))
   rw[da]
   dsimp only
   rw[if_pos h2]
   refine wpAny_update ha (wpAny_throw (h _ (fun b o hb e=>(Heap.get?_update_other _ _ (Ne.symm hb)).trans e) ⟨_,Heap.get?_update_self _ ha (Obj.isFreed_of_fields (Obj.data_mapFields da _)),Obj.cls_mapFields _ _⟩))
theorem B1e{α:Type}{Q:α ->Shared ->Prop}(hd:Hd A s.heap)
   (h:∀h' e,(∀b o,s.heap.get? b=some o ->h'.get? b=some o) ->({s with heap:=h'}:Shared).TypeIs (.ref e) "StopIteration" ->E (.ref e) {s with heap:=h'}):
   wpAny (model prog w) A (newExc (.type "StopIteration") []>>=fun e=>(raiseNew e:Sem α)) Q E s:=by
 refine wpAny_bind ?_
 simp only[newExc,newTuple]
 refine wpAny_bind (wpAny_newObj_type ?_ (by size_fits));refine wpAny_bind (m:=firstArgMember _ _) (wpAny_of_eq (a:=Value.none) (by first|rfl|(simp only[firstArgMember];rfl)) ?_)
 refine wpAny_newObj_type ?_ (by size_fits);dsimp only
 have k1:∀(z:Obj) b o,s.heap.get? b=some o ->(s.heap.push z).get? b=some o:=fun z b o e=>Heap.get?_push_of_some _ e
 have k2:∀(z y:Obj) b o,s.heap.get? b=some o ->((s.heap.push z).push y).get? b=some o:=fun z y b o e=>Heap.get?_push_of_some _ (Heap.get?_push_of_some _ e)
 have nw:∀(z:Obj),s.heap.get? (s.heap.push z).objs.size=none:=fun z=>Heap.get?_none_of_le (by rw[Heap.size_push];exact Nat.le_succ _)
 refine A7n (s:={s with heap:=_}) (h₀:=s.heap) hd (k2 _ _) (nw _) (Heap.get?_push_size _ rfl) rfl (by show 2<6;decide) fun h' k ⟨o',e',c'⟩=>h h' _ (fun b o e=>?_) ⟨o',e',c'⟩
 refine k b o ?_ (k2 _ _ b o e)
 intro q;rw[q,nw] at e;cases e
theorem A1y{it l:Addr}{i:Nat}{items:Array Value}{Q:Option Value ->Shared ->Prop}(hd:∀h':Heap,Heap.ExtBut it s.heap h' ->Hd A h')
   (hit:s.heap.IsListIter it l i) (hl:s.heap.IsList l items) (hx:items[i]?=none)
   (hQ:∀h',Heap.ExtBut it s.heap h' ->Q none {s with heap:=h'}):wpAny (model prog w) A (pyNext (.ref it)) Q E s:=by
 obtain⟨o,ho,hc,dt⟩:=id hit
 obtain⟨ol,hol,_,nl,dl⟩:=hl
 unfold pyNext
 refine wpAny_bind (wpAny_attempt (wpAny_callSpecial?_slot (name:=Str.ofString "__next__") hit.typeIs slot_listiter_next (wpAny_call_entry slot_listiter_next hit.typeIs entry_listiter_next ?_ (args_listiter_next _))))
 show wpAny _ _ (field (.ref it) 0>>=_) _ _ _;refine wpAny_bind (wpAny_field ho dt (x:= .ref l) rfl ?_)
 show wpAny _ _ (if(Value.ref l==Value.none)=true then _ else _) _ _ _;rw[if_neg (show¬((Value.ref l==Value.none)=true) by simp)]
 show wpAny _ _ (field (.ref it) 1>>=_) _ _ _;refine wpAny_bind (wpAny_field ho dt (x:= .int i 0) rfl ?_)
 show wpAny _ _ (seqItems? (.ref l)>>=_) _ _ _;refine wpAny_bind (wpAny_seqItems hol dl ?_)
 simp only[Int.toNat_natCast,hx]
 refine wpAny_bind (wpAny_rule (wpAny_bind (wpAny_setField ho dt (by simp) ?_)))
 have up:=fun f=>(Heap.SameBut.update (a:=it) (h:=s.heap) (f:=f)).extBut
 refine B1e (s:={s with heap:=_}) (A:=A.in1) (hd _ (up _)) fun h' e k ty=>?_
 refine wpAny_bind (wpAny_isInstance (T:="StopIteration") (b:=true) ty isSubtype_stop ?_)
 exact wpAny_pure (hQ h' fun b o hb z=>k b o (up _ b o hb z))
theorem A0a{it t:Addr}{i:Nat}{items:Array Value}{Q:Option Value ->Shared ->Prop}(hd:∀h':Heap,Heap.ExtBut it s.heap h' ->Hd A h')
   (hit:IsTupIter s.heap it t i) (hl:IsTup s.heap t items) (hx:items[i]?=none)
   (hQ:∀h',Heap.ExtBut it s.heap h' ->Q none {s with heap:=h'}):wpAny (model prog w) A (pyNext (.ref it)) Q E s:=by
 obtain⟨o,ho,hc,dt⟩:=id hit
 obtain⟨ol,hol,_,nl,dl⟩:=hl
 unfold pyNext
 refine wpAny_bind (wpAny_attempt (wpAny_callSpecial?_slot (name:=Str.ofString "__next__") hit.typeIs slot_tupleiter_next (wpAny_call_entry slot_tupleiter_next hit.typeIs entry_tupleiter_next ?_ (args_tupleiter_next _))))
 show wpAny _ _ (field (.ref it) 0>>=_) _ _ _;refine wpAny_bind (wpAny_field ho dt (x:= .ref t) rfl ?_)
 show wpAny _ _ (if(Value.ref t==Value.none)=true then _ else _) _ _ _;rw[if_neg (show¬((Value.ref t==Value.none)=true) by simp)]
 show wpAny _ _ (field (.ref it) 1>>=_) _ _ _;refine wpAny_bind (wpAny_field ho dt (x:= .int i 0) rfl ?_)
 show wpAny _ _ (seqItems? (.ref t)>>=_) _ _ _;refine wpAny_bind (wpAny_seqItems hol dl ?_)
 simp only[Int.toNat_natCast,hx]
 refine wpAny_bind (wpAny_rule (wpAny_bind (wpAny_setField ho dt (by simp) ?_)))
 have up:=fun f=>(Heap.SameBut.update (a:=it) (h:=s.heap) (f:=f)).extBut
 refine B1e (s:={s with heap:=_}) (A:=A.in1) (hd _ (up _)) fun h' e k ty=>?_
 refine wpAny_bind (wpAny_isInstance (T:="StopIteration") (b:=true) ty isSubtype_stop ?_)
 exact wpAny_pure (hQ h' fun b o hb z=>k b o (up _ b o hb z))
theorem B2y{t:Addr}{items:Array Value}{targets:List (Bool×(Value ->Sem Unit))}{Q:Unit ->Shared ->Prop}(hd:Hd A s.heap)(ht:IsTup s.heap t items)
   (hn:targets.length=items.size) (hst:targets.findIdx? (·.1)=none)
   (h:∀h',Heap.ExtBut s.heap.objs.size s.heap h' ->wpAny (model prog w) A (assignInOrder (targets.map (·.2)) items.toList) Q E {s with heap:=h'}):
   wpAny (model prog w) A (unpack (.ref t) targets) Q E s:=by
 have ne:t≠s.heap.objs.size:=by obtain⟨o,ho,_⟩:=ht;exact Nat.ne_of_lt (Heap.lt_size ho)
 unfold unpack
 rw[hn,hst]
 refine wpAny_bind (wpAny_holding ?_)
 unfold unpackItems
 refine wpAny_bind ?_
 unfold notIterableAtAll
 refine wpAny_bind (wpAny_specialOf ht.typeIs slot_tuple_iter.lookup (wpAny_pure ?_))
 simp only[Bool.false_eq_true,if_false]
 refine wpAny_bind (wpAny_holding (iter_tuple ht (wpAny_bind (wpAny_holding (draw_tuple ne items.size 0 _ _ ⟨_,Heap.get?_push_size _ rfl,rfl,rfl⟩ (ht.push _) (by omega) fun g hit sb=>?_)))))
 have all:List.take items.size (List.drop 0 items.toList)=items.toList:=List.take_of_length_le (by simp)
 rw[all,if_neg (by simp)]
 have old:∀b o,b≠s.heap.objs.size ->s.heap.get? b=some o ->g.get? b=some o:=fun b o hb e=>sb.extBut b o hb (Heap.get?_push_of_some _ e)
 refine wpAny_bind (wpAny_holding (A0a (fun h' k=>hd.keeps fun b o e=>?_) hit ((ht.push _).extBut sb.extBut ne) (by simp) fun h₂ he₂=>?_))
 . have nb:b≠s.heap.objs.size:=Nat.ne_of_lt (Heap.lt_size e)
   exact k b o nb (old b o nb e)
 . simp only[Option.isSome_none,Bool.false_eq_true,if_false]
   exact wpAny_pure (h h₂ fun b o hb e=>he₂ b o hb (old b o hb e))
end
theorem ObjOk.there{P:Program}{w:World}{H:Hp}{h:Heap}{a:Addr}{o:HO}(x:ObjOk P w H h a o):∃u,h.get? a=some u:=by
 cases o with
 |lst xs=>obtain⟨_,_,_,_,e⟩:=x;exact⟨_,e⟩
 |tup xs=>obtain⟨_,_,_,_,e,_⟩:=x;exact⟨_,e⟩
 |dK kvs=>obtain⟨_,_,_,_,o,_,_,e,_⟩:=x;exact⟨_,e⟩
 |dT kvs=>obtain⟨_,_,_,_,o,_,_,e,_⟩:=x;exact⟨_,e⟩
 |set S n=>obtain⟨o,_,_,_,e,_⟩:=x;exact⟨_,e⟩
 |ins C dx fs=>obtain⟨_,_,_,e,_⟩:=x;exact⟨_,e⟩
 |own y=>obtain⟨_,e⟩:=x;exact⟨_,e⟩
 |xd fs=>obtain⟨_,⟨_,_,_,e,_⟩,_⟩:=x;exact⟨_,e⟩
 |rng lo hi=>obtain⟨_,_,_,e⟩:=x;exact⟨_,e⟩
 |frz ob u=>obtain⟨e,_⟩:=x;exact⟨_,e⟩
 |tbl ps=>exact⟨_,show h.get? a=some _ from x⟩
 |met f y=>exact⟨_,show h.get? a=some _ from x⟩
 |ext φ=>obtain⟨_,e,_⟩:=x;exact e
theorem HOk.new{P:Program}{w:World}{H:Hp}{h:Heap}{a:Addr}(x:HOk P w H h)(e:h.get? a=none):H a=none:=by
 cases q:H a with
 |none=>rfl
 | some u=>
   obtain⟨o,z⟩:=(x a u q).there
   rw[e] at z
   cases z
structure Nw(X:Cx)(pins:List (Addr×Obj))(H:Hp)(b:Addr):Prop where
 un:H b=none
 loc:b≠X.env.locals
 fs:b ∉ X.fs
 old:X.s₀.heap.get? b=none
 cell:∀x c,X.env.cells.lookup x=some c ->c≠b
 pin:∀p∈X.pn++pins,p.1≠b
section
variable{X:Cx}{pins:List (Addr×Obj)}{σ:St}{H H':Hp}{s s':Shared}{a b:Addr}{t:XT}{C:Value}{dd:Option Addr}
theorem Inv.fsFree(I:Inv X pins σ H s):∀b∈X.fs,H b=none:=fun b hb=>I.stkFree b (by
 rcases I.ok.stk with z|⟨z,zf⟩
 . rw[z];exact hb
 . rw[z]
   unfold frs
   rw[List.filterMap_cons,zf]
   exact List.mem_cons_of_mem _ hb)
theorem Inv.nw(I:Inv X pins σ H s)(hex:X.ex=[])(e:s.heap.get? b=none)(hu:H' b=none):Nw X pins H' b:=by
 refine⟨hu,?_,?_,?_,?_,?_⟩
 . rintro rfl
   obtain⟨m,⟨o,_,_,ho,_⟩,_⟩:=I.loc
   rw[e] at ho
   cases ho
 . intro hb
   obtain⟨_,o,ho,_⟩:=I.funs.mem hb
   rw[e] at ho
   cases ho
 . cases q:X.s₀.heap.get? b with
   |none=>rfl
   | some o=>
     obtain⟨o',z⟩:=I.base.there b o q (by rw[hex];simp)
     rw[e] at z
     cases z
 . rintro x c h rfl
   obtain⟨v,o,ho,_⟩:=I.cell x c h
   rw[e] at ho
   cases ho
 . rintro p hp rfl
   obtain⟨z,_⟩:=I.pin p hp
   rw[e] at z
   cases z
theorem Inv.stepN{h':Heap}{ch:List Addr}(I:Inv X pins σ H s)(hch:∀b∈ch,Nw X pins H b)
   (keep:∀b o,b≠X.env.locals ->b ∉ X.fs ->b ∉ ch ->s.heap.get? b=some o ->h'.get? b=some o)
   (slot:∀b o,b ∉ ch ->s.heap.get? b=some o ->∃sl,h'.get? b=some {o with slots:=sl}):Inv X pins σ H {s with heap:=h'}:=by
 have neL:∀b o,X.s₀.heap.get? b=some o ->b≠X.env.locals:=fun b o e=>Nat.ne_of_lt (Nat.lt_of_lt_of_le (Heap.lt_size e) I.ok.above)
 have neC:∀b o,X.s₀.heap.get? b=some o ->b ∉ ch:=fun b o e hb=>by
   have z:=(hch b hb).old
   rw[e] at z
   cases z
 have cellK:∀x c,X.env.cells.lookup x=some c ->∀v,s.heap.IsCell c v ->h'.IsCell c v:=fun x c e v ⟨o,ho,hd⟩=>by
   have nch:c ∉ ch:=fun z=>(hch c z).cell x c e rfl
   obtain⟨sl,q⟩:=slot c o nch ho
   exact⟨_,q,hd⟩
 refine⟨I.ok,I.os,I.bare,⟨fun b o e n hb hx=>?_,fun b o e n hb hx=>?_,I.base.free,fun b o e hx=>?_,I.base.tups,I.base.frzs,I.base.tbls⟩,?_,fun x c e=>?_,I.free,I.freeC,fun p hp=>?_,?_,I.len⟩
 . exact keep b o (neL b o e) hb (neC b o e) (I.base.keep b o e n hb hx)
 . obtain⟨sl,e1⟩:=I.base.slot b o e n hb hx
   obtain⟨sl',e2⟩:=slot b _ (neC b o e) e1
   exact⟨sl',e2⟩
 . obtain⟨o',e1⟩:=I.base.there b o e hx
   obtain⟨sl',e2⟩:=slot b _ (neC b o e) e1
   exact⟨_,e2⟩
 . obtain⟨m,hn,hl⟩:=I.loc
   refine⟨m,?_,fun i x v e1 e2 e3=>?_⟩
   . obtain⟨o,es,ep,ho,r⟩:=hn
     obtain⟨sl,q⟩:=slot _ o (fun z=>(hch _ z).loc rfl) ho
     exact⟨_,es,ep,q,r⟩
   . obtain⟨u,r,l⟩:=hl i x v e1 e2 e3
     refine⟨u,r,?_⟩
     rcases l with l|⟨k,c,e,z⟩
     . exact .inl l
     . exact .inr ⟨k,c,e,cellK x c e _ z⟩
 . obtain⟨v,z⟩:=I.cell x c e
   exact⟨v,cellK x c e v z⟩
 . obtain⟨e,n,ne,nf,d⟩:=I.pin p hp
   exact⟨keep p.1 p.2 ne nf (fun z=>(hch p.1 z).pin p hp rfl) e,n,ne,nf,d⟩
 . intro c o e
   have tr:∀b,H b≠none ->∀u,s.heap.get? b=some u ->h'.get? b=some u:=fun b hb u q=>
     keep b u (fun z=>hb (by rw[z];exact I.free)) (fun z=>hb (I.fsFree b z)) (fun z=>hb (hch b z).un) q
   refine(I.hok c o e).stay (fun b u hb q=>tr b ?_ u q) (fun _ q=>q) fun _ _ q=>q
   rcases hb with rfl|hb
   . rw[e];simp
   . rw[hb];simp
noncomputable def Flt (X:Cx) (pins:List (Addr×Obj)) (H:Hp) (s:Shared) (a:Addr) (C:Value) (t:XT) (dd:Option Addr):Prop:=
 Nw X pins H a/\∃tb,s.heap.get? a=some (Y2 C t dd tb)/\C0m s.heap a tb/\∀T,tb= .ref T ->Nw X pins H T
noncomputable def FltAt (X:Cx) (pins:List (Addr×Obj)) (H:Hp) (s:Shared) (a:Addr) (C:Value) (t:XT) (dd:Option Addr) (fl:Value):Prop:=
 Nw X pins H a/\∃T oT ts,s.heap.get? a=some (Y2 C t dd (.ref T))/\T≠a/\Nw X pins H T/\s.heap.get? T=some oT/\oT.data= .fields ts/\ts[3]?=some fl
structure Body(X:Cx):Prop where
 ex:X.ex=[]
 st:X.stack=X.env::X.outer
 fr:X.env.frame=some X.env.locals
theorem FltAt.flt(F:FltAt X pins H s a C t dd .none):Flt X pins H s a C t dd:=by
 obtain⟨n,T,oT,ts,e,ne,nT,eT,dT,h3⟩:=F
 exact⟨n,_,e,.inr ⟨T,oT,ts,rfl,ne,eT,dT,h3⟩,fun T' z=>by cases z;exact nT⟩
noncomputable def A8f:Value ->List Addr
 | .ref z=>[z]
 |_=>[]
theorem A3h{M:Model}{E:Value ->Shared ->Prop}{Q:Unit ->Shared ->Prop}(B:Body X)(I:Inv X pins σ H s)(F:Flt X pins H s a C t dd)
   (k:∀s',Inv X pins σ H s' ->FltAt X pins H s' a C t dd (rawInt X.env.locals) ->Q () s'):wpAny M X.A (noteFrame (.ref a) X.env) Q E s:=by
 obtain⟨na,tb,e,ht,nT⟩:=F
 have hfr:=I.ok.frames
 rw[B.st] at hfr
 have hl:=I.stack
 rw[B.st] at hl
 refine B9p hfr hl B.fr e ht fun h' T k1 k2 k3 k4 k5 k6=>?_
 have ch:∀b,b ∉ a::A8f tb ->b≠a/\tb≠ .ref b:=by
   intro b hb
   refine⟨fun z=>hb (by rw[z];exact List.mem_cons_self),fun z=>hb ?_⟩
   rw[z]
   exact List.mem_cons_of_mem _ (List.mem_singleton.mpr rfl)
 have I':Inv X pins σ H {s with heap:=h'}:=by
   refine I.stepN (ch:=a::A8f tb) (fun b hb=>?_) (fun b o h1 h2 h3 q=>k1 b o ?_ (ch b h3).1 (ch b h3).2 q) (fun b o h3 q=>k2 b o (ch b h3).1 (ch b h3).2 q)
   . rcases List.mem_cons.mp hb with rfl|hb
     . exact na
     . cases tb<;>simp[A8f] at hb
       subst hb
       exact nT _ rfl
   . intro z
     rw[List.filterMap_cons,B.fr] at z
     rcases List.mem_cons.mp z with z|z
     . exact h1 z
     . exact h2 z
 obtain⟨oT,ts,q1,q2,q3⟩:=k6
 exact k _ I' ⟨na,T,oT,ts,k5,k4,I.nw B.ex k3 (I.hok.new k3),q1,q2,q3⟩
theorem A0e{M:Model}{A:Around}{E:Value ->Shared ->Prop}{Q:Unit ->Shared ->Prop}{fl:Value}(I:Inv X pins σ H s)(F:FltAt X pins H s a C t dd fl)
   (k:∀s',Inv X pins σ H s' ->FltAt X pins H s' a C t dd .none ->Q () s'):wpAny M A (setFlight (.ref a) none) Q E s:=by
 obtain⟨na,T,oT,ts,e,ne,nT,eT,dT,h3⟩:=F
 refine B9s e ne eT dT h3 fun h' k1 k2=>?_
 have I':Inv X pins σ H {s with heap:=h'}:=I.stepN (ch:=[T]) (fun b hb=>by
   have:b=T:=by simpa using hb
   subst this
   exact nT) (fun b o _ _ hb q=>k1 b o (fun z=>hb (by simp[z])) q) (fun b o hb q=>⟨_,k1 b o (fun z=>hb (by simp[z])) q⟩)
 rcases k2 with z|⟨T',oT',ts',z,_,q1,q2,q3⟩
 . cases z
 . cases z
   exact k _ I' ⟨na,T,oT',ts',k1 a _ (Ne.symm ne) e,ne,nT,q1,q2,q3⟩
theorem A4p{M:Model}{E:Value ->Shared ->Prop}{Q:Unit ->Shared ->Prop}(B:Body X)(I:Inv X pins σ H s)(F:Flt X pins H s a C t dd)
   (k:∀s',Inv X pins σ H s' ->FltAt X pins H s' a C t dd .none ->Q () s'):wpAny M X.A (leaving X.env (.ref a)) Q E s:=by
 unfold leaving
 exact wpAny_bind (A3h B I F fun s1 I1 F1=>A0e I1 F1 k)
end
noncomputable abbrev EK:=Value ->Option Addr ->St ->Hp ->Prop
noncomputable def V1 (X:Cx) (EH:EK):Prop:=∀(pins:List (Addr×Obj)) (σ:St) (H:Hp) (s:Shared) (a t:Addr) (C:Value) (dd:Option Addr),Inv X pins σ H s ->Flt X pins H s a C t dd ->EH C dd σ H ->X.xe (.ref a) s
noncomputable def CX1 (P:Program) (w:World):CXT:=fun outer H s E e s'=>∃(a t:Addr) (C:Value) (dd:Option Addr) (H':Hp),e= .ref a/\s'.os=s.os/\AllBare s'.gens/\Un (frs outer) [] H H' s.heap s'.heap/\HOk P w H' s'.heap/\E C dd H'/\
 (s.heap.get? a=none/\H' a=none)/\∃T oT ts,s'.heap.get? a=some (Y2 C t dd (.ref T))/\T≠a/\(s.heap.get? T=none/\H' T=none)/\s'.heap.get? T=some oT/\oT.data= .fields ts/\ts[3]?=some .none
theorem A9s{P:Program}{w:World}{K:PySem.W.Frag}{mg:Str ->Option Value}{base:Heap}{N:List Str}{qual:Str}{scope:Scope}{f:Addr}{cd:Value}{A:Around}{outer:List Env}{s:Shared}{H:Hp}{E:XK}:
   V1 (A1m (CX1 P w) P w K mg base N qual scope f cd A outer s H E) (fun C dd _ H'=>E C dd H'):=by
 intro pins σ H' s' a t C dd I F h
 refine A4p (X:=A1m (CX1 P w) P w K mg base N qual scope f cd A outer s H E) ⟨rfl,rfl,rfl⟩ I F fun s2 I2 F2=>?_
 obtain⟨na,T,oT,ts,e,ne,nT,eT,dT,h3⟩:=F2
 exact⟨a,t,C,dd,H',rfl,I2.os,I2.bare,I2.base,I2.hok,h,⟨na.old,na.un⟩,T,oT,ts,e,ne,⟨nT.old,nT.un⟩,eT,dT,h3⟩
section
variable{X:Cx}{k:Nat}{f C:Addr}{fd:FuncData}{ps:List Str}{sp:Sp}{dvs:List V}{ds:List Value}{EH:EK}{x m:Str}{p pos apos:Pos}{e o:Expr}{es:List Expr}{ta:TE}{t:TA}
theorem C3s{pins:List (Addr×Obj)}{σ:St}{H:Hp}{s:Shared}{e:Value}{s':Shared}(hx:V1 X EH)(hex:X.ex=[])(I:Inv X pins σ H s)
   (h:CX1 X.prog X.w X.stack H s (fun C d H'=>EH C d σ H') e s'):X.xe e s':=by
 obtain⟨a,t,C,dd,H',rfl,os,bare,un,hok,hE,⟨a1,a2⟩,T,oT,ts,z,ne,⟨t1,t2⟩,eT,dT,h3⟩:=h
 have I':Inv X pins σ H' s':=I.call' (ch:=[]) os un hok bare (fun b q=>absurd q (by simp))
 exact hx pins σ H' s' a t C dd I' (FltAt.flt ⟨I.nw hex a1 a2,T,oT,ts,z,ne,I.nw hex t1 t2,eT,dT,h3⟩) hE
theorem B0p{pins:List (Addr×Obj)}{σ:St}{H:Hp}{s:Shared}{Q:VK}{us:List Value}{vs:List V}(F:FnOk X.prog X.w X.K X.mg X.base (CX1 X.prog X.w) k f fd ps sp)(hr:Room k X.A)(hb:Binds X.K fd ps ds)(hd:Vals dvs ds)
   (hx:V1 X EH) (hex:X.ex=[]) (I:Inv X pins σ H s) (r:Vals vs us) (h:sp (vs++dvs) H Q (fun C d H'=>EH C d σ H')):wpAny (model X.prog X.w) X.A (call (.ref f) us) (EP X pins σ Q) X.xe s:=by
 have r2:Vals (vs++dvs) (us++ds):=r.append hd
 have hl:(us++ds).length=ps.length:=by rw[<-r2.length];exact F.len _ _ _ _ h
 refine wpAny_call (codeAny_mono (F.run X.A X.stack s H ⟨us,[]⟩ (us++ds) (vs++dvs) Q _ hr I.env0 (hb s us I.kIn hl) r2 h) fun r s' hq=>?_)
 cases r with
 |error e=>exact C3s hx hex I hq
 | ok fl=>
   cases fl with
   |ret u=>exact I.after hq
   |next=>exact False.elim hq
   |brk=>exact False.elim hq
   |cont=>exact False.elim hq
noncomputable def A2c (sp:Sp) (dvs:List V) (EH:EK) (t:TA):TE:=fun σ H Q=>t σ H fun vs H1=>sp (vs++dvs) H1 Q (fun C d H'=>EH C d σ H')
theorem B4j(F:FnOk X.prog X.w X.K X.mg X.base (CX1 X.prog X.w) k f fd ps sp)(hr:Room k X.A)(hg:Gl X x)(hm:X.mg x=some (.ref f))(hk:PySem.W.keepIn X.K (.ref f)=true)(hb:Binds X.K fd ps ds)(hd:Vals dvs ds)
   (hx:V1 X EH) (ha:PA X (e::es) t) (hex:X.ex=[]:=by rfl) (hdb:(x==("__debug__":Str))=false:=by decide) (he:starEach (e::es) X.env=(false,eval e X.env)::starEach es X.env:=by rfl)
   (hpl:(backTo pos (starEach es X.env)).any (·.1)=false:=by rfl):PE X (.Call (.Name x p) (e::es) [] pos) (A2c sp dvs EH t):=by
 intro pins s σ H Q I h
 refine wpAny_Call_Name_kw (V4 I hg hm ?_ hdb)
 refine PySem.W.callWith_K (h₀:=X.base) I.ok.mod.kin hk (thn (ha pos pins s σ H _ I h) fun us s1 ⟨vs,H1,I1,r,q⟩=>⟨I1.kIn,?_⟩) he hpl
 exact B0p F hr hb hd hx hex I1 r q
theorem B2s(F:FnOk X.prog X.w X.K X.mg X.base (CX1 X.prog X.w) k f fd ps sp)(hr:Room k X.A)(hg:Gl X x)(hm:X.mg x=some (.ref f))(hk:PySem.W.keepIn X.K (.ref f)=true)(hb:Binds X.K fd ps ds)(hd:Vals dvs ds)
   (hx:V1 X EH) (hex:X.ex=[]:=by rfl) (hdb:(x==("__debug__":Str))=false:=by decide):PE X (.Call (.Name x p) [] [] pos) (A2c sp dvs EH B5d):=by
 intro pins s σ H Q I h
 refine wpAny_Call_Name_kw (V4 I hg hm ?_ hdb)
 exact PySem.W.callWith_K0 I.kIn hk (B0p (us:=[]) F hr hb hd hx hex I .nil h)
end
section
variable{P:Program}{w:World}{K:PySem.W.Frag}{mg:Str ->Option Value}{base:Heap}
theorem Fun.okE{x qual:Str}{st:Stmt}{f:Addr}{fd:FuncData}{N ps:List Str}{k:Nat}{sp:Sp}(F:Fun K x qual st f fd)(S:FnScope N ps (A7 st))(len:∀vs H Q E,sp vs H Q E ->vs.length=ps.length)
   (hbody:∀(X:Cx) (cdv:Value) (A:Around) (outer:List Env) (s:Shared) (H:Hp) (vs:List V) (Q:VK) (E:XK),X=A1m (CX1 P w) P w K mg base N qual (A7 st) f cdv A outer s H E ->Room k X.A ->V1 X (fun C dd _ H'=>E C dd H') ->sp vs H Q E ->
     ∃t,PSs (A1m (CX1 P w) P w K mg base N qual (A7 st) f cdv A outer s H E) (D7 st) t/\t {nx:=fun _ H'=>Q .non H',rt:=Q} (A0t N vs) H):FnOk P w K mg base (CX1 P w) (k+1) f fd ps sp:=by
 obtain⟨oc,od,kV,doc,pm,an,cdv,ct,osl,rfl,lk,hc⟩:=F.ex
 exact B4y lk hc S len fun A outer s H vs Q E hr h=>hbody _ cdv A outer s H vs Q E rfl hr A9s h
theorem FnOk.up{k:Nat}{f:Addr}{fd:FuncData}{ps:List Str}{sp:Sp}(F:FnOk P w K mg base CX0 k f fd ps sp):FnOk P w K mg base (CX1 P w) k f fd ps sp:=by
 refine⟨F.len,fun A outer s H args us vs Q E hr e0 hb r h=>codeAny_mono (F.run A outer s H args us vs Q E hr e0 hb r h) fun r s' q=>?_⟩
 cases r with
 |error e=>exact False.elim q
 |ok fl=>cases fl<;>exact q
end
end L2
namespace L2
open PySem PySem.Spec PyProof.Rows PySem.W
theorem B0k{K:Frag}{h:Heap}{C:Addr}{bmB:List Value}{newId:String}(X:K.In h)(q:excIn K C bmB newId=true):
   ∃ (bm:List Value) (N:Addr) (nm qn:Str) (bs:List Value) (hd:Bool) (sn:List Str) (sub:List Value) (ab:Bool) (col:Option Bool) (dd:Option Addr) (k0 k1 k2 k3 k5:Option Value) (mN:Str ->Option Value),
     h.get? C=some (excClassObj nm qn C N bs bm hd sn sub ab col dd k0 k1 k2 k3 k5 newId)/\h.Ns N mN/\mN "__init__"=none/\OwnTail h bmB bm:=by
 unfold excIn at q
 split at q
 . rename_i dd cd sl ho
   split at q
   . rename_i C' bm k0 k1 k2 k3 n k5 hm hs
     simp only[Bool.and_eq_true,beq_iff_eq,Bool.not_eq_true'] at q
     obtain⟨⟨⟨⟨⟨r1,r2⟩,r3⟩,r4⟩,r5⟩,r6⟩:=q
     subst r1 r2
     obtain⟨a1,a2,a3,a4,a5,a6,a7,a8,a9,a10,a11⟩:=cd
     dsimp only at hm r3 r5 r6
     subst hm r3
     have hsl:sl= #[k0,k1,k2,k3,some (.builtin n),k5]:=by
       obtain⟨l⟩:=sl
       simp only at hs
       rw[hs]
     subst hsl
     exact⟨bm,a4,a1,a5,a2,a6,a7,a8,a9,a10,dd,k0,k1,k2,k3,k5,_,X _ _ ho,.of_isNs (isNs_of_in X r5),nsMap_none_of_in X r5 r6,tail_of_in X r4⟩
   . cases q
 . cases q
section
variable{X:Cx}{x:Str}{p cpos pos:Pos}{e:Expr}{es:List Expr}{t:TA}{C:Addr}{bmB:List Value}{B newId initId:String}{EH:EK}
noncomputable def C0n (C:Addr) (EH:EK) (t:TA):TS:=fun _ σ H=>t σ H fun vs H1=>vs.length<=sizeLine/\EH (.ref C) none σ H1
theorem Y8(hg:Gl X x)(hm:X.mg x=some (.ref C))(q:excIn X.K C bmB newId=true)(FB:ExcBaseFacts B newId initId bmB)(hh:X.A.handled=none)(hx:V1 X EH)(ha:PA X (e::es) t)(hex:X.ex=[]:=by rfl)
   (hdb:(x==("__debug__":Str))=false:=by decide) (he:starEach (e::es) X.env=(false,eval e X.env)::starEach es X.env:=by rfl) (hpl:(backTo cpos (starEach es X.env)).any (·.1)=false:=by rfl):
   PS X (.Raise (some (.Call (.Name x p) (e::es) [] cpos)) none pos) (C0n C EH t):=by
 intro pins s σ H D I h
 obtain⟨bm,N,nm,qn,bs,hd,sn,sub,ab,col,dd,k0,k1,k2,k3,k5,mN,hC,hN,hni,T⟩:=B0k I.ok.mod.kin q
 refine wpAny_Raise_call_subT (C:=C) (nm:=nm) (q:=qn) (N:=N) (bs:=bs) (bm:=bm) (hdct:=hd) (sn:=sn) (sub:=sub) (ab:=ab) (col:=col) (dd:=dd) (k0:=k0) (k1:=k1) (k2:=k2) (k3:=k3) (k5:=k5) FB (mN:=mN) (T.hasType FB.hasBase) hh
   (by rw[he];show(false||(backTo cpos (starEach es X.env)).any (·.1))=false;rw[hpl];rfl) hni (V4 I hg hm ⟨rfl,?_⟩ hdb)
 have ha':=ha cpos pins s σ H _ I h
 rw[he] at ha' ⊢
 refine Calls.evalArgs_plain (wpAny_mono ha' (fun us s2 ⟨vs,H1,I1,r,z,q⟩=>⟨rfl,by rw[<-r.length];exact z,I1.bk _ _ hC,hN.keeps I1.bk,T.keeps I1.bk,fun h' a m=>?_⟩) fun _ _ y=>y)
 have I2:Inv X pins σ H1 {s2 with heap:=h'}:=I1.kept (t':=s2.toks) m.keeps
 obtain⟨t',e1,tn,e2⟩:=m.there
 exact hx pins σ H1 _ a t' (.ref C) none I2 ⟨I1.nw hex m.new (I1.hok.new m.new),.none,e1,.inl rfl,fun T z=>nomatch z⟩ q
end
section
variable{X:Cx}{pins:List (Addr×Obj)}{σ:St}{H:Hp}{s:Shared}
theorem Inv.track{a:Addr}{o:Obj}(I:Inv X pins σ H s)(n:Nw X pins H a)(e:s.heap.get? a=some o):Inv X pins σ (upd H a (.frz o (.own a))) s:=by
 have ne:∀b u,H b=some u ->b≠a:=fun b u z q=>by rw[q,n.un] at z;cases z
 have up:∀b,b≠a ->upd H a (.frz o (.own a)) b=H b:=fun b hb=>D3 hb
 refine⟨I.ok,I.os,I.bare,⟨I.base.keep,I.base.slot,fun b u z m hx=>?_,I.base.there,fun b xs z=>?_,fun b u v z=>?_,fun b ps z=>?_⟩,I.loc,I.cell,?_,fun x c z=>?_,fun p hp=>?_,fun b u z=>?_,I.len⟩
 . rw[up b fun q=>by rw[q,n.old] at z;cases z]
   exact I.base.free b u z m hx
 . have:=I.base.tups b xs z
   rw[up b (ne b _ this)];exact this
 . have:=I.base.frzs b u v z
   rw[up b (ne b _ this)];exact this
 . obtain⟨more,this⟩:=I.base.tbls b ps z
   exact⟨more,by rw[up b (ne b _ this)];exact this⟩
 . rw[up _ (Ne.symm n.loc)];exact I.free
 . rw[up _ (n.cell x c z)];exact I.freeC x c z
 . obtain⟨q1,q2,q3⟩:=I.pin p hp
   exact⟨q1,by rw[up _ (n.pin p hp)];exact q2,q3⟩
 . by_cases hb:b=a
   . subst hb
     rw[A9] at z
     cases z
     exact⟨e,_,e⟩
   . rw[up b hb] at z
     exact(I.hok b u z).stay (fun _ _ _ q=>q) (fun c q=>by rw[up c (ne c _ q)];exact q) (fun c xs q=>by rw[up c (ne c _ q)];exact q)
theorem B2g{M:Model}{A:Around}{E:Value ->Shared ->Prop}{i:Nat}{x:Str}{v:V}{Q:Unit ->Shared ->Prop}(I:Inv X pins σ H s)(hN:X.N.Nodup)(hi:X.N[i]?=some x)(hk:X.env.scope.names.lookup x=some .local)(hv:σ[i]?=some (some v))
   (k:∀s',Inv X pins (σ.set i none) H s' ->Q () s'):wpAny M A (unbindName X.env x) Q E s:=by
 obtain⟨m,hn,hl⟩:=id I.loc
 have hcls:(X.env.scope.kind== .class||(X.env.scope.kind== .module&&X.env.locals !=X.env.globals))=false:=by rw[I.ok.kind];rfl
 obtain⟨u,_,lk⟩:=hl i x v hi hv (.inl hk)
 have hm:m x=some u:=by
   rcases lk with⟨_,z⟩|⟨z,_⟩
   . exact z
   . have z:X.env.scope.names.lookup x=some .cell\/X.env.scope.names.lookup x=some .free:=z
     rw[hk] at z
     rcases z with z|z<;>cases z
 refine wpAny_unbindName_local hk hn hm hcls fun h' w' hn' hs=>k _ ?_
 obtain⟨oL,_,_,hoL,_⟩:=id hn
 have nl:∀b o,X.s₀.heap.get? b=some o ->b≠X.env.locals:=fun b o e=>Nat.ne_of_lt (Nat.lt_of_lt_of_le (Heap.lt_size e) I.ok.above)
 refine⟨I.ok,I.os,I.bare,⟨fun b o e n hb hx=>?_,fun b o e n hb hx=>?_,I.base.free,fun b o e hx=>?_,I.base.tups,I.base.frzs,I.base.tbls⟩,⟨_,hn',fun j y v' e1 e2 e3=>?_⟩,fun y c e=>?_,I.free,I.freeC,fun p hp=>?_,fun b u z=>?_,by simpa using I.len⟩
 . exact(hs.2 b (nl b o e)).trans (I.base.keep b o e n hb hx)
 . obtain⟨sl,e1⟩:=I.base.slot b o e n hb hx
   exact⟨sl,(hs.2 b (nl b o e)).trans e1⟩
 . obtain⟨o',e1⟩:=I.base.there b o e hx
   exact⟨o',(hs.2 b (nl b o e)).trans e1⟩
 . by_cases hj:j=i
   . subst hj
     have hlen:j<σ.length:=(List.getElem?_eq_some_iff.mp hv).1
     rw[List.getElem?_set_self hlen] at e2
     cases e2
   . rw[List.getElem?_set_ne (Ne.symm hj)] at e2
     obtain⟨u',r',q⟩:=hl j y v' e1 e2 e3
     refine⟨u',r',?_⟩
     rcases q with⟨k1,e⟩|⟨k1,c,e,z⟩
     . have:y≠x:=fun e=>hj (A3g hN e1 (e▸hi))
       exact .inl ⟨k1,by simp[this,e]⟩
     . exact .inr ⟨k1,c,e,z.sameBut hs (I.cne y c e)⟩
 . obtain⟨w2,z⟩:=I.cell y c e
   exact⟨w2,z.sameBut hs (I.cne y c e)⟩
 . obtain⟨e,n,ne,nf,d⟩:=I.pin p hp
   exact⟨(hs.2 p.1 ne).trans e,n,ne,nf,d⟩
 . refine(I.hok b u z).stay (fun c w2 hc q=>(hs.2 c ?_).trans q) (fun _ q=>q) fun _ _ q=>q
   rintro rfl
   rcases hc with rfl|hc
   . rw[I.free] at z;cases z
   . rw[I.free] at hc;cases hc
end
noncomputable abbrev Cx.hold (X:Cx) (pins:List (Addr×Obj)) (E:Value ->Shared ->Prop):Cx:={X with pn:=X.pn++pins,xe:=E}
noncomputable abbrev Cx.hnd (X:Cx) (pins:List (Addr×Obj)) (a:Addr):Cx:={X with A:=X.A.mark (some (.ref a)),calm:=false,pn:=X.pn++pins,xe:=fun _ _=>False}
section
variable{X:Cx}{pins pins':List (Addr×Obj)}{σ:St}{H:Hp}{s:Shared}{a:Addr}{E:Value ->Shared ->Prop}
theorem Inv.hold(I:Inv X pins σ H s):Inv (X.hold pins E) [] σ H s:=
 ⟨⟨I.ok.mod,I.ok.kind,I.ok.glob,I.ok.blt,I.ok.above,I.ok.inj,I.ok.has,I.ok.cab,I.ok.hd,I.ok.frames,I.ok.stk,I.ok.exf,I.ok.bs,I.ok.bsz,I.ok.noex,I.ok.exfs,I.ok.funs,I.ok.frf⟩,
   I.os,I.bare,I.base,I.loc,I.cell,I.free,I.freeC,fun p hp=>I.pin p (by simpa using hp),I.hok,I.len⟩
theorem Inv.unhold(I:Inv (X.hold pins E) pins' σ H s):Inv X pins σ H s:=
 ⟨⟨I.ok.mod,I.ok.kind,I.ok.glob,I.ok.blt,I.ok.above,I.ok.inj,I.ok.has,I.ok.cab,I.ok.hd,I.ok.frames,I.ok.stk,I.ok.exf,I.ok.bs,I.ok.bsz,I.ok.noex,I.ok.exfs,I.ok.funs,I.ok.frf⟩,
   I.os,I.bare,I.base,I.loc,I.cell,I.free,I.freeC,fun p hp=>I.pin p (List.mem_append_left _ hp),I.hok,I.len⟩
theorem Inv.hnd(I:Inv X pins σ H s):Inv (X.hnd pins a) [] σ H s:=
 ⟨⟨I.ok.mod,I.ok.kind,I.ok.glob,I.ok.blt,I.ok.above,I.ok.inj,I.ok.has,I.ok.cab,(fun z=>nomatch z),I.ok.frames,I.ok.stk,I.ok.exf,I.ok.bs,I.ok.bsz,I.ok.noex,I.ok.exfs,I.ok.funs,I.ok.frf⟩,
   I.os,I.bare,I.base,I.loc,I.cell,I.free,I.freeC,fun p hp=>I.pin p (by simpa using hp),I.hok,I.len⟩
theorem Inv.unhnd(ok:X.Ok)(I:Inv (X.hnd pins a) pins' σ H s):Inv X pins σ H s:=
 ⟨ok,I.os,I.bare,I.base,I.loc,I.cell,I.free,I.freeC,fun p hp=>I.pin p (List.mem_append_left _ hp),I.hok,I.len⟩
theorem Nw.unhold{b:Addr}(n:Nw (X.hold pins E) pins' H b):Nw X pins H b:=⟨n.un,n.loc,n.fs,n.old,n.cell,fun p hp=>n.pin p (List.mem_append_left _ hp)⟩
theorem Flt.unhold{t:XT}{C:Value}{dd:Option Addr}(F:Flt (X.hold pins E) pins' H s a C t dd):Flt X pins H s a C t dd:=by
 obtain⟨n,tb,e,ok,m⟩:=F
 exact⟨n.unhold,tb,e,ok,fun T z=>(m T z).unhold⟩
theorem SP.unhold{D:Ends}{f:Flow}{s':Shared}(h:SP (X.hold pins E) pins' D f s'):SP X pins D f s':=by
 cases f with
 |next=>obtain⟨σ',H',I,q⟩:=h;exact⟨σ',H',I.unhold,q⟩
 |brk=>obtain⟨σ',H',I,q⟩:=h;exact⟨σ',H',I.unhold,q⟩
 |cont=>obtain⟨σ',H',I,q⟩:=h;exact⟨σ',H',I.unhold,q⟩
 |ret u=>obtain⟨v,σ',H',I,r,q⟩:=h;exact⟨v,σ',H',I.unhold,r,q⟩
end
structure Clause(K:Frag)(R:Addr):Prop where
 ty:typeIn K (.ref R)=some (.type "type")
 cl:(clsIn K R).isSome=true
 ex:subIn K (.ref R) (.type "BaseException")=some true
theorem Z0{K:Frag}{M:Model}{h:Heap}{R:Addr}(X:K.In h)(c:(clsIn K R).isSome=true):Looks M h (isType (.ref R)) true:=by
 unfold clsIn at c
 split at c
 . rename_i ho
   intro A' Q' E' s' k q
   unfold isType loadHead
   exact wpAny_bind (wpAny_loadPart (k _ _ (X _ _ ho)) (wpAny_pure q))
 . cases c
theorem A4s{K:Frag}{M:Model}{A:Around}{E:Value ->Shared ->Prop}{s:Shared}{a R:Addr}{C:Value}{oa:Obj}{b:Bool}{Q:Bool ->Shared ->Prop}(X:K.In s.heap)(ha:s.heap.get? a=some oa)(hc:oa.cls=C)(c:Clause K R)
   (m:subIn K C (.ref R)=some b) (h:Q b s):wpAny M A (excMatches (.ref a) (.ref R)) Q E s:=by
 obtain⟨hp,g,d,tk,os⟩:=s
 have L1:Looks M hp (typeOf (.ref R)) (.type "type"):=looks_typeIn X c.ty
 have L2:Looks M hp (isSubtype (.ref R) (.type "BaseException")) true:=looks_subIn X c.ex
 have L3:Looks M hp (isSubtype C (.ref R)) b:=looks_subIn X m
 have L4:Looks M hp (typeOf (.ref a)) C:=hc▸(Looks.ld ha).andThen .now
 have L5:Looks M hp (isType (.ref R)) true:=Z0 X c.cl
 unfold excMatches
 unfold isInstance
 refine wpAny_bind (wpAny_bind (L1.at ?_))
 rw[tc_notTuple]
 refine wpAny_pure ?_
 simp only[Bool.false_eq_true,if_false]
 refine wpAny_bind (wpAny_pure ?_)
 simp only[List.forIn_cons,List.forIn_nil]
 unfold isExcClass
 refine wpAny_bind (wpAny_bind (wpAny_bind (wpAny_bind (L5.at ?_))))
 simp only[if_true]
 refine L2.at ?_
 simp only[Bool.not_true,Bool.false_eq_true,if_false]
 refine wpAny_pure (wpAny_pure ?_)
 refine wpAny_bind (L4.at ?_)
 refine wpAny_bind (wpAny_bind (wpAny_bind (L3.at ?_)))
 cases b with
 |true=>simp only[if_true];exact wpAny_pure (wpAny_pure (wpAny_pure h))
 |false=>simp only[Bool.false_eq_true,if_false];exact wpAny_pure (wpAny_pure (wpAny_pure h))
section
variable{X:Cx}{x n:Str}{np hpos pos:Pos}{R:Addr}{i:Nat}{body suite:List Stmt}{b₀:Stmt}{tb:EK ->TS}{ts:Addr ->TS}
end
structure ExcK(K:Frag)(C:Addr):Prop where
 ga:findIn K (.ref C) "__getattribute__"=some (some (.builtin "BaseException.__getattribute__"))
 gh:findIn K (.ref C) "__getattr__"=some none
 ca:findIn K (.ref C) "__class__"=some (some (.builtin "object.__class__"))
 sn:specialIn K (.builtin "object.__class__") "__get__"=some (some (.builtin "getset_descriptor.__get__"))
 tk:takesIn K (.builtin "object.__class__")=some true
 ob:mroIn K C (.type "object")=some true
 be:subIn K (.ref C) (.type "BaseException")=some true
 cl:(clsIn K C).isSome=true
theorem A0f{prog:Program}{w:World}{A:Around}{E:Value ->Shared ->Prop}{s:Shared}{K:Frag}{a C:Addr}{oa:Obj}{od:Option Obj}{Q:Option Value ->Shared ->Prop}(F:ExcK K C)(X:K.In s.heap)(I:PySem.W.InstAt s.heap a oa C od)
   (h:Q (some (.ref C)) {s with toks:=s.toks+1}):wpAny (model prog w) A (getAttr? (.ref a) "__class__") Q E s:=by
 obtain⟨hp,g,d,t,os⟩:=s
 have L0:=I.type (M:=model prog w)
 have L1:=looks_findIn (M:=model prog w) X F.ga
 have L2:=looks_findIn (M:=model prog w) X F.gh
 have L3:Looks (model prog w) hp (isInstance (.ref a) (.type "BaseException")) true:=L0.andThen (looks_subIn X F.be)
 have hf:findObj K C od "__class__"=some (.bind (.builtin "getset_descriptor.__get__") (.builtin "object.__class__")):=by
   obtain⟨cd,hc⟩:=Option.isSome_iff_exists.mp F.cl
   unfold findObj
   rw[hc,Option.bind_some,F.ca,Option.bind_some]
   simp[F.sn,F.tk]
 have L4:=looks_find (M:=model prog w) X I hf
 have hk:builtinKind "BaseException.__getattribute__"=some .slot:=by decide+kernel
 have hsplit:splitId "BaseException.__getattribute__"=some ("BaseException","__getattribute__"):=by decide+kernel
 have hargs:=PySem.F.args_bexc_ga (.ref a) (.str "__class__" t)
 have hb:=PySem.F.attr_ValueError.ga.bind (.ref a)
 unfold getAttr? getAttrBy? getAttrBy
 refine wpAny_bind (wpAny_mkText (wpAny_bind (wpAny_attempt (wpAny_holding (wpAny_bind (L0.at (wpAny_bind (L1.at ?_))))))))
 dsimp only
 rw[if_neg (show¬((onTheHeap (Value.ref C)&&Value.builtin "BaseException.__getattribute__"==Value.builtin "object.__getattribute__")=true) by
   rw[show(Value.builtin "BaseException.__getattribute__"==Value.builtin "object.__getattribute__")=false by decide+kernel,Bool.and_false];exact Bool.false_ne_true)]
 unfold getAttrByItsOwn
 refine wpAny_bind (m:=hookBefore (.ref C)) (L2.at ?_)
 refine wpAny_bind (wpAny_attempt (wpAny_holding ?_))
 unfold callGetattribute
 rw[if_neg (by decide)]
 unfold boundAndCalled
 rw[hb]
 refine wpAny_bind (wpAny_pure ?_)
 refine wpAny_call (codeAny_call_builtin PySem.F.attr_ValueError.ga.plain PySem.F.entry_bexc_ga ?_)
 have chk:∀{A':Around} {Q':Unit ->Shared ->Prop} {E':Value ->Shared ->Prop},Q' () ⟨hp,g,d,t+1,os⟩ ->wpAny (model prog w) A' (checkBuiltinCall "BaseException.__getattribute__" ⟨[.ref a,.str "__class__" t],[]⟩) Q' E' ⟨hp,g,d,t+1,os⟩:=by
   intro A' Q' E' hq
   simp only[checkBuiltinCall,hk,hsplit]
   refine wpAny_bind ?_
   refine L3.at ?_
   repeat (first|assumption|wp_step)
 refine chk ?_
 show wpAny _ _ (Builtin.«object.__getattribute__» ⟨[.ref a, .str "__class__" t], []⟩) _ _ _
 unfold Builtin.«object.__getattribute__»
 refine wpAny_bind (wpAny_pure ?_)
 refine wpAny_bind (wpAny_pure ?_)
 refine wpAny_bind (L0.at (wpAny_bind (L4.at ?_)))
 dsimp only
 show wpAny _ _ (holding [Value.builtin "object.__class__"] (call (.builtin "getset_descriptor.__get__") [.builtin "object.__class__",.ref a,.ref C])>>=ret) _ _ _
 refine wpAny_bind (wpAny_holding (wpAny_call (class_get (s:=⟨hp,g,d,t+1,os⟩) X I F.ob (wpAny_pure ?_))))
 exact handed_on rfl (wpAny_pure h)
noncomputable def U3 (X:Cx):Prop:=X.A.handled=none\/∃x o u vs,X.A.handled=some (.ref x)/\X.H₀ x=some (.frz o u)/\o.data= .fields vs/\vs[2]?=some .none
section
variable{X:Cx}{pins:List (Addr×Obj)}{σ:St}{H:Hp}{s:Shared}
theorem Inv.hdA(I:Inv X pins σ H s)(h:U3 X):Hd X.A s.heap:=by
 rcases h with z|⟨x,o,u,vs,z,e,d,n⟩
 . exact .inl z
 . exact .inr ⟨x,o,vs,z,(I.hok x _ (I.base.frzs x o u e)).1,d,n⟩
theorem Inv.hdB{it:Addr}(I:Inv X pins σ H s)(h:U3 X)(hn:H it=none):∀h':Heap,Heap.ExtBut it s.heap h' ->Hd X.A h':=by
 intro h' k
 rcases h with z|⟨x,o,u,vs,z,e,d,n⟩
 . exact .inl z
 . have q:=I.base.frzs x o u e
   exact .inr ⟨x,o,vs,z,k x o (fun w=>by rw[w,hn] at q;cases q) (I.hok x _ q).1,d,n⟩
end
structure TurnH(P:Program)(w:World)(K:Frag)(tg:Expr)(J:It)(it:Addr)(tn:Nat ->Heap ->Prop):Prop where
 obj:∀i h,tn i h ->∃o,h.get? it=some o/\∀v,o.data≠ .cell v
 keep:∀i h h',tn i h ->(∀o,h.get? it=some o ->h'.get? it=some o) ->tn i h'
 item:∀(X:Cx),X.prog=P ->X.w=w ->X.K=K ->U3 X ->∀(i:Nat) (pins:List (Addr×Obj)) (s:Shared) (σ:St) (H:Hp) (E:Value ->Shared ->Prop),Inv X pins σ H s ->Y1 X pins H it ->tn i s.heap ->J.go i H ->
   wpAny (model P w) X.A (pyNext (.ref it)) (fun r s1=>∃u,r=some u/\
     wpAny (model P w) X.A (letOwnedTupleGo tg (.ref it) u) (fun _ s2=>∃x,Inv X pins σ H s2/\RelV x u/\J.yld i H x H/\tn (i+1) s2.heap) E s1) E s
 done:∀(X:Cx),X.prog=P ->X.w=w ->X.K=K ->U3 X ->∀(i:Nat) (pins:List (Addr×Obj)) (s:Shared) (σ:St) (H:Hp) (E:Value ->Shared ->Prop),Inv X pins σ H s ->Y1 X pins H it ->tn i s.heap ->J.stop i H ->
   wpAny (model P w) X.A (pyNext (.ref it)) (fun r s1=>r=none/\Inv X pins σ H s1) E s
 self:∀(A:Around) (i:Nat) (s:Shared) (Q:Value ->Shared ->Prop) (E:Value ->Shared ->Prop),tn i s.heap ->Q (.ref it) s ->wpAny (model P w) A (pyIter (.ref it)) Q E s
theorem A8e{P:Program}{w:World}{K:Frag}{tg:Expr}(a it:Addr):TurnH P w K tg (Itl K a) it (fun i h=>h.IsListIter it a i) where
 obj:=fun i h ⟨o,e,c,d⟩=>⟨o,e,fun v z=>by rw[d] at z;cases z⟩
 keep:=fun i h h' st k=>st.at fun o e=>k o e
 item:=by
   intro X hP hw hK hc i pins s σ H E I hf st hg
   subst hP hw hK
   obtain⟨xs,x,hq,hx⟩:=hg
   obtain⟨its,rv,p,hz⟩:=I.list hq
   obtain⟨u,hu,ru⟩:=rv.get hx
   obtain⟨f0,f1,f2,f3,f4,f5⟩:=hf
   refine wpAny_pyNext_list_item st p.isList (x:=u) (by simpa using hu) fun h' st' sb=>?_
   have I1:Inv X pins σ H {s with heap:=h'}:=I.turned (t':=s.toks) (fun b o hb e=>(sb.2 b hb).trans e) f0 f1 f3 f4 f5
   obtain⟨o,e,c,d⟩:=id st'
   exact⟨u,rfl,B0x (s:={s with heap:=h'}) e c d (by decide) ⟨x,I1,ru,⟨rfl,fun ys hy=>by rw[I.list_inj hy hq];exact hx⟩,st'⟩⟩
 done:=by
   intro X hP hw hK hc i pins s σ H E I hf st hg
   subst hP hw hK
   obtain⟨xs,hq,hx⟩:=hg
   obtain⟨its,rv,p,hz⟩:=I.list hq
   obtain⟨f0,f1,f2,f3,f4,f5⟩:=hf
   have hl:=rv.length
   exact A1y (I.hdB hc f0) st p.isList (by simp;omega) fun h' eb=>⟨rfl,I.turned (t':=s.toks) (fun b o hb e=>eb b o hb e) f0 f1 f3 f4 f5⟩
 self:=fun _ _ _ _ _ st h=>wpAny_pyIter_listiter st h
theorem B1w{P:Program}{w:World}{K:Frag}{tg:Expr}(a it:Addr):TurnH P w K tg (Itt K a) it (fun i h=>h.IsTupleIter it a i) where
 obj:=fun i h ⟨o,e,c,d⟩=>⟨o,e,fun v z=>by rw[d] at z;cases z⟩
 keep:=fun i h h' st k=>st.at fun o e=>k o e
 item:=by
   intro X hP hw hK hc i pins s σ H E I hf st hg
   subst hP hw hK
   obtain⟨xs,x,hq,hx⟩:=hg
   obtain⟨its,rv,p,hz⟩:=I.tuple hq
   obtain⟨u,hu,ru⟩:=rv.get hx
   obtain⟨f0,f1,f2,f3,f4,f5⟩:=hf
   refine wpAny_pyNext_tuple_item st (show s.heap.IsTuple a its.toArray from p) (x:=u) (by simpa using hu) fun h' st' sb=>?_
   have I1:Inv X pins σ H {s with heap:=h'}:=I.turned (t':=s.toks) (fun b o hb e=>(sb.2 b hb).trans e) f0 f1 f3 f4 f5
   obtain⟨o,e,c,d⟩:=id st'
   exact⟨u,rfl,B0x (s:={s with heap:=h'}) e c d (by decide) ⟨x,I1,ru,⟨rfl,fun ys hy=>by rw[I.tuple_inj hy hq];exact hx⟩,st'⟩⟩
 done:=by
   intro X hP hw hK hc i pins s σ H E I hf st hg
   subst hP hw hK
   obtain⟨xs,hq,hx⟩:=hg
   obtain⟨its,rv,p,hz⟩:=I.tuple hq
   obtain⟨f0,f1,f2,f3,f4,f5⟩:=hf
   have hl:=rv.length
   exact A0a (I.hdB hc f0) st p (by simp;omega) fun h' eb=>⟨rfl,I.turned (t':=s.toks) (fun b o hb e=>eb b o hb e) f0 f1 f3 f4 f5⟩
 self:=fun _ _ _ _ _ st h=>wpAny_pyIter_tupleiter st h
noncomputable def PIH (X:Cx) (tg iter:Expr) (wi:TI):Prop:=
 ∀ (pins:List (Addr×Obj)) (s:Shared) (σ:St) (H:Hp) (R:It ->Hp ->Prop),Inv X pins σ H s ->wi σ H R ->
   wpAny (model X.prog X.w) X.A (eval iter X.env) (fun v s1=>wpAny (model X.prog X.w) X.A (pyIter v) (fun itv s2=>∃(it:Addr) (tn:Nat ->Heap ->Prop) (J:It) (H':Hp),itv= .ref it/\Inv X pins σ H' s2/\TurnH X.prog X.w X.K tg J it tn/\tn 0 s2.heap/\
     Y1 X pins H' it/\R J H') X.xe s1) X.xe s
section
variable{X:Cx}{tg:Expr}
theorem B4x{l:Expr}{tl:TE}(hl:PE X l tl):PIH X tg l (B9g X.K tl):=by
 intro pins s σ H R I h
 refine thn (hl pins s σ H _ I h) fun v s1 hh_=>?_
 obtain⟨x,H1,I1,r1,q1⟩:=hh_
 obtain⟨a,e,⟨xs,hq⟩,q⟩:=q1
 subst e
 cases r1
 obtain⟨its,rv,p,hz⟩:=I1.list hq
 exact wpAny_pyIter_list p.isList ⟨s1.heap.objs.size,_,_,H1,rfl,I1.kept (t':=s1.toks) fun b o e=>Heap.get?_push_of_some _ e,A8e a _,⟨_,Heap.get?_push_size _ rfl,rfl,rfl⟩,I1.fpOk (Nat.le_refl _) (I1.hok.fresh (Nat.le_refl _)),q⟩
theorem B7c{l:Expr}{tl:TE}(hl:PE X l tl):PIH X tg l (C4e X.K tl):=by
 intro pins s σ H R I h
 refine thn (hl pins s σ H _ I h) fun v s1 hh_=>?_
 obtain⟨x,H1,I1,r1,q1⟩:=hh_
 obtain⟨a,e,⟨xs,hq⟩,q⟩:=q1
 subst e
 cases r1
 obtain⟨its,rv,p,hz⟩:=I1.tuple hq
 exact wpAny_pyIter_tuple (show s1.heap.IsTuple a its.toArray from p) ⟨s1.heap.objs.size,_,_,H1,rfl,I1.kept (t':=s1.toks) fun b o e=>Heap.get?_push_of_some _ e,B1w a _,⟨_,Heap.get?_push_size _ rfl,rfl,rfl⟩,I1.fpOk (Nat.le_refl _) (I1.hok.fresh (Nat.le_refl _)),q⟩
theorem B7m{es:List Expr}{k:Nat}{t:TGs}{n:Nat}{pos:Pos}(hc:U3 X)(h:PGs X es t)(hn:(assignEach es X.env).length=n:=by rfl)(hst:(assignEach es X.env).findIdx? (·.1)=none:=by rfl):PG X (.Tuple es k pos) (B6t X.K n t):=by
 intro pins s σ H v u Q I r q
 obtain⟨a,xs,ev,hq,hl,q⟩:=q
 subst ev
 cases r
 obtain⟨its,rv,p,hz⟩:=I.tuple hq
 rw[assign_Tuple]
 refine wpAny_bind (wpAny_standAt (B2y (I.hdA hc) p (by rw[hn, <-hl,rv.length];simp) hst fun h' hx=>?_))
 have I1:Inv X pins σ H {s with heap:=h'}:=I.kept (t':=s.toks) fun b o e=>hx b o (Nat.ne_of_lt (Heap.lt_size e)) e
 exact thn (h pins _ σ H xs its Q I1 rv q) fun _ s' z=>z
theorem B8w{K:Frag}{es:List Expr}{k:Nat}{t:TGs}{n:Nat}{pos:Pos}(hK:X.K=K)(hc:U3 X)(h:PGs X es t)(hn:(assignEach es X.env).length=n:=by rfl)(hst:(assignEach es X.env).findIdx? (·.1)=none:=by rfl):PG X (.Tuple es k pos) (B6t K n t):=by
 subst hK
 exact B7m hc h hn hst
end
noncomputable abbrev Cx.comp (X:Cx) (scope:Scope) (N:List Str) (C:Addr) (s₀:Shared) (H₀:Hp) (ex:List Addr) (pins:List (Addr×Obj)):Cx:=
 {X with N:=N,s₀:=s₀,H₀:=H₀,env:=compEnv scope C X.env,outer:=X.stack,ex:=ex,fn:=fun _=>false,pn:=pins,xe:=fun _ _=>False}
structure CompScope(N:List Str)(sc:Scope):Prop where
 kind:sc.kind= .function
 free:∀y∈sc.names,y.2≠ .free
 cell:∀y∈sc.names,y.2≠ .cell
 loc:∀y∈sc.names,y.2= .local ->sc.names.lookup y.1=some .local
 nd:N.Nodup
noncomputable def B4p (n:Nat) (wi:TI) (g:TG) (tc:TT) (te:TE):TE:=fun σ H Q=>wi σ H fun J H1=>∀D,H1 D=none ->
 ∃ (m:Nat) (W:Nat ->List V ->Hp ->Prop),W 0 [] (upd H1 D (.lst []))/\∀i ys H2,W i ys H2 ->i<=m/\H2 D=some (.lst ys)/\((J.stop i H2/\Q (.ref D) H2)\/(i<m/\J.go i H2/\∀x H3,J.yld i H2 x H3 ->
   g x (List.replicate n none) H3 fun σ4 H4=>tc σ4 H4 fun b H5=>if b=true then te σ4 H5 fun y H6=>H6 D=some (.lst ys)/\ys.length<sizeLine/\W (i+1) (ys++ [y]) (upd H6 D (.lst (ys++ [y]))) else W (i+1) ys H5))
noncomputable def B3u (n:Nat) (wi:TI) (g:TG) (te:TE):TE:=fun σ H Q=>wi σ H fun J H1=>∀D,H1 D=none ->
 ∃ (m:Nat) (W:Nat ->List V ->Hp ->Prop),W 0 [] (upd H1 D (.lst []))/\∀i ys H2,W i ys H2 ->i<=m/\H2 D=some (.lst ys)/\((J.stop i H2/\Q (.ref D) H2)\/(i<m/\J.go i H2/\∀x H3,J.yld i H2 x H3 ->
   g x (List.replicate n none) H3 fun σ4 H4=>te σ4 H4 fun y H6=>H6 D=some (.lst ys)/\ys.length<sizeLine/\W (i+1) (ys++ [y]) (upd H6 D (.lst (ys++ [y])))))
theorem A6y{prog:Program}{w:World}{A:Around}{s:Shared}{elt target iter:Expr}{scope:Scope}{pos:Pos}{it acc:Value}{env:Env}{R:Result ->Shared ->Prop}(I:Nat ->Shared ->Prop)
   (turn :∀n s,I n s ->wpAny (model prog w) A (pyNext it) (fun r s₁=>match r with
     |none=>R (.ok .next) s₁
     |some v=>wpAny (model prog w) A (letOwnedTupleGo target it v) (fun _ s₀=>wpAny (model prog w) A (assign target env v) (fun _ s₂=>wpAny (model prog w) A (eval elt env) (fun x s₄=>
         wpAny (model prog w) A (call (.builtin "list.append") [acc,x]) (fun _ s₅=>∃m,m<n/\I m s₅) (notedBy (model prog w) A env fun e s'=>R (.error e) s') s₄) (notedBy (model prog w) A env fun e s'=>R (.error e) s') s₂)
         (notedBy (model prog w) A env fun e s'=>R (.error e) s') s₀) (notedBy (model prog w) A env fun e s'=>R (.error e) s') s₁) (notedBy (model prog w) A env fun e s'=>R (.error e) s') s)
   (n:Nat) (h:I n s):codeAny (model prog w) A (.compLoop (.ListComp elt [⟨target,iter,[],0⟩] scope pos) 0 it acc env) R s:=by
 refine codeAny_loop rfl I (fun n s hI=>?_) n h
 show wpAny _ A ((compTurn (.ListComp elt [⟨target,iter,[],0⟩] scope pos) 0 it acc env).onRaise (fun x=>do noteFrame x env;theTreesLotGoes x)) _ _ s
 refine wpAny_noted ?_;rw[compTurn_list1]
 refine wpAny_bind (wpAny_standAt (wpAny_bind (wpAny_mono (turn n s hI) (fun r s₁ h₁=>?_) fun _ _ z=>z)))
 cases r with
 |none=>exact wpAny_pure h₁
 | some v=>
   refine wpAny_bind (wpAny_mono h₁ (fun _ s₀ q₀=>?_) fun _ _ z=>z)
   refine wpAny_bind (wpAny_mono q₀ (fun _ s₂ q₂=>?_) fun _ _ z=>z)
   exact wpAny_bind (wpAny_bind (wpAny_mono q₂ (fun x s₄ q₄=>wpAny_bind (wpAny_mono q₄ (fun _ s₅ q₅=>wpAny_pure (wpAny_pure ⟨rfl,q₅⟩)) fun _ _ z=>z)) fun _ _ z=>z))
section
variable{X:Cx}
theorem A8b{pins:List (Addr×Obj)}{σ:St}{H:Hp}{s:Shared}{scope:Scope}{N:List Str}{it:Addr}{h':Heap}(S:CompScope N scope)(I:Inv X pins σ H s)(hf:Y1 X pins H it)(hit:∃o,s.heap.get? it=some o)(hnb:X.base.get? it=none)
   (hns:h'.Ns s.heap.objs.size (fun _=>none)) (hsb:∀b o,s.heap.get? b=some o ->h'.get? b=some o) {tk:Nat}:
   Inv (X.comp scope N s.heap.objs.size s H [it] (X.pn++pins)) [] (List.replicate N.length none) H {s with heap:=h',toks:=tk}:=by
 obtain⟨f0,f1,f2,f3,f4,f5⟩:=hf
 obtain⟨oi,ei⟩:=hit
 have lt:it<s.heap.objs.size:=Heap.lt_size ei
 have nc:∀x c,(compEnv scope s.heap.objs.size X.env).cells.lookup x=some c ->False:=fun x c z=>by cases z
 have nk:∀x,¬((compEnv scope s.heap.objs.size X.env).kindOf x=some .cell\/(compEnv scope s.heap.objs.size X.env).kindOf x=some .free):=by
   intro x z
   have z:scope.names.lookup x=some .cell\/scope.names.lookup x=some .free:=z
   rcases z with z|z
   . exact S.cell _ (PySem.mem_of_lookup z) rfl
   . exact S.free _ (PySem.mem_of_lookup z) rfl
 refine⟨⟨I.ok.mod,S.kind,I.ok.glob,I.ok.blt,Nat.le_refl _,fun x y c z=>(nc x c z).elim,fun x z=>(nk x z).elim,fun x c _ z=>(nc x c z).elim,I.ok.hd,I.ok.frames,.inl rfl,fun b hb=>?_,I.bs,Nat.le_trans I.ok.bsz I.sz,fun b o e hb=>?_,fun b hb hfs=>?_,I.stack,I.stkFree⟩,
   rfl,I.bare,Un.kept hsb,⟨_,hns,fun i x v e1 e2 e3=>?_⟩,fun x c z=>(nc x c z).elim,I.hok.fresh (Nat.le_refl _),fun x c z=>(nc x c z).elim,fun p hp=>?_,I.hok.kept hsb,by simp⟩
 . have e:b=it:=by simpa using hb
   subst e
   exact⟨Nat.ne_of_lt lt,fun x c z=>(nc x c z).elim⟩
 . have e':b=it:=by simpa using hb
   subst e'
   rw[hnb] at e
   cases e
 . have e':b=it:=by simpa using hb
   subst e'
   rcases List.mem_cons.mp (I.stkSub b hfs) with z|z
   . exact f1 z
   . exact f2 z
 . rw[List.getElem?_replicate] at e2
   split at e2<;>cases e2
 . have hp':p∈X.pn++pins:=by simpa using hp
   obtain⟨q1,q2,q3,q4,q5⟩:=I.pin p hp'
   refine⟨hsb _ _ q1,q2,Nat.ne_of_lt (Heap.lt_size q1),fun z=>?_,q5⟩
   rcases List.mem_cons.mp (I.stkSub p.1 z) with z|z
   . exact q3 z
   . exact q4 z
theorem B1x{elt target iter c:Expr}{scope:Scope}{pos:Pos}{N:List Str}{wi:TI}{g:TG}{tc:TT}{te:TE}(S:CompScope N scope)(hd:U3 X)(hi:PIH X target iter wi)(hex:X.ex=[])
   (hg:∀C s₀ H₀ ex pn,U3 (X.comp scope N C s₀ H₀ ex pn) ->PG (X.comp scope N C s₀ H₀ ex pn) target g)
   (hc:∀C s₀ H₀ ex pn,U3 (X.comp scope N C s₀ H₀ ex pn) ->PT (X.comp scope N C s₀ H₀ ex pn) c tc)
   (he:∀C s₀ H₀ ex pn,U3 (X.comp scope N C s₀ H₀ ex pn) ->PE (X.comp scope N C s₀ H₀ ex pn) elt te)
   {pins:List (Addr×Obj)} {s:Shared} {σ:St} {H:Hp} {Q:VK} {RR:Value ->Env ->Result ->Shared ->Prop} (I:Inv X pins σ H s) (h:(B4p N.length wi g tc te) σ H Q)
   (hRR:∀(D C:Addr) (s6:Shared) (H5:Hp) (mm:Str ->Option Value),Inv X pins σ H5 s6 ->s6.heap.Ns C mm ->Y1 X pins H5 C ->Q (.ref D) H5 ->RR (.ref D) (compEnv scope C X.env) (.ok .next) s6):
   wpAny (model X.prog X.w) X.A (eval iter X.env) (fun v s1=>wpAny (model X.prog X.w) X.A (pyIter v) (fun itv s2=>wpAny (model X.prog X.w) X.A (newList []) (fun acc s3=>wpAny (model X.prog X.w) X.A (newFunctionEnv scope X.env.globals [] [] X.env.qual none .none (some X.env)) (fun cenv s4=>
     codeAny (model X.prog X.w) X.A (.compStart (.ListComp elt [⟨target,iter,[c],0⟩] scope pos) 0 itv acc {cenv with scope:=scope}) (RR acc {cenv with scope:=scope}) s4) X.xe s3) X.xe s2) X.xe s1) X.xe s:=by
 refine thn (hi pins s σ H _ I h) fun v s1 h1=>thn h1 fun itv s2 h2=>?_
 obtain⟨it,tn,J,H2,rfl,I2,T,st2,f2,R⟩:=h2
 obtain⟨oi,ei,di⟩:=T.obj _ _ st2
 have hf2:=I2.hok.fresh (Nat.le_refl _)
 refine wpAny_newObj_type ?_
 have I3:Inv X pins σ (upd H2 s2.heap.objs.size (.lst [])) {s2 with heap:=s2.heap.push {cls:= .type "list",dict:=none,data:= .seq ([]:List Value).toArray}}:=Inv.lnew (t':=s2.toks) I2 .nil (Nat.zero_le _)
 refine wpAny_newFunctionEnv S.cell (by intro y hy;simp at hy) (fun h4 hns hsb=>?_) S.kind
 dsimp only at hns hsb ⊢
 generalize hG:s2.heap.push {cls:= .type "list",dict:=none,data:= .seq ([]:List Value).toArray}=G at I3 hns hsb ⊢
 generalize hD:s2.heap.objs.size=D at I3 hf2
 have nD:it≠D:=by rw[<-hD];exact Nat.ne_of_lt (Heap.lt_size ei)
 have eiG:G.get? it=some oi:=by rw[<-hG];exact Heap.get?_push_of_some _ ei
 have kp:∀b o,G.get? b=some o ->h4.get? b=some o:=fun b o e=>hsb.extBut b o (Nat.ne_of_lt (Heap.lt_size e)) (Heap.get?_push_of_some _ e)
 have f3:Y1 X pins (upd H2 D (.lst [])) it:=⟨by rw[D3 nD];exact f2.1,f2.2⟩
 have nb:X.base.get? it=none:=by
   cases q:X.base.get? it with
   |none=>rfl
   | some o=>
     have:=(I.ok.bs it o q).1
     rcases f2.2.2.2.1 with z|z
     . rw[hex] at z;simp at z
     . exact absurd (Nat.lt_of_lt_of_le (Heap.lt_size this) z) (Nat.lt_irrefl _)
 have hns':h4.Ns G.objs.size (fun _=>none):=by
   obtain⟨o,es,ep,q1,q2,q3,q4⟩:=hns
   exact⟨o,es,ep,q1,q2,q3,fun x=>by rw[q4];rfl⟩
 have I4:=A8b (tk:=s2.toks+([]:List (Str×Value)).length) S I3 f3 ⟨oi,eiG⟩ nb hns' kp
 have hdc:U3 (X.comp scope N G.objs.size {s2 with heap:=G} (upd H2 D (.lst [])) [it] (X.pn++pins)):=by
   rcases hd with z|⟨x,o,u,vs,z,e,d,n⟩
   . exact .inl z
   . refine .inr ⟨x,o,u,vs,z,?_,d,n⟩
     have q:=I2.base.frzs x o u e
     show upd H2 D (.lst []) x=_
     rw[D3 fun w=>by rw[w,hf2] at q;cases q]
     exact q
 obtain⟨m,W,w0,turn⟩:=R D hf2
 have gg:=hg _ _ _ _ _ hdc
 have cc:=hc _ _ _ _ _ hdc
 have ee:=he _ _ _ _ _ hdc
 have fpc:∀{H':Hp} {σ':St} {s':Shared} {pl:List (Addr×Obj)},Inv (X.comp scope N G.objs.size {s2 with heap:=G} (upd H2 D (.lst [])) [it] (X.pn++pins)) pl σ' H' s' ->H' it=none ->(∀p∈pl,p.1≠it) ->Y1 (X.comp scope N G.objs.size {s2 with heap:=G} (upd H2 D (.lst [])) [it] (X.pn++pins)) pl H' it:=by
   intro H' σ' s' pl J' hn hp
   refine⟨hn,Nat.ne_of_lt (Heap.lt_size eiG),?_,.inl (List.mem_singleton.mpr rfl),(fun x c z=>nomatch z),fun p hpp=>?_⟩
   . intro z
     rcases List.mem_cons.mp (I.stkSub it z) with z|z
     . exact f2.2.1 z
     . exact f2.2.2.1 z
   . rcases List.mem_append.mp hpp with z|z
     . exact f2.2.2.2.2.2 p z
     . exact hp p z
 have loop:codeAny (model X.prog X.w) X.A (.compLoop (.ListComp elt [⟨target,iter,[c],0⟩] scope pos) 0 (.ref it) (.ref D) (compEnv scope G.objs.size X.env))
     (RR (.ref D) (compEnv scope G.objs.size X.env))
     {s2 with heap:=h4,toks:=s2.toks+([]:List (Str×Value)).length}:=by
   refine kct_loop (fun k s'=>∃i ys H',k=m+1-i/\Inv (X.comp scope N G.objs.size {s2 with heap:=G} (upd H2 D (.lst [])) [it] (X.pn++pins)) [] (List.replicate N.length none) H' s'/\tn i s'.heap/\H' it=none/\W i ys H') ?_ (m+1)
     ⟨0,[],_,rfl,I4,T.keep _ _ _ st2 fun o e=>kp it o (by rw[<-hG];exact Heap.get?_push_of_some _ e),f3.1,w0⟩
   rintro k s5 ⟨i,ys,H5,rfl,I5,st5,n5,w5⟩
   obtain⟨hi5,hD5,w5⟩:=turn i ys H5 w5
   rcases w5 with⟨stop,q⟩|⟨lt5,go,step⟩
   . refine wpAny_mono (T.done (X.comp scope N G.objs.size {s2 with heap:=G} (upd H2 D (.lst [])) [it] (X.pn++pins)) rfl rfl rfl hdc i [] s5 _ H5 (fun _ _=>False) I5 (fpc I5 n5 (by simp)) st5 stop) (fun r s6 z=>?_) (fun _ _ z=>z.elim)
     obtain⟨rfl,I6⟩:=z
     obtain⟨mm,hn6,_⟩:=I6.loc
     have B6:=I6.base
     have J6:Inv X pins σ H5 s6:=by
       refine I3.call' (ch:=[it]) I6.os ⟨B6.keep,B6.slot,B6.free,B6.there,B6.tups,B6.frzs,B6.tbls⟩ I6.hok I6.bare (fun b hb=>?_)
       have e:b=it:=by simpa using hb
       subst e
       exact⟨f2.2.2.2.1,f2.2.1,f2.2.2.2.2.1,f2.2.2.2.2.2⟩
     have szG:X.s₀.heap.objs.size<=G.objs.size:=I3.sz
     refine hRR D G.objs.size s6 H5 mm J6 hn6 ⟨I6.free,?_,?_,.inr szG,?_,?_⟩ q
     . exact Nat.ne_of_gt I3.lt
     . intro z
       obtain⟨_,o,ho,_⟩:=I3.funs.mem z
       exact Nat.lt_irrefl _ (Heap.lt_size ho)
     . rintro x c z rfl
       obtain⟨v',o,ho,_⟩:=I3.cell x _ z
       exact Nat.lt_irrefl _ (Heap.lt_size ho)
     . rintro p hp z
       have zz:=(I3.pin p hp).1
       rw[z] at zz
       exact Nat.lt_irrefl _ (Heap.lt_size zz)
   . refine wpAny_mono (T.item (X.comp scope N G.objs.size {s2 with heap:=G} (upd H2 D (.lst [])) [it] (X.pn++pins)) rfl rfl rfl hdc i [] s5 _ H5 (fun _ _=>False) I5 (fpc I5 n5 (by simp)) st5 go) (fun r s6 z=>?_) (fun _ _ z=>z.elim)
     obtain⟨u,rfl,z⟩:=z
     refine wpAny_mono z (fun _ s7 z=>?_) (fun _ _ z=>z.elim)
     obtain⟨x,I7,rx,yl,st7⟩:=z
     obtain⟨o7,e7,d7⟩:=T.obj _ _ st7
     obtain⟨p0,p1,p2,_⟩:=fpc I7 n5 (by simp)
     have I7':Inv (X.comp scope N G.objs.size {s2 with heap:=G} (upd H2 D (.lst [])) [it] (X.pn++pins)) [(it,o7)] (List.replicate N.length none) H5 s7:=I7.pins_of fun p hp=>by
       have e:p=(it,o7):=by simpa using hp
       subst e
       exact⟨e7,p0,p1,p2,d7⟩
     have back:∀{i':Nat} {ys':List V} {H':Hp} {σ':St} {s':Shared},i'=i+1 ->Inv (X.comp scope N G.objs.size {s2 with heap:=G} (upd H2 D (.lst [])) [it] (X.pn++pins)) [(it,o7)] σ' H' s' ->W i' ys' H' ->
         ∃k',k'<m+1-i/\∃i ys H',k'=m+1-i/\Inv (X.comp scope N G.objs.size {s2 with heap:=G} (upd H2 D (.lst [])) [it] (X.pn++pins)) [] (List.replicate N.length none) H' s'/\tn i s'.heap/\H' it=none/\W i ys H':=by
       rintro i' ys' H' σ' s' rfl J' w'
       obtain⟨q1,q2,_⟩:=J'.pin (it,o7) (List.mem_append_right _ (List.mem_singleton.mpr rfl))
       have jl:σ'.length=N.length:=J'.len
       refine⟨m+1-(i+1),by omega,i+1,ys',H',rfl,Inv.weak (J'.pins_of fun p hp=>absurd hp (by simp)) (by rw[jl];simp) (fun j v z=>?_),T.keep _ _ _ st7 fun o z=>?_,q2,w'⟩
       . rw[List.getElem?_replicate] at z
         split at z<;>cases z
       . rw[e7] at z
         cases z
         exact q1
     refine wpAny_mono (gg [(it,o7)] s7 _ H5 x u _ I7' rx (step x H5 yl)) (fun _ s8 z=>?_) (fun _ _ z=>z.elim)
     obtain⟨σ8,H8,I8,q8⟩:=z
     refine wpAny_mono (cc [(it,o7)] s8 σ8 H8 _ I8 q8) (fun b s9 z=>?_) (fun _ _ z=>z.elim)
     obtain⟨H9,I9,q9⟩:=z
     cases b with
     | false=>
       simp only[Bool.false_eq_true,if_false] at q9 ⊢
       exact back rfl I9 q9
     | true=>
       simp only[if_true] at q9 ⊢
       refine wpAny_mono (ee [(it,o7)] s9 σ8 H9 _ I9 q9) (fun y s10 z=>?_) (fun _ _ z=>z.elim)
       obtain⟨yv,H10,I10,ry,hD10,hz10,w10⟩:=z
       refine wpAny_mono (A1z (X:=X.comp scope N G.objs.size {s2 with heap:=G} (upd H2 D (.lst [])) [it] (X.pn++pins)) [(it,o7)] s10 σ8 H10 (.ref D) [yv] (.ref D) [y] (fun _ H11=>W (i+1) (ys++ [yv]) H11) I10 rfl (.cons ry .nil) ⟨D,ys,yv,rfl,rfl,hD10,hz10,w10⟩) (fun _ s11 z=>?_) (fun _ _ z=>z.elim)
       obtain⟨_,H11,I11,_,w11⟩:=z
       exact back rfl I11 w11
 exact codeAny_compStart_list loop (T.self _ 0 _ _ _ (T.keep _ _ _ st2 fun o e=>kp it o (by rw[<-hG];exact Heap.get?_push_of_some _ e)) loop)
theorem A8g{elt target iter:Expr}{scope:Scope}{pos:Pos}{N:List Str}{wi:TI}{g:TG}{te:TE}(S:CompScope N scope)(hd:U3 X)(hi:PIH X target iter wi)(hex:X.ex=[])
   (hg:∀C s₀ H₀ ex pn,U3 (X.comp scope N C s₀ H₀ ex pn) ->PG (X.comp scope N C s₀ H₀ ex pn) target g)
   (he:∀C s₀ H₀ ex pn,U3 (X.comp scope N C s₀ H₀ ex pn) ->PE (X.comp scope N C s₀ H₀ ex pn) elt te)
   {pins:List (Addr×Obj)} {s:Shared} {σ:St} {H:Hp} {Q:VK} {RR:Value ->Env ->Result ->Shared ->Prop} (I:Inv X pins σ H s) (h:(B3u N.length wi g te) σ H Q)
   (hRR:∀(D C:Addr) (s6:Shared) (H5:Hp) (mm:Str ->Option Value),Inv X pins σ H5 s6 ->s6.heap.Ns C mm ->Y1 X pins H5 C ->Q (.ref D) H5 ->RR (.ref D) (compEnv scope C X.env) (.ok .next) s6):
   wpAny (model X.prog X.w) X.A (eval iter X.env) (fun v s1=>wpAny (model X.prog X.w) X.A (pyIter v) (fun itv s2=>wpAny (model X.prog X.w) X.A (newList []) (fun acc s3=>wpAny (model X.prog X.w) X.A (newFunctionEnv scope X.env.globals [] [] X.env.qual none .none (some X.env)) (fun cenv s4=>
     codeAny (model X.prog X.w) X.A (.compStart (.ListComp elt [⟨target,iter,[],0⟩] scope pos) 0 itv acc {cenv with scope:=scope}) (RR acc {cenv with scope:=scope}) s4) X.xe s3) X.xe s2) X.xe s1) X.xe s:=by
 refine thn (hi pins s σ H _ I h) fun v s1 h1=>thn h1 fun itv s2 h2=>?_
 obtain⟨it,tn,J,H2,rfl,I2,T,st2,f2,R⟩:=h2
 obtain⟨oi,ei,di⟩:=T.obj _ _ st2
 have hf2:=I2.hok.fresh (Nat.le_refl _)
 refine wpAny_newObj_type ?_
 have I3:Inv X pins σ (upd H2 s2.heap.objs.size (.lst [])) {s2 with heap:=s2.heap.push {cls:= .type "list",dict:=none,data:= .seq ([]:List Value).toArray}}:=Inv.lnew (t':=s2.toks) I2 .nil (Nat.zero_le _)
 refine wpAny_newFunctionEnv S.cell (by intro y hy;simp at hy) (fun h4 hns hsb=>?_) S.kind
 dsimp only at hns hsb ⊢
 generalize hG:s2.heap.push {cls:= .type "list",dict:=none,data:= .seq ([]:List Value).toArray}=G at I3 hns hsb ⊢
 generalize hD:s2.heap.objs.size=D at I3 hf2
 have nD:it≠D:=by rw[<-hD];exact Nat.ne_of_lt (Heap.lt_size ei)
 have eiG:G.get? it=some oi:=by rw[<-hG];exact Heap.get?_push_of_some _ ei
 have kp:∀b o,G.get? b=some o ->h4.get? b=some o:=fun b o e=>hsb.extBut b o (Nat.ne_of_lt (Heap.lt_size e)) (Heap.get?_push_of_some _ e)
 have f3:Y1 X pins (upd H2 D (.lst [])) it:=⟨by rw[D3 nD];exact f2.1,f2.2⟩
 have nb:X.base.get? it=none:=by
   cases q:X.base.get? it with
   |none=>rfl
   | some o=>
     have:=(I.ok.bs it o q).1
     rcases f2.2.2.2.1 with z|z
     . rw[hex] at z;simp at z
     . exact absurd (Nat.lt_of_lt_of_le (Heap.lt_size this) z) (Nat.lt_irrefl _)
 have hns':h4.Ns G.objs.size (fun _=>none):=by
   obtain⟨o,es,ep,q1,q2,q3,q4⟩:=hns
   exact⟨o,es,ep,q1,q2,q3,fun x=>by rw[q4];rfl⟩
 have I4:=A8b (tk:=s2.toks+([]:List (Str×Value)).length) S I3 f3 ⟨oi,eiG⟩ nb hns' kp
 have hdc:U3 (X.comp scope N G.objs.size {s2 with heap:=G} (upd H2 D (.lst [])) [it] (X.pn++pins)):=by
   rcases hd with z|⟨x,o,u,vs,z,e,d,n⟩
   . exact .inl z
   . refine .inr ⟨x,o,u,vs,z,?_,d,n⟩
     have q:=I2.base.frzs x o u e
     show upd H2 D (.lst []) x=_
     rw[D3 fun w=>by rw[w,hf2] at q;cases q]
     exact q
 obtain⟨m,W,w0,turn⟩:=R D hf2
 have gg:=hg _ _ _ _ _ hdc
 have ee:=he _ _ _ _ _ hdc
 have fpc:∀{H':Hp} {σ':St} {s':Shared} {pl:List (Addr×Obj)},Inv (X.comp scope N G.objs.size {s2 with heap:=G} (upd H2 D (.lst [])) [it] (X.pn++pins)) pl σ' H' s' ->H' it=none ->(∀p∈pl,p.1≠it) ->Y1 (X.comp scope N G.objs.size {s2 with heap:=G} (upd H2 D (.lst [])) [it] (X.pn++pins)) pl H' it:=by
   intro H' σ' s' pl J' hn hp
   refine⟨hn,Nat.ne_of_lt (Heap.lt_size eiG),?_,.inl (List.mem_singleton.mpr rfl),(fun x c z=>nomatch z),fun p hpp=>?_⟩
   . intro z
     rcases List.mem_cons.mp (I.stkSub it z) with z|z
     . exact f2.2.1 z
     . exact f2.2.2.1 z
   . rcases List.mem_append.mp hpp with z|z
     . exact f2.2.2.2.2.2 p z
     . exact hp p z
 have loop:codeAny (model X.prog X.w) X.A (.compLoop (.ListComp elt [⟨target,iter,[],0⟩] scope pos) 0 (.ref it) (.ref D) (compEnv scope G.objs.size X.env))
     (RR (.ref D) (compEnv scope G.objs.size X.env))
     {s2 with heap:=h4,toks:=s2.toks+([]:List (Str×Value)).length}:=by
   refine A6y (fun k s'=>∃i ys H',k=m+1-i/\Inv (X.comp scope N G.objs.size {s2 with heap:=G} (upd H2 D (.lst [])) [it] (X.pn++pins)) [] (List.replicate N.length none) H' s'/\tn i s'.heap/\H' it=none/\W i ys H') ?_ (m+1)
     ⟨0,[],_,rfl,I4,T.keep _ _ _ st2 fun o e=>kp it o (by rw[<-hG];exact Heap.get?_push_of_some _ e),f3.1,w0⟩
   rintro k s5 ⟨i,ys,H5,rfl,I5,st5,n5,w5⟩
   obtain⟨hi5,hD5,w5⟩:=turn i ys H5 w5
   rcases w5 with⟨stop,q⟩|⟨lt5,go,step⟩
   . refine wpAny_mono (T.done (X.comp scope N G.objs.size {s2 with heap:=G} (upd H2 D (.lst [])) [it] (X.pn++pins)) rfl rfl rfl hdc i [] s5 _ H5 (fun _ _=>False) I5 (fpc I5 n5 (by simp)) st5 stop) (fun r s6 z=>?_) (fun _ _ z=>z.elim)
     obtain⟨rfl,I6⟩:=z
     obtain⟨mm,hn6,_⟩:=I6.loc
     have B6:=I6.base
     have J6:Inv X pins σ H5 s6:=by
       refine I3.call' (ch:=[it]) I6.os ⟨B6.keep,B6.slot,B6.free,B6.there,B6.tups,B6.frzs,B6.tbls⟩ I6.hok I6.bare (fun b hb=>?_)
       have e:b=it:=by simpa using hb
       subst e
       exact⟨f2.2.2.2.1,f2.2.1,f2.2.2.2.2.1,f2.2.2.2.2.2⟩
     have szG:X.s₀.heap.objs.size<=G.objs.size:=I3.sz
     refine hRR D G.objs.size s6 H5 mm J6 hn6 ⟨I6.free,?_,?_,.inr szG,?_,?_⟩ q
     . exact Nat.ne_of_gt I3.lt
     . intro z
       obtain⟨_,o,ho,_⟩:=I3.funs.mem z
       exact Nat.lt_irrefl _ (Heap.lt_size ho)
     . rintro x c z rfl
       obtain⟨v',o,ho,_⟩:=I3.cell x _ z
       exact Nat.lt_irrefl _ (Heap.lt_size ho)
     . rintro p hp z
       have zz:=(I3.pin p hp).1
       rw[z] at zz
       exact Nat.lt_irrefl _ (Heap.lt_size zz)
   . refine wpAny_mono (T.item (X.comp scope N G.objs.size {s2 with heap:=G} (upd H2 D (.lst [])) [it] (X.pn++pins)) rfl rfl rfl hdc i [] s5 _ H5 (fun _ _=>False) I5 (fpc I5 n5 (by simp)) st5 go) (fun r s6 z=>?_) (fun _ _ z=>z.elim)
     obtain⟨u,rfl,z⟩:=z
     refine wpAny_mono z (fun _ s7 z=>?_) (fun _ _ z=>z.elim)
     obtain⟨x,I7,rx,yl,st7⟩:=z
     obtain⟨o7,e7,d7⟩:=T.obj _ _ st7
     obtain⟨p0,p1,p2,_⟩:=fpc I7 n5 (by simp)
     have I7':Inv (X.comp scope N G.objs.size {s2 with heap:=G} (upd H2 D (.lst [])) [it] (X.pn++pins)) [(it,o7)] (List.replicate N.length none) H5 s7:=I7.pins_of fun p hp=>by
       have e:p=(it,o7):=by simpa using hp
       subst e
       exact⟨e7,p0,p1,p2,d7⟩
     have back:∀{i':Nat} {ys':List V} {H':Hp} {σ':St} {s':Shared},i'=i+1 ->Inv (X.comp scope N G.objs.size {s2 with heap:=G} (upd H2 D (.lst [])) [it] (X.pn++pins)) [(it,o7)] σ' H' s' ->W i' ys' H' ->
         ∃k',k'<m+1-i/\∃i ys H',k'=m+1-i/\Inv (X.comp scope N G.objs.size {s2 with heap:=G} (upd H2 D (.lst [])) [it] (X.pn++pins)) [] (List.replicate N.length none) H' s'/\tn i s'.heap/\H' it=none/\W i ys H':=by
       rintro i' ys' H' σ' s' rfl J' w'
       obtain⟨q1,q2,_⟩:=J'.pin (it,o7) (List.mem_append_right _ (List.mem_singleton.mpr rfl))
       have jl:σ'.length=N.length:=J'.len
       refine⟨m+1-(i+1),by omega,i+1,ys',H',rfl,Inv.weak (J'.pins_of fun p hp=>absurd hp (by simp)) (by rw[jl];simp) (fun j v z=>?_),T.keep _ _ _ st7 fun o z=>?_,q2,w'⟩
       . rw[List.getElem?_replicate] at z
         split at z<;>cases z
       . rw[e7] at z
         cases z
         exact q1
     refine wpAny_mono (gg [(it,o7)] s7 _ H5 x u _ I7' rx (step x H5 yl)) (fun _ s8 z=>?_) (fun _ _ z=>z.elim)
     obtain⟨σ8,H8,I8,q8⟩:=z
     refine wpAny_mono (ee [(it,o7)] s8 σ8 H8 _ I8 q8) (fun y s10 z=>?_) (fun _ _ z=>z.elim)
     obtain⟨yv,H10,I10,ry,hD10,hz10,w10⟩:=z
     refine wpAny_mono (A1z (X:=X.comp scope N G.objs.size {s2 with heap:=G} (upd H2 D (.lst [])) [it] (X.pn++pins)) [(it,o7)] s10 σ8 H10 (.ref D) [yv] (.ref D) [y] (fun _ H11=>W (i+1) (ys++ [yv]) H11) I10 rfl (.cons ry .nil) ⟨D,ys,yv,rfl,rfl,hD10,hz10,w10⟩) (fun _ s11 z=>?_) (fun _ _ z=>z.elim)
     obtain⟨_,H11,I11,_,w11⟩:=z
     exact back rfl I11 w11
 exact codeAny_compStart_list loop (T.self _ 0 _ _ _ (T.keep _ _ _ st2 fun o e=>kp it o (by rw[<-hG];exact Heap.get?_push_of_some _ e)) loop)
theorem B5a{pins:List (Addr×Obj)}{σ:St}{H:Hp}{s:Shared}{C:Addr}{h':Heap}(I:Inv X pins σ H s)(f:Y1 X pins H C)(sb:Heap.SameBut C s.heap h'):Inv X pins σ H {s with heap:=h'}:=
 I.turned (t':=s.toks) (fun b o hb e=>(sb.2 b hb).trans e) f.1 f.2.1 f.2.2.2.1 f.2.2.2.2.1 f.2.2.2.2.2
theorem B7z{i:Nat}{y:Str}{py spos:Pos}{elt target iter:Expr}{c:Expr}{tc:TT}{scope:Scope}{pos:Pos}{N:List Str}{wi:TI}{g:TG}{te:TE}(S:CompScope N scope)(hd:U3 X)(hi:PIH X target iter wi)(hex:X.ex=[])
   (hg:∀C s₀ H₀ ex pn,U3 (X.comp scope N C s₀ H₀ ex pn) ->PG (X.comp scope N C s₀ H₀ ex pn) target g)
   (hc:∀C s₀ H₀ ex pn,U3 (X.comp scope N C s₀ H₀ ex pn) ->PT (X.comp scope N C s₀ H₀ ex pn) c tc)
   (he:∀C s₀ H₀ ex pn,U3 (X.comp scope N C s₀ H₀ ex pn) ->PE (X.comp scope N C s₀ H₀ ex pn) elt te) (hN:X.N.Nodup) (hi':X.N[i]?=some y) (hy:X.env.scope.names.lookup y=some .local)
   (hsw:swapsWith (.ListComp elt [⟨target,iter,[c],0⟩] scope pos) (some (.Name y py)) spos.line X.env=pure true:=by rfl)
   (hs:∀x,foldedSetIterable iter X.env x=pure x:=by intro _;rfl):PS X (.Assign [.Name y py] (.ListComp elt [⟨target,iter,[c],0⟩] scope pos) spos) (B8a (B4p N.length wi g tc te) (A4j i)):=by
 intro pins s σ H D I h
 rw[exec_Assign_Name_used _ _ _ _ hsw]
 refine wpAny_bind (wpAny_standAt (wpAny_bind ?_))
 show wpAny _ X.A (do let _<-comprehension (.ListComp elt [⟨target,iter,[c],0⟩] scope pos) scope X.env _ (newList []) false (eval iter X.env) (some (assign (.Name y py) X.env))) _ _ s
 refine wpAny_bind (wpAny_mono (wpAny_comprehension_use (Q:=fun _ s'=>SP X pins D .next s') rfl hs S.free S.kind S.loc (B1x S hd hi hex hg hc he I h (RR:=fun acc ce r s'=>match r with
     | .ok _=>wpAny (model X.prog X.w) X.A (assign (.Name y py) X.env acc) (fun _ s''=>∃m,s''.heap.Ns ce.locals m/\∀h',Heap.SameBut ce.locals s''.heap h' ->SP X pins D .next {s'' with heap:=h'}) X.xe s'
     | .error x=>∃m,s'.heap.Ns ce.locals m/\∀h',Heap.SameBut ce.locals s'.heap h' ->wpAny (model X.prog X.w) X.A (passOn "comprehension.variables-let-go" x ce) (fun _ s'=>SP X pins D .next s') X.xe {s' with heap:=h'}) ?_))
   (fun _ s' hq=>wpAny_pure (wpAny_pure hq)) fun _ _ e=>e)
 intro D' C s6 H5 mm I6 n6 f6 q
 refine wpAny_assign_Name (A5e (v:= .ref D') I6 hN hi' (.inl hy) rfl (fun s7 I7 st=>?_) (.inr hy))
 obtain⟨a,sb,ha⟩:=st
 have na:C≠a:=by
   rcases ha with rfl|ha
   . exact f6.2.1
   . exact(f6.2.2.2.2.1 y a ha).symm
 exact⟨mm,n6.sameBut sb na,fun h' sb'=>⟨_,_,B5a I7 f6 sb',q⟩⟩
theorem B4a{elt target iter:Expr}{scope:Scope}{pos:Pos}{N:List Str}{wi:TI}{g:TG}{te:TE}(S:CompScope N scope)(hd:U3 X)(hi:PIH X target iter wi)(hex:X.ex=[])
   (hg:∀C s₀ H₀ ex pn,U3 (X.comp scope N C s₀ H₀ ex pn) ->PG (X.comp scope N C s₀ H₀ ex pn) target g)
   (he:∀C s₀ H₀ ex pn,U3 (X.comp scope N C s₀ H₀ ex pn) ->PE (X.comp scope N C s₀ H₀ ex pn) elt te)
   (hs:∀x,foldedSetIterable iter X.env x=pure x:=by intro _;rfl):PE X (.ListComp elt [⟨target,iter,[],0⟩] scope pos) (B3u N.length wi g te):=by
 intro pins s σ H Q I h
 refine wpAny_ListComp S.free S.kind S.loc (A8g S hd hi hex hg he I h (RR:=fun acc ce r s'=>∃m,s'.heap.Ns ce.locals m/\∀h',Heap.SameBut ce.locals s'.heap h' ->match r with
   | .ok _=>EP X pins σ Q acc {s' with heap:=h'}
   | .error x=>wpAny (model X.prog X.w) X.A (passOn "comprehension.variables-let-go" x ce) (EP X pins σ Q) X.xe {s' with heap:=h'}) ?_) hs
 intro D C s6 H5 mm I6 n6 f6 q
 exact⟨mm,n6,fun h' sb=>⟨.ref D,H5,B5a I6 f6 sb,rfl,q⟩⟩
end
section
variable{X:Cx}{a b c:Expr}{ta tb tc:TE}{pos:Pos}
theorem Y4:OpR X (binaryOp .Mult) (rI IntMulOk fun i j=> .int (i*j)):=opI fun _ _ _ _ _ _ _ hc q=>mul_int q hc
theorem D0:OpR X (binaryOp .FloorDiv) (rI (fun _ j=>0<j/\j.natAbs.log2<9000) fun i j=> .int (i/j)):=opI fun i j _ _ _ _ _ hc q=>by
 have h1:(0:Int)<j:=hc.1
 exact floordiv_int (by omega) (by rw[Int.fdiv_eq_ediv_of_nonneg i (by omega)];exact q) (.inl (PyProof.noPylong_of_log2 hc.2))
theorem A3m{i:Int}{k:Nat}(h:i.natAbs<2^k)(hk:0<k):i.natAbs.log2<k:=by
 by_cases z:i.natAbs=0
 . rw[z];simpa using hk
 . exact(Nat.log2_lt z).mpr h
inductive TyE(K:Frag)(H:Hp):V ->Value ->Prop where
 |of {x:V} {t:Value} (h:TyOf K H x t):TyE K H x t
 |exc {a C:Addr} {t:XT} {T:Value} {u:HO} (e:H a=some (.frz (Y2 (.ref C) t none T) u)) (k:ExcK K C):TyE K H (.ref a) (.ref C)
 |excD {a C:Addr} {t:XT} {T:Value} {d:Addr} {u:HO} {fs:List (Str×V)} (e:H a=some (.frz (Y2 (.ref C) t (some d) T) u)) (hd:H d=some (.xd fs)) (k:ExcK K C):TyE K H (.ref a) (.ref C)
 |tupK {a:Addr} {o:Obj} (l:K.lookup a=some o) (c:o.cls= .type "tuple"):TyE K H (.ref a) (.type "tuple")
theorem A9a{pins:List (Addr×Obj)}{σ:St}{H:Hp}{s:Shared}{A:Around}{E:Value ->Shared ->Prop}{Q:Value ->Shared ->Prop}{c:Value}{b:Bool}{x:V}{u t:Value}(I:Inv X pins σ H s)(rx:RelV x u)(ty:TyE X.K H x t)
   (e:kitOne X.K t c=some b) (h:∀tk,Q (.bool b) {s with toks:=tk}):wpAny (model X.prog X.w) A (call (.builtin "isinstance") [u,c]) Q E s:=by
 cases ty with
 |of h'=>exact B3a I rx h' e h
 | exc ea k=>
   cases rx
   rename_i a C t0 T u0
   have o1:s.heap.get? a=some (Y2 (.ref C) t0 none T):=(I.hok a _ ea).1
   refine kia_one (H:=fun h=>PySem.W.InstAt h a (Y2 (.ref C) t0 none T) C none) ?_ I.kIn ⟨o1,rfl,rfl,trivial⟩ e (fun z=>nomatch z) h
   refine⟨fun M h _ J=>J.type,fun M h K _=>Z0 K k.cl,fun h tp dd its n sl K htp=>?_,fun K J q=>A0f k K J q⟩
   refine Bool.eq_false_iff.mpr fun q=>?_
   have e:C=tp:=Value.ref.inj (beq_iff_eq.mp q)
   subst e
   have z:=k.cl
   unfold clsIn at z
   split at z
   . rename_i ho
     have y:=(K _ _ ho).symm.trans htp
     cases y
   . cases z
 | tupK l c=>
   cases rx
   exact PySem.W.kia_one PySem.W.kitx_tuple I.kIn ⟨_,I.kIn _ _ l,c⟩ e (fun z=>nomatch z) h
 | excD ea hd k=>
   cases rx
   rename_i a C t0 T d u0 fs
   have o1:s.heap.get? a=some (Y2 (.ref C) t0 (some d) T):=(I.hok a _ ea).1
   obtain⟨mA,nA,_⟩:=(show∃mA,s.heap.Ns1 d mA/\∀f,RelO (fs.lookup f) (mA f) from I.hok d _ hd)
   obtain⟨od,o2,_⟩:=A4y nA
   refine kia_one (H:=fun h=>PySem.W.InstAt h a (Y2 (.ref C) t0 (some d) T) C (some od)) ?_ I.kIn ⟨o1,rfl,rfl,o2⟩ e (fun z=>nomatch z) h
   refine⟨fun M h _ J=>J.type,fun M h K _=>Z0 K k.cl,fun h tp dd its n sl K htp=>?_,fun K J q=>A0f k K J q⟩
   refine Bool.eq_false_iff.mpr fun q=>?_
   have e:C=tp:=Value.ref.inj (beq_iff_eq.mp q)
   subst e
   have z:=k.cl
   unfold clsIn at z
   split at z
   . rename_i ho
     have y:=(K _ _ ho).symm.trans htp
     cases y
   . cases z
noncomputable def B7f:V ->Option Value
 | .ty n=>some (.type n)
 | .ref a=>some (.ref a)
 |_=>none
theorem A7d:A1v X (.builtin "isinstance") (fun xs H Q=>∃x c cv t b,xs=[x,c]/\B7f c=some cv/\TyE X.K H x t/\kitOne X.K t cv=some b/\Q (.bl b) H):=by
 intro pins s σ H xs us Q I r h
 obtain⟨x,c,cv,t,b,rfl,hc,ty,e,q⟩:=h
 obtain⟨u,v,rfl,ru,rv⟩:=Vals.two r
 have:v=cv:=by
   cases c<;>simp only[B7f] at hc<;>first|(cases hc;exact rv)|cases hc
 subst this
 exact A9a I ru ty e fun tk=>⟨.bl b,H,I.tok tk,rfl,q⟩
mutual
inductive RdD(K:Frag)(H:Hp):V ->PyData ->Prop where
 |non:RdD K H .non .none
 |bl (b:Bool):RdD K H (.bl b) (.bool b)
 |int (i:Int):RdD K H (.int i) (.int i)
 |str (x:Str):RdD K H (.str x) (.str x)
 |tup {a:Addr} {xs:List V} {ds:List PyData} (h:SqT K H a xs) (r:RdDs K H xs ds):RdD K H (.ref a) (.tuple ds)
 |lst {a:Addr} {xs:List V} {ds:List PyData} (h:SqL K H a xs) (r:RdDs K H xs ds):RdD K H (.ref a) (.list ds)
inductive RdDs(K:Frag)(H:Hp):List V ->List PyData ->Prop where
 |nil:RdDs K H [] []
 |cons {x:V} {xs:List V} {d:PyData} {ds:List PyData} (h:RdD K H x d) (r:RdDs K H xs ds):RdDs K H (x::xs) (d::ds)
end
mutual
theorem RdD.reads{pins:List (Addr×Obj)}{σ:St}{H:Hp}{s:Shared}(I:Inv X pins σ H s):∀{x:V} {d:PyData} {u:Value},RdD X.K H x d ->RelV x u ->∃as,Reads s.heap u d as
 |_,_,_,.non,r=>by cases r;exact⟨_,.none⟩
 |_,_,_,.bl b,r=>by cases r;exact⟨_,.bool b⟩
 |_,_,_,.int i,r=>by obtain⟨t,rfl⟩:=r;exact⟨_,.int i t⟩
 |_,_,_,.str x,r=>by obtain⟨t,rfl⟩:=r;exact⟨_,.str x t⟩
 | _,_,_,.tup h q,r=>by
   cases r
   obtain⟨its,rv,⟨o,e,c,n,d⟩,_⟩:=I.tuple h
   obtain⟨as,z⟩:=RdDs.reads I q rv
   exact⟨_,reads_tuple_at e c d (by simpa using z)⟩
 | _,_,_,.lst h q,r=>by
   cases r
   obtain⟨its,rv,p,_⟩:=I.list h
   obtain⟨o,e,c,n,d⟩:=p.isList
   obtain⟨as,z⟩:=RdDs.reads I q rv
   exact⟨_,reads_list_at e c d (by simpa using z)⟩
theorem RdDs.reads{pins:List (Addr×Obj)}{σ:St}{H:Hp}{s:Shared}(I:Inv X pins σ H s):∀{xs:List V} {ds:List PyData} {us:List Value},RdDs X.K H xs ds ->Vals xs us ->∃as,ReadsAll s.heap us ds as
 |_,_,_,.nil,r=>by cases r;exact⟨_,.nil⟩
 | _,_,_,.cons h q,r=>by
   cases r with
   | cons r1 r2=>
     obtain⟨as,z⟩:=RdD.reads I h r1
     obtain⟨bs,y⟩:=RdDs.reads I q r2
     exact⟨_,.cons z y⟩
end
noncomputable def C1w (K:Frag) (n:Bool):R2:=fun x y H Q=>∃d e,RdD K H x d/\RdD K H y e/\SeqAt.shaped d=true/\SeqAt.shaped e=true/\Q (.bl (if n then !PyData.eqv d e else PyData.eqv d e)) H
theorem B3k(hu:X.A.units+64<cLine):OpR X (compareOp .Eq) (C1w X.K false):=by
 intro pins s σ H x y v u Q I rx ry q
 obtain⟨d,e,hx,hy,sd,se,q⟩:=q
 obtain⟨as,z⟩:=hx.reads I rx
 obtain⟨bs,z'⟩:=hy.reads I ry
 exact eq_dataH z z' sd se hu ⟨.bl (PyData.eqv d e),H,I,rfl,q⟩
theorem B4g(hu:X.A.units+64<cLine):OpR X (compareOp .NotEq) (C1w X.K true):=by
 intro pins s σ H x y v u Q I rx ry q
 obtain⟨d,e,hx,hy,sd,se,q⟩:=q
 obtain⟨as,z⟩:=hx.reads I rx
 obtain⟨bs,z'⟩:=hy.reads I ry
 exact ne_dataH z z' sd se hu ⟨.bl (!PyData.eqv d e),H,I,rfl,q⟩
inductive FPart(X:Cx):Expr ->TE ->Prop where
 |lit {x:Str} {j:Nat} {pos:Pos}:FPart X (.Constant (.str x) j pos) (tC (.str x))
 |int {v:Expr} {tv:TE} {pos:Pos} (h:PE X v tv):FPart X (.FormattedValue v (-1) none pos) (fun σ H Q=>tv σ H fun y H1=>∃i,y= .int i/\i.natAbs.log2<1920/\Q (.str (toString i)) H1)
theorem FPart.pe{e:Expr}{t:TE}(h:FPart X e t):PE X e t:=by
 cases h with
 |lit=>exact A6
 | int h=>
   intro pins s σ H Q I q
   refine FormattedValue_plain (thn (h pins s σ H _ I q) fun u s1 hh_=>?_)
   obtain⟨y,H1,I1,r,i,e,l,q⟩:=hh_
   subst e
   obtain⟨t,rfl⟩:=r
   exact formatField_int_small l ⟨.str (toString i),H1,I1.tok _,⟨_,rfl⟩,q⟩
inductive FParts(X:Cx):List Expr ->(Str ->TE) ->Prop where
 |nil:FParts X [] (fun out _ H Q=>out.length<=sizeLine/\Q (.str out) H)
 |cons {e:Expr} {es:List Expr} {t:TE} {r:Str ->TE} (h:FPart X e t) (hr:FParts X es r):FParts X (e::es) (fun out σ H Q=>t σ H fun x H1=>∃y,x= .str y/\(out++y).length<=sizeLine/\r (out++y) σ H1 Q)
theorem FParts.run{es:List Expr}{t:Str ->TE}(h:FParts X es t):∀(out:Str) (pins:List (Addr×Obj)) (s:Shared) (σ:St) (H:Hp) (Q:VK),Inv X pins σ H s ->t out σ H Q ->
   wpAny (model X.prog X.w) X.A (joinParts out (evalEach es X.env)) (EP X pins σ Q) X.xe s:=by
 induction h with
 | nil=>
   intro out pins s σ H Q I q
   exact joinParts_nil ⟨.str out,H,I.tok _,⟨_,rfl⟩,q.2⟩ q.1
 | @cons e es t r h hr ih=>
   intro out pins s σ H Q I q
   show wpAny _ _ (joinParts out (eval e X.env::evalEach es X.env)) _ _ _
   refine joinParts_cons (thn (h.pe pins s σ H _ I q) fun u s1 hh_=>?_)
   obtain⟨x,H1,I1,rx,y,ey,z,q⟩:=hh_
   subst ey
   obtain⟨t',rfl⟩:=rx
   exact⟨z,ih _ pins s1 σ H1 Q I1 q⟩
theorem B8q{e1 e2:Expr}{es:List Expr}{t:Str ->TE}{pos:Pos}(h:FParts X (e1::e2::es) t):PE X (.JoinedStr (e1::e2::es) pos) (t Str.empty):=by
 intro pins s σ H Q I q
 exact JoinedStr_many (h.run _ pins s σ H Q I q)
end
section
variable{P:Program}{w:World}{K:Frag}{mg:Str ->Option Value}{base:Heap}
end
section
variable{X:Cx}{k:Nat}{f:Addr}{fd:FuncData}{ps:List Str}{sp:Sp}{x:Str}{p pos:Pos}{e:Expr}{es:List Expr}{t:TA}
end
theorem Inv.big{X:Cx}{pins:List (Addr×Obj)}{σ:St}{H:Hp}{s:Shared}(I:Inv X pins σ H s):sysModules<s.heap.objs.size:=by
 have h:mainGlobals<s.heap.objs.size:=(I.mod.glob.keeps I.bk).lt
 exact Nat.lt_trans (by decide) h
theorem B3z{P:Program}{w:World}{H:Hp}(h:Heap)(hb:sysModules<h.objs.size):ObjOk P w H (h.push {cls:= .type "dict",data:= .dict #[]}) h.objs.size (.dK []):=
 ⟨Nat.zero_le _,beq_eq_false_iff_ne.mpr (Ne.symm (Nat.ne_of_lt hb)),[],.nil,Heap.DictOf.new h⟩
noncomputable def B9q:TE:=fun _ H Q=>∀p,H p=none ->Q (.ref p) (upd H p (.dK []))
theorem B4n{X:Cx}{pos:Pos}:PE X (.Dict [] [] pos) B9q:=fun pins s σ H Q I h=>
 wpAny_Dict_empty ⟨.ref s.heap.objs.size,_,I.laid (a:=s.heap.objs.size) (o:= .dK []) (t':=s.toks) (fun _ _ q=>Heap.get?_push_of_some _ q) (Nat.le_refl _) (B3z s.heap I.big),rfl,h _ (I.hok.fresh (Nat.le_refl _))⟩
noncomputable abbrev EKF:EK:=fun _ _ _ _=>False
structure Def(K:Frag)(mg:Str ->Option Value)(x:Str)(ps:List Str)(st:Stmt)(f:Addr)(fd:FuncData):Prop where
 F:Fun K x x st f fd
 g:mg x=some (.ref f)
 b:Binds K fd ps []
theorem A3y{K:Frag}{h:Heap}{mg:Str ->Option Value}{x:Str}{ps:List Str}{st:Stmt}{f:Addr}{oc:Value}{od an:Option Addr}{osl:Array (Option Value)}{kV doc pm cdv ct:Value}(X:K.In h)(G:h.Ns mainGlobals mg)
   (a:nsIn K mainGlobals x=some (some (.ref f))) (l:K.lookup f=some ⟨oc,od,.func (fnOf x x (G2 st) (D7 st) (A7 st) .none kV doc pm an cdv ct),osl⟩) (c:codeIn K cdv x=true) (k:keepIn K (.ref f)=true)
   (hb:∀(kV doc pm:Value) (an:Option Addr) (cdv ct:Value) (us:List Value),us.length=ps.length ->bindArgs (fnOf x x (G2 st) (D7 st) (A7 st) .none kV doc pm an cdv ct) ⟨us,[]⟩=pure (ps.zip us)):
   Def K mg x ps st f (fnOf x x (G2 st) (D7 st) (A7 st) .none kV doc pm an cdv ct):=
 ⟨A9k (st:=st) l c k,mg_of X G a,(A9k (st:=st) l c k).binds hb⟩
theorem B1k{c A B:Prop} [Decidable c] (h:¬c) (b:B):if decide c=true then A else B:=by rw[decide_eq_false h];exact U8 b
theorem A7q{c A B:Prop} [Decidable c] (h:c) (a:A):if decide c=true then A else B:=by rw[decide_eq_true h];exact V7 a
theorem Y0{c A B:Prop} [Decidable c] (a:c ->A) (b:¬c ->B):if decide c=true then A else B:=by
 by_cases h:c
 . exact A7q h (a h)
 . exact B1k h (b h)
noncomputable def C3m (t:TS):TS:=fun D σ H=>∃J:St ->Hp ->Prop,t {D with nx:=J} σ H/\∀σ' H',J σ' H' ->D.nx σ' H'
theorem A5{X:Cx}{st:Stmt}{t:TS}(h:PS X st t):PS X st (C3m t):=by
 intro pins s σ H D I q
 obtain⟨J,q,k⟩:=q
 refine thn (h pins s σ H _ I q) fun f s' z=>?_
 cases f with
 |next=>obtain⟨σ',H',I',y⟩:=z;exact⟨σ',H',I',k _ _ y⟩
 |brk=>exact z
 |cont=>exact z
 |ret u=>exact z
theorem ixs{xs:List Int}{i:Int}(h0:0<=i)(h1:i<xs.length):∃v,v∈xs/\atI (xs.map V.int) i=some (.int v):=by
 obtain⟨j,rfl⟩:=Int.eq_ofNat_of_zero_le h0
 have hj:j<xs.length:=by omega
 exact⟨xs[j],List.getElem_mem hj,D8 (by simp[hj])⟩
theorem ixv{xs:List V}{i:Int}(h0:0<=i)(h1:i<xs.length):∃v,v∈xs/\atI xs i=some v:=by
 obtain⟨j,rfl⟩:=Int.eq_ofNat_of_zero_le h0
 have hj:j<xs.length:=by omega
 exact⟨xs[j],List.getElem_mem hj,D8 (by simp[hj])⟩
theorem Same.upd{H:Hp}{p:Addr}{o:HO}(h:H p=none):Same H (L2.upd H p o):=fun b u e=>by rw[D3 (G5 e h)];exact e
theorem A3{n:Nat}(h:n<=1000):n<=sizeLine:=Nat.le_of_lt (V8 h)
section
variable{X:Cx}{k j:Nat}{f:Addr}{fd:FuncData}{ps:List Str}{sp:Sp}{EH:EK}{x:Str}{st:Stmt}{p pos:Pos}{e:Expr}{es:List Expr}{t:TA}
theorem C0(D:Def X.K X.mg x ps st f fd)(F:FnOk X.prog X.w X.K X.mg X.base (CX1 X.prog X.w) j f fd ps sp)(hr:Room k X.A)(hx:V1 X EH)(ha:PA X (e::es) t)(hj:j<=k:=by decide)(hg:Gl X x:=by rfl)(hex:X.ex=[]:=by rfl)(hdb:(x==("__debug__":Str))=false:=by decide)
   (he:starEach (e::es) X.env=(false,eval e X.env)::starEach es X.env:=by rfl) (hpl:(backTo pos (starEach es X.env)).any (·.1)=false:=by rfl):PE X (.Call (.Name x p) (e::es) [] pos) (A2c sp [] EH t):=
 B4j (F.mono hj) hr hg D.g D.F.kp D.b .nil hx ha hex hdb he hpl
theorem C0c(D:Def X.K X.mg x ps st f fd)(F:FnOk X.prog X.w X.K X.mg X.base (CX1 X.prog X.w) j f fd ps sp)(hr:Room k X.A)(hx:V1 X EH)(hj:j<=k:=by decide)(hg:Gl X x:=by rfl)(hex:X.ex=[]:=by rfl)(hdb:(x==("__debug__":Str))=false:=by decide):
   PE X (.Call (.Name x p) [] [] pos) (A2c sp [] EH B5d):=
 B2s (F.mono hj) hr hg D.g D.F.kp D.b .nil hx hex hdb
theorem pty{n:Str}{T:String}(hm:X.mg n=none)(hv:bootBuiltins n=some (.type T))(hg:Gl X n:=by rfl)(hn:n≠"__name__":=by decide)(hdb:(n==("__debug__":Str))=false:=by decide):PE X (.Name n pos) (tC (.ty T)):=B7x hg hm hv rfl hn hdb
theorem B2f{n:Str}{C:Addr}(hm:X.mg n=some (.ref C))(hg:Gl X n:=by rfl)(hdb:(n==("__debug__":Str))=false:=by decide):PE X (.Name n pos) (tC (.ref C)):=B8t hg hm rfl hdb
theorem A1x{a b:Expr}{ta tb:TE}(hm:X.mg "isinstance"=none)(ha:PE X a ta)(hb:PE X b tb)(hg:Gl X "isinstance":=by rfl)
   (h1:starEach [a,b] X.env=(false,eval a X.env)::starEach [b] X.env:=by rfl) (h2:starEach [b] X.env=(false,eval b X.env)::starEach [] X.env:=by rfl) (h3:(backTo pos (starEach [b] X.env)).any (·.1)=false:=by rfl):
   PE X (.Call (.Name "isinstance" p) [a,b] [] pos) (tCB (fun xs H Q=>∃x c cv t b,xs=[x,c]/\B7f c=some cv/\TyE X.K H x t/\kitOne X.K t cv=some b/\Q (.bl b) H) (A8a ta (A8a tb B5d))):=
 D9 A7d hg hm boot_isinstance (A0 ha (A0 hb A2 h2) h1) (he:=h1) (hpl:=h3)
theorem C2f{K:Frag}{a b:Expr}{ta tb:TE}(hK:X.K=K)(hm:X.mg "isinstance"=none)(ha:PE X a ta)(hb:PE X b tb)(hg:Gl X "isinstance":=by rfl)
   (h1:starEach [a,b] X.env=(false,eval a X.env)::starEach [b] X.env:=by rfl) (h2:starEach [b] X.env=(false,eval b X.env)::starEach [] X.env:=by rfl) (h3:(backTo pos (starEach [b] X.env)).any (·.1)=false:=by rfl):
   PE X (.Call (.Name "isinstance" p) [a,b] [] pos) (tCB (fun xs H Q=>∃x c cv t b,xs=[x,c]/\B7f c=some cv/\TyE K H x t/\kitOne K t cv=some b/\Q (.bl b) H) (A8a ta (A8a tb B5d))):=by
 subst hK
 exact A1x hm ha hb hg h1 h2 h3
end
section
variable{X:Cx}{k j:Nat}{f:Addr}{fd:FuncData}{ps:List Str}{sp:Sp}{x:Str}{st:Stmt}{p pos:Pos}{e:Expr}{es:List Expr}{t:TA}
end
section
variable{X:Cx}{k j:Nat}{f C:Addr}{fd:FuncData}{ps:List Str}{sp:Sp}{dvs:List V}{ds:List Value}{EH:EK}{x m:Str}{p pos apos:Pos}{e o:Expr}{es:List Expr}{ta:TE}{t:TA}
end
theorem A6h{n:Nat}(h:n<=sizeLine):Builtin.Str.tooLong n=false:=by
 unfold Builtin.Str.tooLong
 exact decide_eq_false (by omega)
section
variable{X:Cx}
theorem B0h:∀{zs:List Str} {us:List Value},Vals (zs.map V.str) us ->∃l:List (Str×Tok),us=strValues l/\l.map (·.1)=zs
 | [],_,r=>by cases r;exact⟨[],rfl,rfl⟩
 | z ::zs,_,r=>by
   cases r with
   | cons h t=>
     obtain⟨l,rfl,e⟩:=B0h t
     obtain⟨k,rfl⟩:=(show∃k,_=Value.str z k from h)
     exact⟨(z,k)::l,rfl,by rw[List.map_cons,e]⟩
noncomputable def C2s (K:Frag):V ->List V ->Hp ->VK ->Prop:=fun x vs H Q=>∃z l zs,x= .str z/\vs=[.ref l]/\SqL K H l (zs.map V.str)/\JoinOk z zs=true/\Q (.str (Txt.join z zs)) H
theorem B8v:MtR X "str.join" (C2s X.K):=by
 intro pins s σ H x vs v us Q I rx rv h
 obtain⟨z,l,zs,rfl,rfl,hl,ok,q⟩:=h
 obtain⟨t,rfl⟩:=(show∃t,v=Value.str z t from rx)
 obtain⟨u,rfl,ru⟩:=rv.one
 cases ru
 obtain⟨its,r,ht,hz⟩:=I.list hl
 obtain⟨ls,rfl,e⟩:=B0h r
 exact SC.join ht.isList e ok fun t' k=>⟨.str _,H,I.tok _,⟨_,rfl⟩,q⟩
theorem B0w{v:Value}{o:Option Int}(h:IsPart v o):∃p:Option (Int×Tok),v=partValue p/\p.map (·.1)=o:=by
 cases h with
 |none=>exact⟨none,rfl,rfl⟩
 |int i t=>exact⟨some (i,t),rfl,rfl⟩
noncomputable def G8 (x:Str) (lo hi:Option Int):Str:=if((Builtin.Str.strSliceIndices lo hi 1 x.length).length==x.length)=true then x else⟨((Builtin.Str.strSliceIndices lo hi 1 x.length).filterMap (x.cps[·]?)).toArray⟩
noncomputable def C3t:V ->Option Int ->Option Int ->Hp ->VK ->Prop:=fun x lo hi H Q=>∃z,x= .str z/\(G8 z lo hi).length<=sizeLine/\Q (.str (G8 z lo hi)) H
theorem U4:SlR X C3t:=by
 intro pins s σ H x v vl vu lo hi sl Q I rx hs pl pu h
 obtain⟨z,rfl,hz,q⟩:=h
 obtain⟨t,rfl⟩:=(show∃t,v=Value.str z t from rx)
 obtain⟨l,rfl,rfl⟩:=B0w pl
 obtain⟨u,rfl,rfl⟩:=B0w pu
 refine⟨"str",_,F.slot_str_getitem.lookup,typeIs_str _ _ _,wpAny_getItem_str_slice (l:=l) (u:=u) (st:=none) hs rfl ?_⟩
 exact post_val_or_str ⟨hz,fun t' k=>⟨.str _,H,I.tok _,⟨_,rfl⟩,q⟩⟩
end
section
variable{P:Program}{w:World}{K:Frag}{mg:Str ->Option Value}{base:Heap}
end
section
variable{X:Cx}{k j:Nat}{f C:Addr}{fd:FuncData}{ps ks:List Str}{sp:Sp}{EH:EK}{x m:Str}{p pos apos:Pos}{e o:Expr}{es:List Expr}{kws:List Keyword}{ta:TE}{t tk:TA}{g:List Value ->List Value ->List Value}{gV:List V ->List V ->List V}
end
section
variable{X:Cx}{K:Frag}{e:Expr}{f:Str}{pos:Pos}{ta:TE}
theorem B7d(h:X.K=K):IxR X (C3a K):=by subst h;exact A1c
end
end L2
namespace TR
open PySem L2 PySem.W PyProof.Rows
structure Own(mg:Str ->Option Value):Prop where
 isi:mg "isinstance"=none
 int_:mg "int"=none
 bool_:mg "bool"=none
 str_:mg "str"=none
 list_:mg "list"=none
 tuple_:mg "tuple"=none
 dict_:mg "dict"=none
 len_:mg "len"=none
 range_:mg "range"=none
 min_:mg "min"=none
 max_:mg "max"=none
 abs_:mg "abs"=none
 any_:mg "any"=none
 all_:mg "all"=none
 sum_:mg "sum"=none
 repr_:mg "repr"=none
 enumerate_:mg "enumerate"=none
 reversed_:mg "reversed"=none
 zip_:mg "zip"=none
 sorted_:mg "sorted"=none
 divmod_:mg "divmod"=none
 set_:mg "set"=none
 ValueError_:mg "ValueError"=none
structure Kit(K:Frag):Prop where
 int_int:kitOne K (.type "int") (.type "int")=some true
 int_bool:kitOne K (.type "int") (.type "bool")=some false
 int_str:kitOne K (.type "int") (.type "str")=some false
 int_list:kitOne K (.type "int") (.type "list")=some false
 int_tuple:kitOne K (.type "int") (.type "tuple")=some false
 int_dict:kitOne K (.type "int") (.type "dict")=some false
 bool_int:kitOne K (.type "bool") (.type "int")=some true
 bool_bool:kitOne K (.type "bool") (.type "bool")=some true
 bool_str:kitOne K (.type "bool") (.type "str")=some false
 bool_list:kitOne K (.type "bool") (.type "list")=some false
 bool_tuple:kitOne K (.type "bool") (.type "tuple")=some false
 bool_dict:kitOne K (.type "bool") (.type "dict")=some false
 str_int:kitOne K (.type "str") (.type "int")=some false
 str_bool:kitOne K (.type "str") (.type "bool")=some false
 str_str:kitOne K (.type "str") (.type "str")=some true
 str_list:kitOne K (.type "str") (.type "list")=some false
 str_tuple:kitOne K (.type "str") (.type "tuple")=some false
 str_dict:kitOne K (.type "str") (.type "dict")=some false
 list_int:kitOne K (.type "list") (.type "int")=some false
 list_bool:kitOne K (.type "list") (.type "bool")=some false
 list_str:kitOne K (.type "list") (.type "str")=some false
 list_list:kitOne K (.type "list") (.type "list")=some true
 list_tuple:kitOne K (.type "list") (.type "tuple")=some false
 list_dict:kitOne K (.type "list") (.type "dict")=some false
 tuple_int:kitOne K (.type "tuple") (.type "int")=some false
 tuple_bool:kitOne K (.type "tuple") (.type "bool")=some false
 tuple_str:kitOne K (.type "tuple") (.type "str")=some false
 tuple_list:kitOne K (.type "tuple") (.type "list")=some false
 tuple_tuple:kitOne K (.type "tuple") (.type "tuple")=some true
 tuple_dict:kitOne K (.type "tuple") (.type "dict")=some false
 dict_int:kitOne K (.type "dict") (.type "int")=some false
 dict_bool:kitOne K (.type "dict") (.type "bool")=some false
 dict_str:kitOne K (.type "dict") (.type "str")=some false
 dict_list:kitOne K (.type "dict") (.type "list")=some false
 dict_tuple:kitOne K (.type "dict") (.type "tuple")=some false
 dict_dict:kitOne K (.type "dict") (.type "dict")=some true
 NoneType_int:kitOne K (.type "NoneType") (.type "int")=some false
 NoneType_bool:kitOne K (.type "NoneType") (.type "bool")=some false
 NoneType_str:kitOne K (.type "NoneType") (.type "str")=some false
 NoneType_list:kitOne K (.type "NoneType") (.type "list")=some false
 NoneType_tuple:kitOne K (.type "NoneType") (.type "tuple")=some false
 NoneType_dict:kitOne K (.type "NoneType") (.type "dict")=some false
theorem scK{N P:List Str}{sc:Scope}(a:sc.kind= .function:=by rfl)(b:sc.isCoroutine=false:=by rfl)(c:sc.isGenerator=false:=by rfl)(d:N.Nodup:=by decide+kernel)(e:N.take P.length=P:=by rfl)(f:∀x∈P,sc.names.lookup x=some .local\/sc.names.lookup x=some .cell:=by decide+kernel)(g:∀y∈sc.names,y.2≠ .free:=by decide+kernel):FnScope N P sc:=⟨a,b,c,d,e,f,g⟩
theorem A2m{K:Frag}{H:Hp}(i:Int):TyE K H (.int i) (.type "int"):= .of (.int i)
theorem C4f{K:Frag}{H:Hp}(b:Bool):TyE K H (.bl b) (.type "bool"):= .of (.bl b)
theorem B3n{K:Frag}{H:Hp}(z:Str):TyE K H (.str z) (.type "str"):= .of (.str z)
theorem C3j{K:Frag}{H:Hp}:TyE K H .non (.type "NoneType"):= .of .non
theorem C2r{K:Frag}{H:Hp}{a:Addr}{xs:List V}(h:H a=some (.lst xs)):TyE K H (.ref a) (.type "list"):= .of (.lst h)
theorem B8z{K:Frag}{H:Hp}{a:Addr}{xs:List V}(h:H a=some (.tup xs)):TyE K H (.ref a) (.type "tuple"):= .of (.tup h)
theorem C2c{K:Frag}{H:Hp}{a:Addr}{xs:List (Key×V)}(h:H a=some (.dK xs)):TyE K H (.ref a) (.type "dict"):= .of (.dK h)
noncomputable def A2r (lo hi:Int) (v:V):Prop:=∃i,v= .int i/\lo<=i/\i<=hi
noncomputable def A8z (K:Frag) (H:Hp) (lo hi:Int) (v:V):Prop:=∃t b1 b2,TyE K H v t/\kitOne K t (.type "int")=some b1/\kitOne K t (.type "bool")=some b2/\((b1&& !b2)=false\/∃i,v= .int i/\(i<lo\/hi<i))
section
variable{K:Frag}{H:Hp}{lo hi:Int}
theorem B8p(T:Kit K){i:Int}(h:i<lo\/hi<i):A8z K H lo hi (.int i):=⟨_,_,_,A2m i,T.int_int,T.int_bool,.inr ⟨i,rfl,h⟩⟩
end
structure Fits(K:Frag)(C C1 C2 C3 C4 C5:Addr)(b1 b2 b3 b4 b5:Bool):Prop where
 k:ExcK K C
 h1:kitOne K (.ref C) (.ref C1)=some b1
 h2:kitOne K (.ref C) (.ref C2)=some b2
 h3:kitOne K (.ref C) (.ref C3)=some b3
 h4:kitOne K (.ref C) (.ref C4)=some b4
 h5:kitOne K (.ref C) (.ref C5)=some b5
 hv:kitOne K (.ref C) (.type "ValueError")=some true
end TR
namespace L2
open PySem PySem.Spec PyProof.Rows
section
variable{κ:Type} [DecidableEq κ]
end
section
variable{P:Program}{w:World}{H:Hp}{h:Heap}{a:Addr}
end
section
variable{X:Cx}{pins:List (Addr×Obj)}{σ:St}{H:Hp}{s:Shared}{a:Addr}{y v:V}{u r:Value}{o:Option V}{A:Around}{E:Value ->Shared ->Prop}
end
section
variable{X:Cx}{pins:List (Addr×Obj)}{σ:St}{H:Hp}{s:Shared}{a:Addr}{kvs:List (Key×V)}{k:Key}{u:Value}{A:Around}{E:Value ->Shared ->Prop}
end
section
variable{X:Cx}{o i e value:Expr}{pos pos' tpos:Pos}{td ty tv:TE}
end
section
variable{X:Cx}{pos:Pos}
end
end L2
namespace L2
open PySem PySem.Spec PyProof.Rows PySem.W
noncomputable def A0x (F:List Str) (env:Env):List (Str×Addr):=F.map fun x=>(x,(env.cells.lookup x).getD 0)
noncomputable def A4e (js:List Nat) (σ:St):St:=js.map fun j=>(σ[j]?).getD none
noncomputable abbrev Cx.compF (X:Cx) (scope:Scope) (N F:List Str) (C:Addr) (s₀:Shared) (H₀:Hp) (ex:List Addr) (pins:List (Addr×Obj)):Cx:=
 {X with N:=N++F,s₀:=s₀,H₀:=H₀,env:=compEnvC scope (A0x F X.env) C X.env,outer:=X.stack,ex:=ex,fn:=fun _=>false,pn:=pins,xe:=fun _ _=>False}
structure CompScopeF(N F:List Str)(js:List Nat)(sc:Scope)(XN:List Str)(env:Env):Prop where
 kind:sc.kind= .function
 cell:∀y∈sc.names,y.2≠ .cell
 loc:∀y∈sc.names,y.2= .local ->sc.names.lookup y.1=some .local
 nd:(N++F).Nodup
 clos:closureFor sc env=pure (A0x F env)
 fr:∀y∈(relabel sc env).names,y.2= .cell\/y.2= .free ->y.1∈F
 at_:∀(k:Nat) (x:Str),F[k]?=some x ->(∃j:Nat,js[k]?=some j/\XN[j]?=some x)/\(∃c,env.cells.lookup x=some c)/\env.kindOf x=some .cell/\(relabel sc env).names.lookup x=some .cell
 jl:js.length=F.length
noncomputable def B0r (n:Nat) (js:List Nat) (wi:TI) (g:TG) (te:TE):TE:=fun σ H Q=>wi σ H fun J H1=>∀D,H1 D=none ->
 ∃ (m:Nat) (W:Nat ->List V ->Hp ->Prop),W 0 [] (upd H1 D (.lst []))/\∀i ys H2,W i ys H2 ->i<=m/\H2 D=some (.lst ys)/\((J.stop i H2/\Q (.ref D) H2)\/(i<m/\J.go i H2/\∀x H3,J.yld i H2 x H3 ->
   g x (List.replicate n none++A4e js σ) H3 fun σ4 H4=>te σ4 H4 fun y H6=>H6 D=some (.lst ys)/\ys.length<sizeLine/\W (i+1) (ys++ [y]) (upd H6 D (.lst (ys++ [y])))))
theorem C0p{F:List Str}{env:Env}{x:Str}{c:Addr}(h:(A0x F env).lookup x=some c):x∈F/\c=(env.cells.lookup x).getD 0:=by
 have:=PySem.mem_of_lookup h
 obtain⟨y,hy,e⟩:=List.mem_map.mp this
 cases e
 exact⟨hy,rfl⟩
theorem B5f{env:Env}{x:Str}:∀{F:List Str},x∈F ->(A0x F env).lookup x=some ((env.cells.lookup x).getD 0)
 | y ::F,h=>by
   show List.lookup x ((y,(env.cells.lookup y).getD 0)::A0x F env)=_
   by_cases e:x=y
   . subst e;simp[List.lookup]
   . have hb:(x==y)=false:=beq_eq_false_iff_ne.mpr e
     rw[List.lookup_cons,hb]
     exact B5f (by rcases List.mem_cons.mp h with z|z;exact absurd z e;exact z)
section
variable{X:Cx}{N F:List Str}{js:List Nat}{scope:Scope}
theorem CompScopeF.sub(S:CompScopeF N F js scope X.N X.env):∀x c,(A0x F X.env).lookup x=some c ->X.env.cells.lookup x=some c:=fun x c z=>by
 obtain⟨hx,rfl⟩:=C0p z
 obtain⟨k,hk⟩:=List.mem_iff_getElem?.mp hx
 obtain⟨_,⟨c,hc⟩,_⟩:=S.at_ k x hk
 rw[hc];rfl
theorem CompScopeF.has(S:CompScopeF N F js scope X.N X.env){x:Str}(hx:x∈F):∃c,(A0x F X.env).lookup x=some c/\X.env.cells.lookup x=some c:=
 ⟨_,B5f hx,S.sub _ _ (B5f hx)⟩
theorem A5b{pins:List (Addr×Obj)}{σ:St}{H:Hp}{s:Shared}(S:CompScopeF N F js scope X.N X.env)(I:Inv X pins σ H s){h':Heap}{m:Str ->Option Value}{C:Addr}(hc:∀x c v,X.env.cells.lookup x=some c ->s.heap.IsCell c v ->h'.IsCell c v):
   ∀(i:Nat) (x:Str) (v:V),(N++F)[i]?=some x ->(List.replicate N.length none++A4e js σ)[i]?=some (some v) ->∃u,RelV v u/\C3p (compEnvC scope (A0x F X.env) C X.env) h' m x u:=by
 intro i x v e1 e2
 by_cases hi:i<N.length
 . rw[List.getElem?_append_left (by simpa using hi),List.getElem?_replicate] at e2
   split at e2<;>cases e2
 . rw[List.getElem?_append_right (by omega)] at e1
   rw[List.getElem?_append_right (by simp;omega)] at e2
   rw[List.length_replicate] at e2
   obtain⟨⟨j,hj,hx⟩,⟨c,hcc⟩,kx,kr⟩:=S.at_ _ x e1
   unfold A4e at e2
   rw[List.getElem?_map,hj] at e2
   have e2:(σ[j]?).getD none=some v:=Option.some.inj e2
   have e3:σ[j]?=some (some v):=by
     cases q:σ[j]? with
     |none=>rw[q] at e2;cases e2
     |some o=>rw[q] at e2;exact congrArg some e2
   obtain⟨m0,_,hl⟩:=I.loc
   obtain⟨u,r,l⟩:=hl j x v hx e3 (.inr (.inl kx))
   refine⟨u,r,.inr ⟨.inl kr,c,?_,?_⟩⟩
   . obtain⟨c',h1,h2⟩:=S.has (List.mem_of_getElem? e1)
     rw[hcc] at h2
     cases h2
     exact h1
   . rcases l with⟨k,_⟩|⟨_,c',h1,h2⟩
     . rw[kx] at k;cases k
     . rw[hcc] at h1
       cases h1
       exact hc x c _ hcc h2
theorem B3d(S:CompScopeF N F js scope X.N X.env)(σ:St):(List.replicate N.length none++A4e js σ:St).length=(N++F).length:=by
 unfold A4e
 rw[List.length_append,List.length_replicate,List.length_map,S.jl,List.length_append]
end
structure CompS(N F:List Str)(sc:Scope):Prop where
 kind:sc.kind= .function
 cell:∀y∈sc.names,y.2≠ .cell
 loc:∀y∈sc.names,y.2= .local ->sc.names.lookup y.1=some .local
 fr:∀y∈sc.names,y.2= .free ->y.1∈F
 nd:(N++F).Nodup
theorem A8j{sc:Scope}{env:Env}{F:List Str}(cell:∀y∈sc.names,y.2≠ .cell)(fr:∀y∈sc.names,y.2= .free ->y.1∈F):∀y∈(relabel sc env).names,y.2= .cell\/y.2= .free ->y.1∈F:=by
 intro y hy h
 obtain⟨⟨n,k⟩,hm,e⟩:=List.mem_map.mp hy
 dsimp only at e
 split at e
 . rename_i hc
   subst e
   simp only[Bool.and_eq_true] at hc
   exact fr (n,k) hm (by simpa using hc.1.1)
 . subst e
   rcases h with h|h
   . exact absurd h (cell (n,k) hm)
   . exact fr (n,k) hm h
theorem CompScopeF.of1{N:List Str}{x:Str}{j:Nat}{sc:Scope}{XN:List Str}{env:Env}(S:CompS N [x] sc)(clos:closureFor sc env=pure (A0x [x] env))(hj:XN[j]?=some x)(hc:∃c,env.cells.lookup x=some c)(hk:env.kindOf x=some .cell)
   (hr:(relabel sc env).names.lookup x=some .cell):CompScopeF N [x] [j] sc XN env:=
 ⟨S.kind,S.cell,S.loc,S.nd,clos,A8j S.cell S.fr,fun k y h=>match k,h with
   |0,h=>by cases h;exact⟨⟨j,rfl,hj⟩,hc,hk,hr⟩
   |k+1,h=>by simp at h,rfl⟩
end L2
namespace L2
open PySem
section
variable{prog:Program}{w:World}{A:Around}{E:Value ->Shared ->Prop}{h:Heap}{g:Array GenState}{d:Drawn}{t:Nat}{os:OsState}
variable{nm q:Str}{C N:Addr}{bs bm bmB:List Value}{hdct:Bool}{sn:List Str}{sub:List Value}{ab:Bool}{col:Option Bool}{dd:Option Addr}{k0 k1 k2 k3 k5:Option Value}{B newId initId:String}
end
section
variable{M:Model}{prog:Program}{w:World}{A:Around}{E:Value ->Shared ->Prop}{s:Shared}{env:Env}
variable{nm q:Str}{C N:Addr}{bs bm bmB:List Value}{hdct:Bool}{sn:List Str}{sub:List Value}{ab:Bool}{col:Option Bool}{dd:Option Addr}{k0 k1 k2 k3 k5:Option Value}{B newId initId:String}
end
end L2
namespace L2
open PySem PySem.Spec PyProof.Rows PySem.W
section
variable{prog:Program}{w:World}{A:Around}{s:Shared}{K:Frag}{C e fI:Addr}{t:Addr}{R:Result ->Shared ->Prop}{name:Str}{tk:Tok}{v:Value}
end
section
variable{X:Cx}{pins:List (Addr×Obj)}{σ:St}{H:Hp}{s:Shared}
end
section
variable{X:Cx}{o value:Expr}{f:Str}{pos pos':Pos}{ta tv:TE}{C fI:Addr}
end
section
variable{X:Cx}{x f:Str}{p cpos pos:Pos}{e:Expr}{t:TA}{C fI:Addr}{fdI:FuncData}{ps:List Str}{EH:EK}{j k:Nat}
end
section
variable{X:Cx}{e:Expr}{f:Str}{pos:Pos}{ta:TE}
end
noncomputable def Z5 (z:Str) (n:Int):Str:=if n<1 then Str.empty else if(n==1||z.length==0)=true then z else⟨(List.replicate n.toNat z.cps).foldl (· ++ ·) #[]⟩
noncomputable def C0b:R2:=fun x y H Q=>∃z n,x= .str z/\y= .int n/\ -(2^63)<=n/\n<2^63/\z.length*n.toNat<=sizeLine/\Q (.str (Z5 z n)) H
theorem A5c(z:Array Nat):∀(k:Nat) (acc:Array Nat),((List.replicate k z).foldl (· ++ ·) acc).toList=acc.toList++(List.replicate k z.toList).flatten
 |0,acc=>by simp
 | k+1,acc=>by
   rw[List.replicate_succ,List.foldl_cons,A5c z k,Array.toList_append,List.replicate_succ,List.flatten_cons,List.append_assoc]
theorem Y7(z:Str):z.cps.toList.length=z.length:=Array.length_toList
theorem A2s(z:Str)(n:Int):(Z5 z n).cps.toList=(List.replicate n.toNat z.cps.toList).flatten:=by
 unfold Z5
 split
 . have:n.toNat=0:=by omega
   rw[this];rfl
 . split
   . rename_i h1 h2
     rcases Bool.or_eq_true _ _|>.mp h2 with h|h
     . have:n=1:=by simpa using h
       subst this
       simp
     . have e:z.length=0:=by simpa using h
       have e2:z.cps.toList=[]:=List.eq_nil_of_length_eq_zero (by rw[Y7];exact e)
       rw[e2]
       have:∀k:Nat,(List.replicate k ([]:List Nat)).flatten=[]:=fun k=>by simp
       rw[this]
   . show((List.replicate n.toNat z.cps).foldl (· ++ ·) #[]).toList=_
     rw[A5c]
     rfl
theorem A3p(z:Str)(n:Int):(Z5 z n).length=n.toNat*z.length:=by
 rw[<-Y7,A2s,B6v,Y7]
section
variable{X:Cx}
theorem Z6:OpR X (binaryOp .Mult) C0b:=by
 intro pins s σ H x y v u Q I rx ry h
 obtain⟨z,n,rfl,rfl,h1,h2,hz,q⟩:=h
 obtain⟨t,rfl⟩:=rx
 obtain⟨t',rfl⟩:=ry
 have lo:¬n< -(2^63:Int):=by omega
 have hi:¬n>=(2^63:Int):=by omega
 have hl:=A3p z n
 have hs:(Z5 z n).length<=sizeLine:=by rw[hl,Nat.mul_comm];exact hz
 refine PySem.P.mul_str (by rw[decide_eq_false lo,decide_eq_false hi];rfl) (fun n1 n2=>?_) (fun n1 n2=>A6h hz) ?_
 . intro g
   have p:0<n:=by omega
   have e:((z.length*n.toNat:Nat):Int)=(z.length:Int)*n:=by rw[Int.natCast_mul,Int.toNat_of_nonneg (by omega)]
   have c:((z.length*n.toNat:Nat):Int)<=(sizeLine:Nat):=Int.ofNat_le.mpr hz
   have k:(sizeLine:Nat)<=2^63-1:=by decide
   have k':((sizeLine:Nat):Int)<=(2^63-1:Int):=by
     have:=Int.ofNat_le.mpr k
     exact this
   have:(z.length:Int)<=(2^63-1)/n:=(Int.le_ediv_iff_mul_le p).mpr (by omega)
   omega
 . unfold Z5 at q hs
   split
   . rw[if_pos (by assumption)] at q
     exact⟨by decide,.str _,H,I.tok _,⟨_,rfl⟩,q⟩
   . rw[if_neg (by assumption)] at q hs
     split
     . rw[if_pos (by assumption)] at q
       exact⟨.str _,H,I,⟨_,rfl⟩,q⟩
     . rw[if_neg (by assumption)] at q hs
       exact⟨hs,.str _,H,I.tok _,⟨_,rfl⟩,q⟩
theorem Y5:A1v X (.type "int") (fun xs H Q=>∃z n,xs=[.str z]/\PySem.intText? z=some n/\z.length<=640/\Q (.int n) H):=by
 intro pins s σ H xs us Q I r h
 obtain⟨z,n,rfl,h1,h2,q⟩:=h
 obtain⟨u,rfl,t,rfl⟩:=A3t r
 exact KIN.call_text h1 h2 ⟨.int n,H,I.tok _,⟨_,rfl⟩,q⟩
end
section
variable{X:Cx}
end
section
variable{X:Cx}{a b:Expr}{rest:List Expr}{pos:Pos}{ta tb:TE}
end
section
variable{X:Cx}{j k:Nat}{f C:Addr}{fd:FuncData}{ps:List Str}{sp:Sp}{dvs:List V}{ds:List Value}{x m:Str}{p pos apos:Pos}{e o:Expr}{es:List Expr}{ta:TE}{t:TA}{st:Stmt}
theorem B8g{pins:List (Addr×Obj)}{σ:St}{H:Hp}{s:Shared}{Q:VK}{us:List Value}{vs:List V}(F:FnOk X.prog X.w X.K X.mg X.base (CX1 X.prog X.w) k f fd ps sp)(hr:Room k X.A)(hb:Binds X.K fd ps ds)(hd:Vals dvs ds)
   (I:Inv X pins σ H s) (r:Vals vs us) (h:sp (vs++dvs) H Q (fun C d H'=>EKF C d σ H')):wpAny (model X.prog X.w) X.A (call (.ref f) us) (EP X pins σ Q) X.xe s:=by
 have r2:Vals (vs++dvs) (us++ds):=r.append hd
 have hl:(us++ds).length=ps.length:=by rw[<-r2.length];exact F.len _ _ _ _ h
 refine wpAny_call (codeAny_mono (F.run X.A X.stack s H ⟨us,[]⟩ (us++ds) (vs++dvs) Q _ hr I.env0 (hb s us I.kIn hl) r2 h) fun r s' hq=>?_)
 cases r with
 | error e=>
   obtain⟨a,t,C,dd,H',_,_,_,_,_,hE,_⟩:=hq
   exact False.elim hE
 | ok fl=>
   cases fl with
   |ret u=>exact I.after hq
   |next=>exact False.elim hq
   |brk=>exact False.elim hq
   |cont=>exact False.elim hq
theorem C0u(D:Def X.K X.mg x ps st f fd)(F:FnOk X.prog X.w X.K X.mg X.base (CX1 X.prog X.w) j f fd ps sp)(hr:Room k X.A)(ha:PA X (e::es) t)(hj:j<=k:=by decide)(hg:Gl X x:=by rfl)(hdb:(x==("__debug__":Str))=false:=by decide)
   (he:starEach (e::es) X.env=(false,eval e X.env)::starEach es X.env:=by rfl) (hpl:(backTo pos (starEach es X.env)).any (·.1)=false:=by rfl):PE X (.Call (.Name x p) (e::es) [] pos) (A2c sp [] EKF t):=by
 intro pins s σ H Q I h
 refine wpAny_Call_Name_kw (V4 I hg D.g ?_ hdb)
 refine PySem.W.callWith_K (h₀:=X.base) I.ok.mod.kin D.F.kp (thn (ha pos pins s σ H _ I h) fun us s1 ⟨vs,H1,I1,r,q⟩=>⟨I1.kIn,?_⟩) he hpl
 exact B8g (F.mono hj) hr D.b .nil I1 r q
end
section
variable{X:Cx}{N F:List Str}{js:List Nat}{scope:Scope}
theorem B2v{pins:List (Addr×Obj)}{σ:St}{H:Hp}{s:Shared}{fp:List Addr}{h':Heap}(S:CompScopeF N F js scope X.N X.env)(I:Inv X pins σ H s)(hf:∀b∈fp,Y1 X pins H b)(hit:∀b∈fp,∃o,s.heap.get? b=some o)(hnb:∀b∈fp,X.base.get? b=none)
   (hns:h'.Ns s.heap.objs.size (fun _=>none)) (hsb:∀b o,s.heap.get? b=some o ->h'.get? b=some o) {tk:Nat}:
   Inv (X.compF scope N F s.heap.objs.size s H fp (X.pn++pins)) [] (List.replicate N.length none++A4e js σ) H {s with heap:=h',toks:=tk}:=by
 have ck:∀c v,s.heap.IsCell c v ->h'.IsCell c v:=fun c v ⟨o,e,d⟩=>⟨o,hsb _ _ e,d⟩
 have inF:∀x,((compEnvC scope (A0x F X.env) s.heap.objs.size X.env).kindOf x=some .cell\/(compEnvC scope (A0x F X.env) s.heap.objs.size X.env).kindOf x=some .free) ->x∈F:=by
   intro x z
   have z:(relabel scope X.env).names.lookup x=some .cell\/(relabel scope X.env).names.lookup x=some .free:=z
   rcases z with z|z
   . exact S.fr _ (PySem.mem_of_lookup z) (.inl rfl)
   . exact S.fr _ (PySem.mem_of_lookup z) (.inr rfl)
 refine⟨⟨I.ok.mod,S.kind,I.ok.glob,I.ok.blt,Nat.le_refl _,fun x y c z z'=>I.ok.inj x y c (S.sub x c z) (S.sub y c z'),fun x z=>?_,fun x c z _=>(nomatch z),I.ok.hd,I.ok.frames,.inl rfl,fun b hb=>?_,I.bs,Nat.le_trans I.ok.bsz I.sz,fun b o e hb=>?_,fun b hb hfs=>?_,I.stack,I.stkFree⟩,
   rfl,I.bare,Un.kept hsb,⟨_,hns,fun i x v e1 e2 e3=>A5b S I (fun x c v _ z=>ck c v z) i x v e1 e2⟩,fun x c z=>?_,I.hok.fresh (Nat.le_refl _),fun x c z=>I.freeC x c (S.sub x c z),fun p hp=>?_,I.hok.kept hsb,B3d S σ⟩
 . obtain⟨c,h1,_⟩:=S.has (inF x z)
   exact⟨c,h1⟩
 . obtain⟨oi,ei⟩:=hit b hb
   exact⟨Nat.ne_of_lt (Heap.lt_size ei),fun x c z=>(hf b hb).2.2.2.2.1 x c (S.sub x c z)⟩
 . rw[hnb b hb] at e
   cases e
 . rcases List.mem_cons.mp (I.stkSub b hfs) with z|z
   . exact(hf b hb).2.1 z
   . exact(hf b hb).2.2.1 z
 . obtain⟨v,z'⟩:=I.cell x c (S.sub x c z)
   exact⟨v,ck c v z'⟩
 . have hp':p∈X.pn++pins:=by simpa using hp
   obtain⟨q1,q2,q3,q4,q5⟩:=I.pin p hp'
   refine⟨hsb _ _ q1,q2,Nat.ne_of_lt (Heap.lt_size q1),fun z=>?_,q5⟩
   rcases List.mem_cons.mp (I.stkSub p.1 z) with z|z
   . exact q3 z
   . exact q4 z
theorem A9r{pins pl:List (Addr×Obj)}{σ σ':St}{H H':Hp}{s s':Shared}{fp:List Addr}(S:CompScopeF N F js scope X.N X.env)(I:Inv X pins σ H s)(hf:∀b∈fp,Y1 X pins H b)(J:Inv (X.compF scope N F s.heap.objs.size s H fp (X.pn++pins)) pl σ' H' s'):
   Inv (X.compF scope N F s.heap.objs.size s H fp (X.pn++pins)) [] (List.replicate N.length none++A4e js σ) H' s':=by
 obtain⟨m,hn,_⟩:=J.loc
 refine⟨J.ok,J.os,J.bare,J.base,⟨m,hn,fun i x v e1 e2 e3=>A5b S I (fun x c v z q=>?_) i x v e1 e2⟩,J.cell,J.free,J.freeC,fun p hp=>J.pin p (by
   have hp:p∈(X.pn++pins)++ []:=hp
   rw[List.append_nil] at hp
   exact List.mem_append_left _ hp),J.hok,B3d S σ⟩
 obtain⟨o,e,d⟩:=q
 have ne:c ∉ fp:=fun w=>(hf c w).2.2.2.2.1 x c z rfl
 obtain⟨sl,q⟩:=J.base.any e (I.freeC x c z) ne
 exact⟨_,q,d⟩
theorem A7u{elt target iter:Expr}{scope:Scope}{pos:Pos}{N F:List Str}{js:List Nat}{wi:TI}{g:TG}{te:TE}(S:CompScopeF N F js scope X.N X.env)(hd:U3 X)(hc0:X.calm=true)(hi:PI X target iter wi)(hex:X.ex=[])
   (hg:∀C s₀ H₀ ex pn,U3 (X.compF scope N F C s₀ H₀ ex pn) ->PG (X.compF scope N F C s₀ H₀ ex pn) target g)
   (he:∀C s₀ H₀ ex pn,U3 (X.compF scope N F C s₀ H₀ ex pn) ->PE (X.compF scope N F C s₀ H₀ ex pn) elt te)
   {pins:List (Addr×Obj)} {s:Shared} {σ:St} {H:Hp} {Q:VK} {RR:Value ->Env ->Result ->Shared ->Prop} (I:Inv X pins σ H s) (h:(B0r N.length js wi g te) σ H Q)
   (hRR:∀(D C:Addr) (s6:Shared) (H5:Hp) (mm:Str ->Option Value),Inv X pins σ H5 s6 ->s6.heap.Ns C mm ->Y1 X pins H5 C ->Q (.ref D) H5 ->RR (.ref D) (compEnvC scope (A0x F X.env) C X.env) (.ok .next) s6):
   wpAny (model X.prog X.w) X.A (eval iter X.env) (fun v s1=>wpAny (model X.prog X.w) X.A (pyIter v) (fun itv s2=>wpAny (model X.prog X.w) X.A (newList []) (fun acc s3=>wpAny (model X.prog X.w) X.A (newFunctionEnv scope X.env.globals (A0x F X.env) [] X.env.qual none .none (some X.env)) (fun cenv s4=>
     codeAny (model X.prog X.w) X.A (.compStart (.ListComp elt [⟨target,iter,[],0⟩] scope pos) 0 itv acc {cenv with scope:=relabel scope X.env}) (RR acc {cenv with scope:=relabel scope X.env}) s4) X.xe s3) X.xe s2) X.xe s1) X.xe s:=by
 refine thn (hi pins s σ H _ I h) fun v s1 h1=>thn h1 fun itv s2 h2=>?_
 obtain⟨it,fp,tn,J,H2,rfl,I2,T,st2,f2,R⟩:=h2
 have ob2:=T.obj _ _ st2
 have hf2:=I2.hok.fresh (Nat.le_refl _)
 refine wpAny_newObj_type ?_
 have I3:Inv X pins σ (upd H2 s2.heap.objs.size (.lst [])) {s2 with heap:=s2.heap.push {cls:= .type "list",dict:=none,data:= .seq ([]:List Value).toArray}}:=Inv.lnew (t':=s2.toks) I2 .nil (Nat.zero_le _)
 refine wpAny_newFunctionEnv S.cell (by intro y hy;simp at hy) (fun h4 hns hsb=>?_) S.kind
 dsimp only at hns hsb ⊢
 generalize hG:s2.heap.push {cls:= .type "list",dict:=none,data:= .seq ([]:List Value).toArray}=G at I3 hns hsb ⊢
 generalize hD:s2.heap.objs.size=D at I3 hf2
 have nD:∀b∈fp,b≠D:=fun b hb=>by
   obtain⟨o,eo,_⟩:=ob2 b hb
   rw[<-hD];exact Nat.ne_of_lt (Heap.lt_size eo)
 have eiG:∀b∈fp,∃o,G.get? b=some o:=fun b hb=>by
   obtain⟨o,eo,_⟩:=ob2 b hb
   exact⟨o,by rw[<-hG];exact Heap.get?_push_of_some _ eo⟩
 have kp:∀b o,G.get? b=some o ->h4.get? b=some o:=fun b o e=>hsb.extBut b o (Nat.ne_of_lt (Heap.lt_size e)) (Heap.get?_push_of_some _ e)
 have f3:∀b∈fp,Y1 X pins (upd H2 D (.lst [])) b:=fun b hb=>⟨by rw[D3 (nD b hb)];exact(f2 b hb).1,(f2 b hb).2⟩
 have nb:∀b∈fp,X.base.get? b=none:=fun b hb=>by
   cases q:X.base.get? b with
   |none=>rfl
   | some o=>
     have:=(I.ok.bs b o q).1
     rcases(f2 b hb).2.2.2.1 with z|z
     . rw[hex] at z;simp at z
     . exact absurd (Nat.lt_of_lt_of_le (Heap.lt_size this) z) (Nat.lt_irrefl _)
 have hns':h4.Ns G.objs.size (fun _=>none):=by
   obtain⟨o,es,ep,q1,q2,q3,q4⟩:=hns
   exact⟨o,es,ep,q1,q2,q3,fun x=>by rw[q4];rfl⟩
 have I4:=B2v (tk:=s2.toks+([]:List (Str×Value)).length) S I3 f3 eiG nb hns' kp
 have hdc:U3 (X.compF scope N F G.objs.size {s2 with heap:=G} (upd H2 D (.lst [])) fp (X.pn++pins)):=by
   rcases hd with z|⟨x,o,u,vs,z,e,d,n⟩
   . exact .inl z
   . refine .inr ⟨x,o,u,vs,z,?_,d,n⟩
     have q:=I2.base.frzs x o u e
     show upd H2 D (.lst []) x=_
     rw[D3 fun w=>by rw[w,hf2] at q;cases q]
     exact q
 obtain⟨m,W,w0,turn⟩:=R D hf2
 have gg:=hg _ _ _ _ _ hdc
 have ee:=he _ _ _ _ _ hdc
 have fpc:∀{H':Hp} {σ':St} {s':Shared} {pl:List (Addr×Obj)},Inv (X.compF scope N F G.objs.size {s2 with heap:=G} (upd H2 D (.lst [])) fp (X.pn++pins)) pl σ' H' s' ->(∀b∈fp,H' b=none) ->(∀b∈fp,∀p∈pl,p.1≠b) ->∀b∈fp,Y1 (X.compF scope N F G.objs.size {s2 with heap:=G} (upd H2 D (.lst [])) fp (X.pn++pins)) pl H' b:=by
   intro H' σ' s' pl J' hn hp b hb
   obtain⟨oi,ei⟩:=eiG b hb
   refine⟨hn b hb,Nat.ne_of_lt (Heap.lt_size ei),?_,.inl hb,(fun x c z=>(f2 b hb).2.2.2.2.1 x c (S.sub x c z)),fun p hpp=>?_⟩
   . intro z
     rcases List.mem_cons.mp (I.stkSub b z) with z|z
     . exact(f2 b hb).2.1 z
     . exact(f2 b hb).2.2.1 z
   . rcases List.mem_append.mp hpp with z|z
     . exact(f2 b hb).2.2.2.2.2 p z
     . exact hp b hb p z
 have loop:codeAny (model X.prog X.w) X.A (.compLoop (.ListComp elt [⟨target,iter,[],0⟩] scope pos) 0 (.ref it) (.ref D) (compEnvC scope (A0x F X.env) G.objs.size X.env))
     (RR (.ref D) (compEnvC scope (A0x F X.env) G.objs.size X.env))
     {s2 with heap:=h4,toks:=s2.toks+([]:List (Str×Value)).length}:=by
   refine A6y (fun k s'=>∃i ys H',k=m+1-i/\Inv (X.compF scope N F G.objs.size {s2 with heap:=G} (upd H2 D (.lst [])) fp (X.pn++pins)) [] (List.replicate N.length none++A4e js σ) H' s'/\tn i s'.heap/\(∀b∈fp,H' b=none)/\W i ys H') ?_ (m+1)
     ⟨0,[],_,rfl,I4,T.keep _ _ _ st2 fun b hb o e=>kp b o (by rw[<-hG];exact Heap.get?_push_of_some _ e),fun b hb=>(f3 b hb).1,w0⟩
   rintro k s5 ⟨i,ys,H5,rfl,I5,st5,n5,w5⟩
   obtain⟨hi5,hD5,w5⟩:=turn i ys H5 w5
   rcases w5 with⟨stop,q⟩|⟨lt5,go,step⟩
   . refine wpAny_mono (T.done (X.compF scope N F G.objs.size {s2 with heap:=G} (upd H2 D (.lst [])) fp (X.pn++pins)) rfl rfl rfl hc0 i [] s5 _ H5 (fun _ _=>False) I5 (fpc I5 n5 (by simp)) st5 stop) (fun r s6 z=>?_) (fun _ _ z=>z.elim)
     obtain⟨rfl,I6⟩:=z
     obtain⟨mm,hn6,_⟩:=I6.loc
     have B6:=I6.base
     have J6:Inv X pins σ H5 s6:=by
       refine I3.call' (ch:=fp) I6.os ⟨B6.keep,B6.slot,B6.free,B6.there,B6.tups,B6.frzs,B6.tbls⟩ I6.hok I6.bare (fun b hb=>⟨(f2 b hb).2.2.2.1,(f2 b hb).2.1,(f2 b hb).2.2.2.2.1,(f2 b hb).2.2.2.2.2⟩)
     have szG:X.s₀.heap.objs.size<=G.objs.size:=I3.sz
     refine hRR D G.objs.size s6 H5 mm J6 hn6 ⟨I6.free,?_,?_,.inr szG,?_,?_⟩ q
     . exact Nat.ne_of_gt I3.lt
     . intro z
       obtain⟨_,o,ho,_⟩:=I3.funs.mem z
       exact Nat.lt_irrefl _ (Heap.lt_size ho)
     . rintro x c z rfl
       obtain⟨v',o,ho,_⟩:=I3.cell x _ z
       exact Nat.lt_irrefl _ (Heap.lt_size ho)
     . rintro p hp z
       have zz:=(I3.pin p hp).1
       rw[z] at zz
       exact Nat.lt_irrefl _ (Heap.lt_size zz)
   . refine wpAny_mono (T.item (X.compF scope N F G.objs.size {s2 with heap:=G} (upd H2 D (.lst [])) fp (X.pn++pins)) rfl rfl rfl hc0 i [] s5 _ H5 (fun _ _=>False) I5 (fpc I5 n5 (by simp)) st5 go) (fun r s6 z=>?_) (fun _ _ z=>z.elim)
     obtain⟨u,rfl,z⟩:=z
     refine wpAny_mono z (fun _ s7 z=>?_) (fun _ _ z=>z.elim)
     obtain⟨x,H7,I7,rx,yl,st7,fr7⟩:=z
     have ob7:=T.obj _ _ st7
     have I7':Inv (X.compF scope N F G.objs.size {s2 with heap:=G} (upd H2 D (.lst [])) fp (X.pn++pins)) (Z4 fp s7.heap) (List.replicate N.length none++A4e js σ) H7 s7:=I7.pinned (fpc I7 fr7 (by simp)) ob7
     have back:∀{i':Nat} {ys':List V} {H':Hp} {σ':St} {s':Shared},i'=i+1 ->Inv (X.compF scope N F G.objs.size {s2 with heap:=G} (upd H2 D (.lst [])) fp (X.pn++pins)) (Z4 fp s7.heap) σ' H' s' ->W i' ys' H' ->
         ∃k',k'<m+1-i/\∃i ys H',k'=m+1-i/\Inv (X.compF scope N F G.objs.size {s2 with heap:=G} (upd H2 D (.lst [])) fp (X.pn++pins)) [] (List.replicate N.length none++A4e js σ) H' s'/\tn i s'.heap/\(∀b∈fp,H' b=none)/\W i ys H':=by
       rintro i' ys' H' σ' s' rfl J' w'
       refine⟨m+1-(i+1),by omega,i+1,ys',H',rfl,A9r S I3 f3 J',T.keep _ _ _ st7 fun b hb o z=>(J'.pin (b,o) (List.mem_append_right _ (Z8 hb z))).1,fun b hb=>?_,w'⟩
       obtain⟨o,eo,_⟩:=ob7 b hb
       exact(J'.pin (b,o) (List.mem_append_right _ (Z8 hb eo))).2.1
     refine wpAny_mono (gg (Z4 fp s7.heap) s7 _ H7 x u _ I7' rx (step x H7 yl)) (fun _ s8 z=>?_) (fun _ _ z=>z.elim)
     obtain⟨σ8,H8,I8,q8⟩:=z
     refine wpAny_mono (ee (Z4 fp s7.heap) s8 σ8 H8 _ I8 q8) (fun y s10 z=>?_) (fun _ _ z=>z.elim)
     obtain⟨yv,H10,I10,ry,hD10,hz10,w10⟩:=z
     refine wpAny_mono (A1z (X:=X.compF scope N F G.objs.size {s2 with heap:=G} (upd H2 D (.lst [])) fp (X.pn++pins)) (Z4 fp s7.heap) s10 σ8 H10 (.ref D) [yv] (.ref D) [y] (fun _ H11=>W (i+1) (ys++ [yv]) H11) I10 rfl (.cons ry .nil) ⟨D,ys,yv,rfl,rfl,hD10,hz10,w10⟩) (fun _ s11 z=>?_) (fun _ _ z=>z.elim)
     obtain⟨_,H11,I11,_,w11⟩:=z
     exact back rfl I11 w11
 exact codeAny_compStart_list loop (T.self _ 0 _ _ _ (T.keep _ _ _ st2 fun b hb o e=>kp b o (by rw[<-hG];exact Heap.get?_push_of_some _ e)) loop)
theorem B2j{elt target iter:Expr}{pos:Pos}{wi:TI}{g:TG}{te:TE}(S:CompScopeF N F js scope X.N X.env)(hd:U3 X)(hc0:X.calm=true)(hi:PI X target iter wi)(hex:X.ex=[])
   (hg:∀C s₀ H₀ ex pn,U3 (X.compF scope N F C s₀ H₀ ex pn) ->PG (X.compF scope N F C s₀ H₀ ex pn) target g)
   (he:∀C s₀ H₀ ex pn,U3 (X.compF scope N F C s₀ H₀ ex pn) ->PE (X.compF scope N F C s₀ H₀ ex pn) elt te)
   (hs:∀x,foldedSetIterable iter X.env x=pure x:=by intro _;rfl):PE X (.ListComp elt [⟨target,iter,[],0⟩] scope pos) (B0r N.length js wi g te):=by
 intro pins s σ H Q I h
 rw[eval_ListComp]
 refine wpAny_comprehension_free (use:=none) rfl hs S.clos S.kind S.loc (A7u S hd hc0 hi hex hg he I h (RR:=fun acc ce r s'=>compPost (model X.prog X.w) X.A X.xe none (EP X pins σ Q) acc ce.locals r s') ?_)
 intro D C s6 H5 mm I6 n6 f6 q
 exact⟨mm,n6,fun h' sb=>⟨.ref D,H5,B5a I6 f6 sb,rfl,q⟩⟩
end
section
variable{X:Cx}{pins:List (Addr×Obj)}{σ:St}{H:Hp}{s:Shared}{h':Heap}
end
section
variable{X:Cx}{es:List Expr}{k:Nat}{tp:Pos}
end
noncomputable def C2h (D:Addr) (H H':Hp):Prop:=∀b o,H b=some o ->b≠D ->H' b=some o
theorem A4q{J:It}{g:TG}{te:TE}{σ0:St}{H1:Hp}{QD:Addr ->Hp ->Prop}{n:Nat}(R:Nat ->V ->Hp ->Prop)(hn:n<=1000)
   (mono:∀i y H' H'' D l,R i y H' ->H' D=some (.lst l) ->C2h D H' H'' ->R i y H'')
   (step:∀i H2 Qy,i<n ->Same H1 H2 ->(∀y H6,Same H2 H6 ->R i y H6 ->Qy y H6) ->J.go i H2/\∀x H3,J.yld i H2 x H3 ->g x σ0 H3 fun σ4 H4=>te σ4 H4 Qy)
   (stop:∀H2,Same H1 H2 ->J.stop n H2)
   (k:∀D H' ys,Same H1 H' ->H1 D=none ->H' D=some (.lst ys) ->ys.length=n ->(∀i y,ys[i]?=some y ->R i y H') ->QD D H'):∀D,H1 D=none ->
   ∃ (m:Nat) (W:Nat ->List V ->Hp ->Prop),W 0 [] (upd H1 D (.lst []))/\∀i ys H2,W i ys H2 ->i<=m/\H2 D=some (.lst ys)/\((J.stop i H2/\QD D H2)\/(i<m/\J.go i H2/\∀x H3,J.yld i H2 x H3 ->
     g x σ0 H3 fun σ4 H4=>te σ4 H4 fun y H6=>H6 D=some (.lst ys)/\ys.length<sizeLine/\W (i+1) (ys++ [y]) (upd H6 D (.lst (ys++ [y]))))):=by
 intro D hD
 refine⟨n,fun i ys H2=>i<=n/\ys.length=i/\H2 D=some (.lst ys)/\Same H1 H2/\∀j y,ys[j]?=some y ->R j y H2,⟨Nat.zero_le _,rfl,A9,Same.upd hD,fun j y h=>by simp at h⟩,?_⟩
 rintro i ys H2 ⟨hi,hl,hd,sm,hR⟩
 refine⟨hi,hd,?_⟩
 by_cases hlt:i<n
 . refine .inr ⟨hlt,step i H2 _ hlt sm fun y H6 s6 r6=>?_⟩
   have d6:H6 D=some (.lst ys):=s6 _ _ hd
   have ex:C2h D H6 (upd H6 D (.lst (ys++ [y]))):=fun b o e hb=>by rw[D3 hb];exact e
   refine⟨d6,Nat.lt_of_le_of_lt (by omega:ys.length<=1000) (V8 (Nat.le_refl _)),hlt,by simp[hl],A9,fun b o e=>?_,fun j z hj=>?_⟩
   . rw[D3 (G5 e hD)]
     exact s6 _ _ (sm _ _ e)
   . by_cases hj':j<ys.length
     . rw[List.getElem?_append_left hj'] at hj
       exact mono j z H6 _ D ys (mono j z H2 H6 D ys (hR j z hj) hd fun b o e _=>s6 _ _ e) d6 ex
     . rw[List.getElem?_append_right (by omega)] at hj
       have e0:j-ys.length=0:=by
         apply Classical.byContradiction
         intro q
         rw[List.getElem?_eq_none (by simp;omega)] at hj
         cases hj
       rw[e0] at hj
       have ej:j=i:=by omega
       subst ej
       cases hj
       exact mono _ _ H6 _ D ys r6 d6 ex
 . have e:i=n:=by omega
   subst e
   exact .inl ⟨stop H2 sm,k D H2 ys sm hD hd hl hR⟩
open AutoSeq1 (wpAny_loadPart')
section
variable{prog:Program}{w:World}{A:Around}{E:Value ->Shared ->Prop}{s:Shared}
end
section
variable{X:Cx}{es:List Expr}{k:Nat}{tp:Pos}
end
end L2
namespace L2
open PySem PySem.Spec PyProof.Rows PySem.W
section
variable{X:Cx}
end
end L2
namespace L2
open PySem PySem.W PyProof.Rows
section
variable{X:Cx}{o e:Expr}{ta:TE}{m:Str}{apos pos:Pos}{j k:Nat}{ps:List Str}{ι:Type}{cw f:ι ->Addr}{fd:ι ->FuncData}{sp:ι ->Sp}{EH:EK}
end
section
variable{X:Cx}{a b e o:Expr}{es:List Expr}{ta tb te to:TE}{t:TA}{pos:Pos}{st:Stmt}{rest:List Stmt}{ts u:TS}
end
end L2
namespace L2
open PySem PySem.Spec PyProof.Rows PySem.W
section
variable{X:Cx}{x f:Str}{p cpos pos:Pos}{e:Expr}{t:TA}{C fI:Addr}{fdI:FuncData}{ps:List Str}{j k:Nat}
end
section
variable{X:Cx}{x y:Str}{e:Expr}{t:TE}{p q:Pos}{pos pos2:Pos}
end
end L2
namespace L2
open PySem PySem.Spec PyProof.Rows
end L2
namespace L2
open PySem PySem.Spec PyProof.Rows PySem.W
mutual
inductive RdR(H:Hp):V ->PyData ->Prop where
 |non:RdR H .non .none
 |bl (b:Bool):RdR H (.bl b) (.bool b)
 |int (i:Int):RdR H (.int i) (.int i)
 |str (x:Str):RdR H (.str x) (.str x)
 |tup {a:Addr} {xs:List V} {ds:List PyData} (h:H a=some (.tup xs)) (r:RdRs H xs ds):RdR H (.ref a) (.tuple ds)
 |lst {a:Addr} {xs:List V} {ds:List PyData} (h:H a=some (.lst xs)) (n:a≠sysModules) (r:RdRs H xs ds):RdR H (.ref a) (.list ds)
 |dct0 {a:Addr} (h:H a=some (.dK [])):RdR H (.ref a) (.dict [])
 |dct1 {a:Addr} {z:Str} {b:Bool} (h:H a=some (.dK [(.inr z,.bl b)])):RdR H (.ref a) (.dict [(.str z,.bool b)])
inductive RdRs(H:Hp):List V ->List PyData ->Prop where
 |nil:RdRs H [] []
 |cons {x:V} {xs:List V} {d:PyData} {ds:List PyData} (h:RdR H x d) (r:RdRs H xs ds):RdRs H (x::xs) (d::ds)
end
mutual
theorem RdR.same{H H':Hp}(s:∀b o,H b=some o ->H' b=some o):∀{x:V} {d:PyData},RdR H x d ->RdR H' x d
 |_,_,.non=> .non
 |_,_,.bl b=> .bl b
 |_,_,.int i=> .int i
 |_,_,.str x=> .str x
 |_,_,.tup h r=> .tup (s _ _ h) (RdRs.same s r)
 |_,_,.lst h n r=> .lst (s _ _ h) n (RdRs.same s r)
 |_,_,.dct0 h=> .dct0 (s _ _ h)
 |_,_,.dct1 h=> .dct1 (s _ _ h)
theorem RdRs.same{H H':Hp}(s:∀b o,H b=some o ->H' b=some o):∀{x:List V} {d:List PyData},RdRs H x d ->RdRs H' x d
 |_,_,.nil=> .nil
 |_,_,.cons h r=> .cons (RdR.same s h) (RdRs.same s r)
end
section
variable{X:Cx}
mutual
theorem RdR.reads{pins:List (Addr×Obj)}{σ:St}{H:Hp}{s:Shared}(I:Inv X pins σ H s):∀{x:V} {d:PyData} {u:Value},RdR H x d ->RelV x u ->∃as,Reads s.heap u d as/\sysModules ∉ as
 |_,_,_,.non,r=>by cases r;exact⟨_,.none,by simp⟩
 |_,_,_,.bl b,r=>by cases r;exact⟨_,.bool b,by simp⟩
 |_,_,_,.int i,r=>by obtain⟨t,rfl⟩:=r;exact⟨_,.int i t,by simp⟩
 |_,_,_,.str x,r=>by obtain⟨t,rfl⟩:=r;exact⟨_,.str x t,by simp⟩
 | _,_,_,.tup h q,r=>by
   cases r
   obtain⟨_,its,rv,o,e,c,n,d⟩:=I.hok _ _ h
   obtain⟨as,z,y⟩:=RdRs.reads I q rv
   exact⟨_,.tuple e c d (by simpa using z),y⟩
 | _,_,_,.lst (a:=a) h nn q,r=>by
   cases r
   obtain⟨_,its,n,rv,e⟩:=I.hok _ _ h
   obtain⟨as,z,y⟩:=RdRs.reads I q rv
   refine⟨_,.list e rfl rfl (by simpa using z),fun hm=>?_⟩
   rcases List.mem_cons.mp hm with hm|hm
   . exact nn hm.symm
   . exact y hm
 | _,_,_,.dct0 (a:=a) h,r=>by
   cases r
   obtain⟨_,nS,vs,kv,o,es,ep,e,c,d,_,ps,_⟩:=I.hok _ _ h
   cases kv
   cases hp:es.toList with
   |cons _ _=>rw[hp] at ps;cases ps
   | nil=>
     refine⟨_,.dict (kvs:=[]) e c.1 d (by rw[hp];exact .nil) (by rw[hp];exact .nil),fun hm=>?_⟩
     exact beq_eq_false_iff_ne.mp nS (by simpa using hm:sysModules=a).symm
 | _, _, _,.dct1 (a:=a) (z:=z) (b:=b) h,r=>by
   cases r
   obtain⟨_,nS,vs,kv,o,es,ep,e,c,d,_,ps,_⟩:=I.hok _ _ h
   cases kv with
   | cons k1 k2=>
     cases k2
     obtain⟨k1a,k1b⟩:=k1
     cases ps':es.toList with
     |nil=>rw[ps'] at ps;cases ps
     | cons en rest=>
       rw[ps'] at ps
       cases ps with
       | cons p1 p2 p3=>
         cases p3
         have hk:∃t,en.key= .str z t:=by
           rw[<-k1a] at p1
           have p1:Value.isStrOf z en.key=true:=p1
           cases hk:en.key<;>rw[hk] at p1<;>simp[Value.isStrOf] at p1
           subst p1
           exact⟨_,rfl⟩
         obtain⟨t,hk⟩:=hk
         have hv:en.val= .bool b:=p2.trans k1b
         refine⟨_,.dict (kvs:=[(.str z,.bool b)]) e c.1 d (by rw[ps'];show ReadsAll s.heap [en.key] [.str z] _;rw[hk];exact .cons (.str z t) .nil) (by rw[ps'];show ReadsAll s.heap [en.val] [.bool b] _;rw[hv];exact .cons (.bool b) .nil),fun hm=>?_⟩
         exact beq_eq_false_iff_ne.mp nS (by simpa using hm:sysModules=a).symm
theorem RdRs.reads{pins:List (Addr×Obj)}{σ:St}{H:Hp}{s:Shared}(I:Inv X pins σ H s):∀{xs:List V} {ds:List PyData} {us:List Value},RdRs H xs ds ->Vals xs us ->∃as,ReadsAll s.heap us ds as/\sysModules ∉ as
 |_,_,_,.nil,r=>by cases r;exact⟨_,.nil,by simp⟩
 | _,_,_,.cons h q,r=>by
   cases r with
   | cons r1 r2=>
     obtain⟨as,z,n1⟩:=RdR.reads I h r1
     obtain⟨bs,y,n2⟩:=RdRs.reads I q r2
     exact⟨_,.cons z y,by simp[n1,n2]⟩
end
end
section
variable{X:Cx}{j k:Nat}{f C:Addr}{fd:FuncData}{ps:List Str}{sp:Sp}{dvs:List V}{ds:List Value}{x m:Str}{p pos apos:Pos}{e o:Expr}{es:List Expr}{ta:TE}{t:TA}{st:Stmt}
end
section
variable{cs:List Addr}{H H' H2:Hp}{b:Addr}{P:Program}{w:World}{h h':Heap}{fs:List Addr}
end
section
variable{X:Cx}{j k:Nat}{f:Addr}{fd:FuncData}{ps:List Str}{sp:Sp}{ds:List Value}{EH:EK}{x:Str}{p pos:Pos}{e:Expr}{es:List Expr}{t:TA}{st:Stmt}
end
section
variable{X:Cx}
end
noncomputable def Its (z:Str):It:=⟨fun i _=>i<z.cps.size,fun i H x H'=>H'=H/\∃c,z.cps[i]?=some c/\x= .str ⟨#[c]⟩,fun i _=>z.cps.size<=i⟩
theorem B3e{P:Program}{w:World}{K:PySem.W.Frag}{tg:Expr}{ty:String}(hty:ty="str_ascii_iterator"\/ty="str_iterator")(it:Addr)(z:Str)(t:Tok):Turn P w K tg (Its z) [it] it (fun i h=>h.IsStrIter it ty z t i) where
 mem:=by simp
 obj:=fun i h st b hb=>by
   have e:b=it:=by simpa using hb
   subst e
   obtain⟨o,e,c,d⟩:=st
   exact⟨o,e,fun v z=>by rw[d] at z;cases z⟩
 keep:=fun i h h' st k=>let⟨o,e,r⟩:=st;⟨o,k it (by simp) o e,r⟩
 item:=by
   intro X hP hw hK hc i pins s σ H E I hf st hg
   subst hP hw hK
   have hi:i<z.cps.size:=hg
   obtain⟨f0,f1,f2,f3,f4,f5⟩:=hf it (by simp)
   have fin:∀h',h'.IsStrIter it ty z t (i+1) ->Heap.SameBut it s.heap h' ->∃u,some (Value.str ⟨#[z.cps[i]]⟩ s.toks)=some u/\
       wpAny (model X.prog X.w) X.A (letOwnedTupleGo tg (.ref it) u) (fun _ s2=>∃x H',Inv X pins σ H' s2/\RelV x u/\(Its z).yld i H x H'/\s2.heap.IsStrIter it ty z t (i+1)/\∀b∈ [it],H' b=none) E {s with heap:=h',toks:=s.toks+1}:=fun h' st' sb=>by
     have I1:Inv X pins σ H {s with heap:=h',toks:=s.toks+1}:=I.turned (fun b o hb e=>(sb.2 b hb).trans e) f0 f1 f3 f4 f5
     obtain⟨o,e,c,d⟩:=id st'
     exact⟨_,rfl,B0x (s:={s with heap:=h',toks:=s.toks+1}) e c d (by rcases hty with rfl|rfl<;>decide) ⟨.str ⟨#[z.cps[i]]⟩,H,I1,⟨_,rfl⟩,⟨rfl,_,by simp[hi],rfl⟩,st',fun b hb=>(hf b hb).1⟩⟩
   rcases hty with rfl|rfl
   . exact wpAny_pyNext_ascii_item st (c:=z.cps[i]) (by simp[hi]) fin
   . exact wpAny_pyNext_wide_item st (c:=z.cps[i]) (by simp[hi]) fin
 done:=by
   intro X hP hw hK hc i pins s σ H E I hf st hg
   subst hP hw hK
   have hi:z.cps.size<=i:=hg
   obtain⟨f0,f1,f2,f3,f4,f5⟩:=hf it (by simp)
   rcases hty with rfl|rfl
   . exact wpAny_pyNext_ascii_end (I.ok.hd hc) st (by simp;omega) fun h' eb=>⟨rfl,I.turned (t':=s.toks) (fun b o hb e=>eb b o hb e) f0 f1 f3 f4 f5⟩
   . exact wpAny_pyNext_wide_end (I.ok.hd hc) st (by simp;omega) fun h' eb=>⟨rfl,I.turned (t':=s.toks) (fun b o hb e=>eb b o hb e) f0 f1 f3 f4 f5⟩
 self:=fun _ _ _ _ _ st h=>by
   rcases hty with rfl|rfl
   . exact wpAny_pyIter_striter_ascii st h
   . exact wpAny_pyIter_striter_wide st h
section
variable{X:Cx}{tg:Expr}
noncomputable def C4d (tl:TE):TI:=fun σ H R=>tl σ H fun x H1=>∃z,x= .str z/\R (Its z) H1
theorem B9r{l:Expr}{tl:TE}(hl:PE X l tl):PI X tg l (C4d tl):=by
 intro pins s σ H R I h
 refine thn (hl pins s σ H _ I h) fun v s1 hh_=>?_
 obtain⟨x,H1,I1,r1,q1⟩:=hh_
 obtain⟨z,e,q⟩:=q1
 subst e
 obtain⟨t,rfl⟩:=r1
 have fin:∀(ty:String),ty="str_ascii_iterator"\/ty="str_iterator" ->PIE X pins σ tg R (.ref s1.heap.objs.size) {s1 with heap:=s1.heap.push {cls:= .type ty,data:= .fields #[.str z t,.int 0 0]}}:=fun ty hty=>by
   refine⟨s1.heap.objs.size,[s1.heap.objs.size],_,_,H1,rfl,I1.kept (t':=s1.toks) fun b o e=>Heap.get?_push_of_some _ e,B3e hty _ z t,⟨_,Heap.get?_push_size _ rfl,rfl,rfl⟩,fun b hb=>?_,q⟩
   have e:b=s1.heap.objs.size:=by simpa using hb
   subst e
   exact I1.fpOk (Nat.le_refl _) (I1.hok.fresh (Nat.le_refl _))
 cases ha:z.cps.all (· <128)
 . exact wpAny_pyIter_wide ha (fin _ (.inr rfl))
 . exact wpAny_pyIter_ascii ha (fin _ (.inl rfl))
end
theorem B8s{z:Str}{g:TG}{tb:TS}{D:Ends}{σ:St}{H:Hp}(Pv:Nat ->St ->Hp ->Prop)(h0:Pv 0 σ H)
   (hs:∀i c σ H,z.cps[i]?=some c ->Pv i σ H ->g (.str ⟨#[c]⟩) σ H fun σ2 H2=>tb {D with nx:=Pv (i+1),ct:=Pv (i+1),bk:=D.nx} σ2 H2) (hd:∀σ H,Pv z.cps.size σ H ->D.nx σ H):
   ∃ W:Nat ->Nat ->St ->Hp ->Prop,(∃m,W 0 m σ H)/\∀i m σ H,W i m σ H ->
     ((Its z).stop i H/\D.nx σ H)\/((Its z).go i H/\∃N:St ->Hp ->Prop,(∀σ' H',N σ' H' ->∃m',m'<m/\W (i+1) m' σ' H')/\∀x H',(Its z).yld i H x H' ->g x σ H' fun σ2 H2=>tb {D with nx:=N,ct:=N,bk:=D.nx} σ2 H2):=by
 refine⟨fun i m σ H=>m=z.cps.size-i/\i<=z.cps.size/\Pv i σ H,⟨z.cps.size,by simp,Nat.zero_le _,h0⟩,?_⟩
 rintro i m σ H ⟨rfl,hi,p⟩
 by_cases hlt:i<z.cps.size
 . refine .inr ⟨hlt,Pv (i+1),fun σ' H' p'=>⟨z.cps.size-(i+1),by omega,rfl,hlt,p'⟩,fun x H' y=>?_⟩
   obtain⟨e,c,hc,rfl⟩:=y
   subst e
   exact hs i c σ _ hc p
 . have e:i=z.cps.size:=by omega
   subst e
   exact .inl ⟨Nat.le_refl _,hd σ H p⟩
section
variable{X:Cx}
end
section
variable{prog:Program}{w:World}{A:Around}{E:Value ->Shared ->Prop}{s:Shared}
end
section
variable{X:Cx}{pos:Pos}
end
section
variable{X:Cx}{pos tpos pa pb:Pos}
end
section
variable{X:Cx}{N F:List Str}{js:List Nat}{scope:Scope}
end
section
variable{X:Cx}{tg:Expr}
end
section
variable{X:Cx}{pins:List (Addr×Obj)}{σ:St}{H:Hp}{s:Shared}
end
section
variable{X:Cx}{tg:Expr}
end
end L2
namespace TR
open PySem L2 PySem.W PyProof.Rows
structure OwnK(K:Frag):Prop where
 isi:nsIn K mainGlobals "isinstance"=some none
 int_:nsIn K mainGlobals "int"=some none
 bool_:nsIn K mainGlobals "bool"=some none
 str_:nsIn K mainGlobals "str"=some none
 list_:nsIn K mainGlobals "list"=some none
 tuple_:nsIn K mainGlobals "tuple"=some none
 dict_:nsIn K mainGlobals "dict"=some none
 len_:nsIn K mainGlobals "len"=some none
 range_:nsIn K mainGlobals "range"=some none
 min_:nsIn K mainGlobals "min"=some none
 max_:nsIn K mainGlobals "max"=some none
 abs_:nsIn K mainGlobals "abs"=some none
 any_:nsIn K mainGlobals "any"=some none
 all_:nsIn K mainGlobals "all"=some none
 sum_:nsIn K mainGlobals "sum"=some none
 repr_:nsIn K mainGlobals "repr"=some none
 enumerate_:nsIn K mainGlobals "enumerate"=some none
 reversed_:nsIn K mainGlobals "reversed"=some none
 zip_:nsIn K mainGlobals "zip"=some none
 sorted_:nsIn K mainGlobals "sorted"=some none
 divmod_:nsIn K mainGlobals "divmod"=some none
 set_:nsIn K mainGlobals "set"=some none
 ValueError_:nsIn K mainGlobals "ValueError"=some none
theorem OwnK.go{K:Frag}{h:Heap}{mg:Str ->Option Value}(u:OwnK K)(X:K.In h)(G:h.Ns mainGlobals mg):Own mg:=⟨mg_none_of X G u.isi,mg_none_of X G u.int_,mg_none_of X G u.bool_,mg_none_of X G u.str_,mg_none_of X G u.list_,mg_none_of X G u.tuple_,mg_none_of X G u.dict_,mg_none_of X G u.len_,mg_none_of X G u.range_,mg_none_of X G u.min_,mg_none_of X G u.max_,mg_none_of X G u.abs_,mg_none_of X G u.any_,mg_none_of X G u.all_,mg_none_of X G u.sum_,mg_none_of X G u.repr_,mg_none_of X G u.enumerate_,mg_none_of X G u.reversed_,mg_none_of X G u.zip_,mg_none_of X G u.sorted_,mg_none_of X G u.divmod_,mg_none_of X G u.set_,mg_none_of X G u.ValueError_⟩
end TR
namespace L2
open PySem PySem.Spec PyProof.Rows PySem.W
section
variable{X:Cx}{j k:Nat}{f:Addr}{EH:EK}{x y:Str}{p p1 pos:Pos}
end
section
variable{X:Cx}{N F:List Str}{js:List Nat}{scope:Scope}
end
section
variable{X:Cx}{N F:List Str}{js:List Nat}{scope:Scope}
end
section
variable{P:Program}{w:World}{K:Frag}{mg:Str ->Option Value}{base:Heap}{k:Nat}{f:Addr}{fd:FuncData}{ps:List Str}{sp:Sp}
end
section
variable{P:Program}{w:World}{K:Frag}{mg:Str ->Option Value}{base:Heap}
end
section
variable{X:Cx}{k j:Nat}{f C:Addr}{fd:FuncData}{ps:List Str}{sp:Sp}{dvs:List V}{ds:List Value}{EH:EK}{x m:Str}{st:Stmt}{p pos apos:Pos}{e o:Expr}{es:List Expr}{ta:TE}{t:TA}
end
section
variable{X:Cx}
end
section
variable{X:Cx}{x:Str}{p cpos pos:Pos}{e:Expr}{es:List Expr}{t:TA}{C:Addr}{bmB:List Value}{B newId initId:String}{EH:EK}
end
section
variable{X:Cx}{x f:Str}{p cpos pos:Pos}{e:Expr}{t:TA}{C fI:Addr}{fdI:FuncData}{ps:List Str}{EH:EK}{j k:Nat}
end
end L2
namespace TR
open PySem L2 PySem.W PyProof.Rows
end TR
namespace L2
open PySem PySem.Spec PyProof.Rows PySem.W
section
variable{X:Cx}{x n:Str}{np hpos pos:Pos}{R:Addr}{i:Nat}{body suite:List Stmt}{b₀:Stmt}{tb:EK ->TS}{ts:Addr ->TS}
end
section
variable{X:Cx}{k j:Nat}{f C:Addr}{fd:FuncData}{ps:List Str}{sp:Sp}{dvs:List V}{ds:List Value}{m:Str}{pos apos:Pos}{e o:Expr}{es:List Expr}{ta:TE}{t:TA}
end
section
variable{X:Cx}{j k:Nat}{f C:Addr}{fd:FuncData}{ps:List Str}{sp:Sp}{dvs:List V}{ds:List Value}{x m:Str}{p pos apos:Pos}{e o:Expr}{es:List Expr}{ta:TE}{t:TA}{st:Stmt}
end
section
variable{X:Cx}
end
section
variable{X:Cx}
end
section
variable{X:Cx}
end
end L2
namespace L2
open PySem PySem.Spec PyProof.Rows
end L2
namespace L2
open PySem PySem.Spec PyProof.Rows PySem.W
section
variable{X:Cx}
noncomputable def B9n:V ->List V ->Hp ->VK ->Prop:=fun x vs H Q=>∃z,x= .str z/\vs=[]/\(Txt.lower z).length<=sizeLine/\Q (.str (Txt.lower z)) H
theorem A4d:MtR X "str.lower" B9n:=by
 intro pins s σ H x vs v us Q I rx rv h
 obtain⟨z,rfl,rfl,hz,q⟩:=h
 obtain⟨t,rfl⟩:=(show∃t,v=Value.str z t from rx)
 rw[rv.zero]
 exact SC.lower (A6h hz) ⟨.str _,H,I.tok _,⟨_,rfl⟩,q⟩
noncomputable def C0e:V ->List V ->Hp ->VK ->Prop:=fun x vs H Q=>∃z y,x= .str z/\vs=[.str y]/\z.length<=sizeLine/\Q (.str (Txt.stripChars z y)) H
theorem A7c:MtR X "str.strip" C0e:=by
 intro pins s σ H x vs v us Q I rx rv h
 obtain⟨z,y,rfl,rfl,hz,q⟩:=h
 obtain⟨t,rfl⟩:=(show∃t,v=Value.str z t from rx)
 obtain⟨u,rfl,ru⟩:=rv.one
 obtain⟨k,rfl⟩:=(show∃k,u=Value.str y k from ru)
 exact SC.stripChars (fun t' k=>⟨.str _,H,I.tok _,⟨_,rfl⟩,q⟩) hz
noncomputable def B8m:V ->List V ->Hp ->VK ->Prop:=fun x vs H Q=>∃z y,x= .str z/\vs=[.str y]/\z.length<=sizeLine/\Q (.str (Txt.lstripChars z y)) H
theorem B2p:MtR X "str.lstrip" B8m:=by
 intro pins s σ H x vs v us Q I rx rv h
 obtain⟨z,y,rfl,rfl,hz,q⟩:=h
 obtain⟨t,rfl⟩:=(show∃t,v=Value.str z t from rx)
 obtain⟨u,rfl,ru⟩:=rv.one
 obtain⟨k,rfl⟩:=(show∃k,u=Value.str y k from ru)
 exact SC.lstripChars (fun t' k=>⟨.str _,H,I.tok _,⟨_,rfl⟩,q⟩) hz
noncomputable def B8d:V ->List V ->Hp ->VK ->Prop:=fun x vs H Q=>∃z y,x= .str z/\vs=[.str y]/\Q (.bl (Txt.startswith z y)) H
theorem B2d:MtR X "str.startswith" B8d:=by
 intro pins s σ H x vs v us Q I rx rv h
 obtain⟨z,y,rfl,rfl,q⟩:=h
 obtain⟨t,rfl⟩:=(show∃t,v=Value.str z t from rx)
 obtain⟨u,rfl,ru⟩:=rv.one
 obtain⟨k,rfl⟩:=(show∃k,u=Value.str y k from ru)
 exact SC.startswith ⟨.bl _,H,I,rfl,q⟩
theorem A8q (x : Str) (t : Tok) (l : Addr) (a b : Str) (ta tb : Tok) (n : Nat) (dd : Option Addr) (sl : Array (Option Value)) : Meets (Builtin.«str.startswith» { pos := [Value.str x t, Value.ref l] }) fun _ R s => s.heap.get? l = some { cls := .type "tuple", dict := dd, data := Data.seq #[.str a ta, .str b tb] n, slots := sl } /\ R (Except.ok (Flow.ret (.bool (Txt.startswith x a || Txt.startswith x b)))) s :=
 Meets.of_wp fun prog w A R s h=>by
   obtain⟨hl,h⟩:=h
   refine wpAny_bind (wpAny_of_eq (show Builtin.Str.strSomeArgs "startswith" 1 3 {pos:=[Value.str x t,Value.ref l]}=pure (Value.str x t,x,[Value.ref l]) from rfl) ?_)
   refine wpAny_bind (wpAny_of_eq (show Builtin.Str.searchRange x.length []=pure (0,min x.length x.length) from rfl) ?_)
   refine wpAny_bind ?_
   refine wpAny_bind (wpAny_load hl ?_)
   refine wpAny_pure ?_
   refine wpAny_bind (wpAny_isInstance (T:="tuple") (U:="tuple") (b:=true) ⟨_,hl,rfl⟩ ?_ ?_)
   . exact sub_tuple_self
   refine wpAny_ite_true rfl ?_
   refine wpAny_bind (wpAny_rule ?_)
   refine wpAny_bind (wpAny_seqItems hl rfl ?_)
   refine wpAny_bind ?_
   rw[<-Array.forIn_toList]
   rw[List.forIn_cons]
   refine wpAny_bind ?_
   refine wpAny_bind ?_
   refine wpAny_pure ?_
   have key:∀y,(decide (0+y.length<=min x.length x.length)&&Builtin.Str.subAt x y 0)=Txt.startswith x y:=fun y=>by
     rw[Nat.min_self]
     rfl
   cases h1:Txt.startswith x a with
   | true=>
     refine wpAny_ite_true (decide_eq_true ((key a).trans h1)) ?_
     refine wpAny_bind (wpAny_pure ?_)
     refine wpAny_pure ?_
     refine wpAny_pure ?_
     refine wpAny_pure ?_
     rw[h1] at h
     exact⟨_,rfl,h⟩
   | false=>
     refine wpAny_ite_false (decide_eq_false (fun z=>Bool.false_ne_true (h1.symm.trans ((key a).symm.trans z)))) ?_
     refine wpAny_pure ?_
     show wpAny _ _ (forIn [Value.str b tb] (none,()) _) _ _ _
     rw[List.forIn_cons]
     refine wpAny_bind ?_
     refine wpAny_bind ?_
     refine wpAny_pure ?_
     rw[h1,Bool.false_or] at h
     cases h2:Txt.startswith x b with
     | true=>
       refine wpAny_ite_true (decide_eq_true ((key b).trans h2)) ?_
       refine wpAny_bind (wpAny_pure ?_)
       refine wpAny_pure ?_
       refine wpAny_pure ?_
       refine wpAny_pure ?_
       rw[h2] at h
       exact⟨_,rfl,h⟩
     | false=>
       refine wpAny_ite_false (decide_eq_false (fun z=>Bool.false_ne_true (h2.symm.trans ((key b).symm.trans z)))) ?_
       refine wpAny_pure ?_
       show wpAny _ _ (forIn [] (none,()) _) _ _ _
       rw[List.forIn_nil]
       refine wpAny_pure ?_
       rw[h2] at h
       exact wpAny_pure ⟨_,rfl,h⟩
noncomputable def B4b:V ->List V ->Hp ->VK ->Prop:=fun x vs H Q=>∃z p a b,x= .str z/\vs=[.ref p]/\H p=some (.tup [.str a,.str b])/\Q (.bl (Txt.startswith z a||Txt.startswith z b)) H
theorem A9y:MtR X "str.startswith" B4b:=by
 intro pins s σ H x vs v us Q I rx rv h
 obtain⟨z,p,a,b,rfl,rfl,hp,q⟩:=h
 obtain⟨t,rfl⟩:=(show∃t,v=Value.str z t from rx)
 obtain⟨u,rfl,ru⟩:=rv.one
 cases ru
 obtain⟨_,items,r,⟨ob,e,hc,n,hd⟩⟩:=(show ObjOk X.prog X.w H s.heap p (.tup [.str a,.str b]) from I.hok p _ hp)
 obtain⟨u1,u2,rfl,⟨k1,rfl⟩,⟨k2,rfl⟩⟩:=C3b r
 obtain⟨c,dd,dt,sl⟩:=ob
 cases hc
 cases hd
 exact call_meets F.slot_str_startswith (typeIs_str _ _ _) F.entry_str_startswith (F.args_str_startswith_2 _ _) (A8q z t p a b k1 k2 n dd sl) ⟨e,.bl _,H,I,rfl,q⟩
noncomputable def C2z:V ->List V ->Hp ->VK ->Prop:=fun x vs H Q=>∃z y,x= .str z/\vs=[.str y]/\(y.length==0)=false/\z.length<=sizeLine/\∀p,H p=none ->Q (.ref p) (upd H p (.tup [.str (Txt.partition z y).1,.str (Txt.partition z y).2.1,.str (Txt.partition z y).2.2]))
theorem B0d:MtR X "str.partition" C2z:=by
 intro pins s σ H x vs v us Q I rx rv h
 obtain⟨z,y,rfl,rfl,hy,hz,q⟩:=h
 obtain⟨t,rfl⟩:=(show∃t,v=Value.str z t from rx)
 obtain⟨u,rfl,ru⟩:=rv.one
 obtain⟨k,rfl⟩:=(show∃k,u=Value.str y k from ru)
 refine call_meets F.slot_str_partition (typeIs_str _ _ _) F.entry_str_partition (F.args_str_partition_2 _ _) (meets_str_partition z y t k hy hz) ?_
 have fin:∀ta tb tc h' n,h'=s.heap.push {cls:= .type "tuple",data:= .seq [Value.str (Txt.partition z y).1 ta,.str (Txt.partition z y).2.1 tb,.str (Txt.partition z y).2.2 tc].toArray} ->EP X pins σ Q (.ref s.heap.objs.size) {s with heap:=h',toks:=n}:=by
   intro ta tb tc h' n e
   subst e
   exact⟨.ref s.heap.objs.size,upd H s.heap.objs.size (.tup [.str (Txt.partition z y).1,.str (Txt.partition z y).2.1,.str (Txt.partition z y).2.2]),I.laid (fun b o e=>Heap.get?_push_of_some _ e) (Nat.le_refl _) ⟨A3 (by show 3<=1000;decide),[.str _ ta,.str _ tb,.str _ tc],.cons ⟨_,rfl⟩ (.cons ⟨_,rfl⟩ (.cons ⟨_,rfl⟩ .nil)),⟨_,Heap.get?_push_size s.heap rfl,rfl,0,rfl⟩⟩,rfl,q _ (I.hok.fresh (Nat.le_refl _))⟩
 revert fin
 unfold Txt.partition
 cases Builtin.Str.occurrences z y 0 z.length 1 with
 |nil=>intro h';exact h' _ _ _ _ _ rfl
 |cons i r=>intro h';exact h' _ _ _ _ _ rfl
end
noncomputable def S (l:List Nat):Str:=⟨l.toArray⟩
theorem U9(l:List Nat):(S l).cps.toList=l:=rfl
theorem C7(l:List Nat):(S l).length=l.length:=by
 show l.toArray.size=l.length
 simp
theorem A2b(z:Str):S z.cps.toList=z:=by
 unfold S
 rw[Array.toArray_toList]
theorem A0v{l m:List Nat}(h:S l=S m):l=m:=by
 have:=congrArg (fun z:Str=>z.cps.toList) h
 exact this
theorem A0k(l m:List Nat):S l++S m=S (l++m):=by
 rw[<-A2b (S l++S m),Str.cps_append,Array.toList_append]
 rfl
theorem A6z(l:List Nat)(i j:Nat):Builtin.Str.strSub (S l) i j=S ((l.take j).drop i):=by
 unfold Builtin.Str.strSub
 rw[<-A2b (⟨(S l).cps.extract i j⟩:Str)]
 congr 1
 show((S l).cps.extract i j).toList=_
 rw[Array.toList_extract,U9]
 rw[List.extract_eq_take_drop,List.drop_take]
theorem A0c(l:List Nat)(c:Nat):Txt.startswith (S l) (S [c])=decide (l.head?=some c):=by
 unfold Txt.startswith Builtin.Str.subAt
 rw[C7,C7]
 cases l with
 |nil=>rfl
 | cons a t=>
   have e:(S (a::t)).cps.extract 0 (0+ [c].length)= #[a]:=by
     apply Array.toList_inj.mp
     rw[Array.toList_extract,U9]
     rfl
   rw[e]
   show(decide (0+1<=t.length+1)&&(#[a]== #[c]))=decide (some a=some c)
   rw[decide_eq_true (by omega),Bool.true_and]
   by_cases h:a=c
   . subst h
     simp
   . rw[decide_eq_false (fun z=>h (Option.some.inj z))]
     simp[h]
theorem B8h(l:List Nat)(a n:Nat)(h:a+n<=l.length):((List.range n).map fun k=>a+k).filterMap ((S l).cps[·]?)=(l.drop a).take n:=by
 induction n with
 |zero=>simp
 | succ n ih=>
   rw[List.range_succ,List.map_append,List.filterMap_append,ih (by omega)]
   have e:(S l).cps[a+n]?=some (l[a+n]'(by omega)):=by
     show l.toArray[a+n]?=_
     simp
   rw[show(l.drop a).take (n+1)=(l.drop a).take n++ [l[a+n]'(by omega)] by
     rw[List.take_succ,List.getElem?_drop,List.getElem?_eq_getElem (by omega)]
     rfl]
   simp[e]
theorem A6x(l:List Nat)(lo hi:Option Int)(a b:Nat)(hab:a<=b)(hb:b<=l.length)(h:Builtin.Str.strSliceIndices lo hi 1 l.length=(List.range (b-a)).map fun k=>a+k):G8 (S l) lo hi=S ((l.take b).drop a):=by
 unfold G8
 rw[C7,h]
 have len:((List.range (b-a)).map fun k=>a+k).length=b-a:=by simp
 rw[len]
 split
 . rename_i z
   have z:b-a=l.length:=by simpa using z
   have:a=0:=by omega
   have:b=l.length:=by omega
   subst_vars
   rw[List.take_length]
   rfl
 . rw[B8h l a (b-a) (by omega),List.drop_take]
   rfl
noncomputable def A1w (n:Nat) (d:Int):Option Int ->Int
 |none=>d
 |some i=>max 0 (min (if i<0 then i+n else i) n)
theorem A7z(lo hi:Option Int)(n a b:Nat)(hab:a<=b)(h1:A1w n 0 lo=(a:Int))(h2:A1w n n hi=(b:Int)):Builtin.Str.strSliceIndices lo hi 1 n=(List.range (b-a)).map fun j=>a+j:=by
 have e:Builtin.Str.strSliceIndices lo hi 1 n=PySem.sliceRange (A1w n 0 lo) (A1w n n hi) 1:=by
   cases lo<;>cases hi<;>rfl
 rw[e,h1,h2]
 unfold PySem.sliceRange
 rw[if_pos (by decide)]
 have c:(if(a:Int)<b then((b:Int)-a+1-1)/1 else 0).toNat=b-a:=by
   split<;>omega
 dsimp only
 rw[c]
 apply List.map_congr_left
 intro k _
 omega
theorem A4a(l:List Nat)(k:Nat)(h:k<=l.length):G8 (S l) (some (k:Int)) none=S (l.drop k):=by
 have:=A6x l (some (k:Int)) none k l.length h (Nat.le_refl _) (A7z _ _ _ _ _ h (by unfold A1w;dsimp only;omega) (by unfold A1w;rfl))
 rw[this,List.take_length]
theorem B9u(l:List Nat)(k:Nat)(h:k<=l.length):G8 (S l) none (some (k:Int))=S (l.take k):=by
 have:=A6x l none (some (k:Int)) 0 k (Nat.zero_le _) h (A7z _ _ _ _ _ (Nat.zero_le _) (by unfold A1w;dsimp only;omega) (by unfold A1w;dsimp only;omega))
 rw[this,List.drop_zero]
theorem A2w{l:List Nat}(h:∀c∈l,c<128):Txt.lower (S l)=S (l.map lo1):=by
 rw[lower_ascii (x:=S l) h]
 unfold S
 simp
theorem B9e{c:Nat}(h:¬(65<=c/\c<=90)):lo1 c=c:=by
 unfold lo1
 rw[if_neg h]
theorem V3(p:Nat ->Bool):∀l:List Nat,l.drop (l.takeWhile p).length=l.dropWhile p
 | []=>rfl
 | a ::t=>by
   cases h:p a with
   | true=>
     rw[List.takeWhile_cons_of_pos h,List.dropWhile_cons_of_pos h]
     exact V3 p t
   | false=>
     rw[List.takeWhile_cons_of_neg (by rw[h];exact Bool.false_ne_true),List.dropWhile_cons_of_neg (by rw[h];exact Bool.false_ne_true)]
     rfl
theorem A1r(l:List Nat)(p:List Nat):Txt.lstripChars (S l) (S p)=S (l.dropWhile p.contains):=by
 have hp:(S p).cps.contains=p.contains:=by
   funext c
   show p.toArray.contains c=_
   simp
 unfold Txt.lstripChars
 rw[PyProof.Rows.stripBy_eq,hp]
 unfold stripLo stripHi
 rw[if_pos rfl,if_neg (by decide),A6z,C7,List.take_length,U9]
 congr 1
 exact V3 _ l
theorem A6a(l:List Nat)(p:List Nat):Txt.stripChars (S l) (S p)=S ((l.dropWhile p.contains).reverse.dropWhile p.contains).reverse:=by
 have hp:(S p).cps.contains=p.contains:=by
   funext c
   show p.toArray.contains c=_
   simp
 unfold Txt.stripChars
 rw[PyProof.Rows.stripBy_eq,hp]
 unfold stripLo stripHi
 rw[if_pos rfl,if_pos rfl,A6z,C7,U9,V3]
 congr 1
 have tl:(l.takeWhile p.contains).length+(l.dropWhile p.contains).length=l.length:=by
   rw[<-List.length_append,List.takeWhile_append_dropWhile]
 have dl:((l.dropWhile p.contains).reverse.takeWhile p.contains).length<=(l.dropWhile p.contains).length:=by
   have h:=congrArg List.length (List.takeWhile_append_dropWhile (p:=p.contains) (l:=(l.dropWhile p.contains).reverse))
   rw[List.length_append,List.length_reverse] at h
   omega
 rw[List.drop_take,V3, <-V3 p.contains (l.dropWhile p.contains).reverse,List.drop_reverse,List.reverse_reverse]
 congr 1
 omega
theorem B4e(l:List Nat)(c i:Nat):PySem.StrLaws.At (S l) (S [c]) (S l).length i↔l[i]?=some c:=by
 unfold PySem.StrLaws.At Builtin.Str.subAt
 rw[C7,C7]
 have e:((S l).cps.extract i (i+ [c].length)).toList=(l.drop i).take 1:=by
   rw[Array.toList_extract,U9,List.extract_eq_take_drop]
   congr 1
   simp
 constructor
 . rintro⟨h1,h2⟩
   have h2:(S l).cps.extract i (i+ [c].length)=(S [c]).cps:=by simpa using h2
   have h3:=congrArg Array.toList h2
   rw[e,U9] at h3
   have h1:i+1<=l.length:=h1
   rw[List.drop_eq_getElem_cons (by omega)] at h3
   rw[List.getElem?_eq_getElem (by omega)]
   exact congrArg some (List.cons.inj h3).1
 . intro h
   obtain⟨hi,he⟩:=List.getElem?_eq_some_iff.mp h
   refine⟨hi,?_⟩
   have:(S l).cps.extract i (i+ [c].length)=(S [c]).cps:=by
     apply Array.toList_inj.mp
     rw[e,U9,List.drop_eq_getElem_cons hi,he]
     rfl
   rw[this]
   simp
theorem B0g{l:List Nat}{c:Nat}(h:c ∉ l):Txt.partition (S l) (S [c])=(S l,S [],S []):=by
 unfold Txt.partition
 rcases PySem.StrLaws.occ_head (S l) (S [c]) 1 (Nat.le_refl _) with⟨e,_⟩|⟨i,r,e,ha,_⟩
 . rw[e]
   rfl
 . exact absurd (List.mem_of_getElem? ((B4e l c i).mp ha)) h
theorem B0n{a b:List Nat}{c:Nat}(h:c ∉ a):Txt.partition (S (a++c::b)) (S [c])=(S a,S [c],S b):=by
 unfold Txt.partition
 have ha0:PySem.StrLaws.At (S (a++c::b)) (S [c]) (S (a++c::b)).length a.length:=(B4e _ _ _).mpr (by simp)
 rcases PySem.StrLaws.occ_head (S (a++c::b)) (S [c]) 1 (Nat.le_refl _) with⟨e,hn⟩|⟨i,r,e,ha,hn⟩
 . exact absurd ha0 (hn _)
 . have ei:i=a.length:=by
     have le:¬a.length<i:=fun z=>hn _ z ha0
     have ge:¬i<a.length:=fun z=>by
       have hc:=(B4e _ _ _).mp ha
       rw[List.getElem?_append_left z] at hc
       exact h (List.mem_of_getElem? hc)
     omega
   rw[e]
   dsimp only
   rw[A6z,A6z,C7,C7,ei]
   congr 2
   . simp
   . congr 1
     rw[List.take_of_length_le (by simp),Nat.add_comm,show [c].length=1 from rfl,Nat.add_comm, <-List.drop_drop,List.drop_left]
     rfl
noncomputable def dig (n:Nat):List Nat:=(Nat.toDigits 10 n).map Char.toNat
theorem C0j(n:Nat):Str.ofString (toString (n:Int))=S (dig n):=by
 rw[<-A2b (Str.ofString (toString (n:Int)))]
 congr 1
 exact KIN.signs_num n
end L2
namespace L2
open PySem PySem.Spec PyProof.Rows PySem.W PySem.NumText
theorem A2g{n:Nat}(h:n<10):dig n=[48+n]:=by
 unfold dig
 rw[Nat.toDigits_of_lt_base h]
 show [(Nat.digitChar n).toNat]=_
 have:∀d:Nat,d<10 ->(Nat.digitChar d).toNat=48+d:=by decide
 rw[this n h]
theorem A7p{n:Nat}(h:10<=n):dig n=dig (n/10)++ [48+n % 10]:=by
 have hm:n % 10<10:=Nat.mod_lt n (by decide)
 have t:Nat.toDigits 10 (n/10)++Nat.toDigits 10 (n % 10)=Nat.toDigits 10 (10*(n/10)+n % 10):=Nat.toDigits_append_toDigits (by decide) (by omega) hm
 rw[Nat.div_add_mod] at t
 have e:dig n=dig (n/10)++dig (n % 10):=by
   unfold dig
   rw[<-t,List.map_append]
 rw[e,A2g hm]
theorem B8j(n:Nat):AllDigits (dig n):=by
 induction n using Nat.strongRecOn with
 | _ n ih=>
   by_cases h:n<10
   . rw[A2g h]
     intro c hc
     rw[List.mem_singleton.mp hc]
     omega
   . rw[A7p (by omega)]
     intro c hc
     rcases List.mem_append.mp hc with hc|hc
     . exact ih (n/10) (by omega) c hc
     . rw[List.mem_singleton.mp hc]
       omega
theorem B7t{n k:Nat}(h:n<10^k)(hk:1<=k):(dig n).length<=k:=by
 induction k generalizing n with
 |zero=>omega
 | succ k ih=>
   by_cases h10:n<10
   . rw[A2g h10]
     show 1<=k+1
     omega
   . rw[A7p (by omega),List.length_append]
     have hk0:1<=k:=by
       cases k with
       |zero=>simp at h;omega
       |succ k=>omega
     have:=ih (n:=n/10) (by rw[Nat.pow_succ] at h;omega) hk0
     show _+1<=_
     omega
theorem B2w(l:List Nat):∀a:Nat,l.foldl (fun acc c=>acc*10+(c-48)) a=a*10^l.length+digitsVal l:=by
 unfold digitsVal
 induction l with
 |nil=>intro a;simp
 | cons c t ih=>
   intro a
   rw[List.foldl_cons,ih,List.foldl_cons,ih (0*10+(c-48)),List.length_cons,Nat.pow_succ]
   rw[Nat.zero_mul,Nat.zero_add,Nat.add_mul,Nat.mul_assoc,Nat.mul_comm 10,Nat.add_assoc]
theorem A0p(l m:List Nat):digitsVal (l++m)=digitsVal l*10^m.length+digitsVal m:=by
 rw[show digitsVal (l++m)=m.foldl (fun acc c=>acc*10+(c-48)) (digitsVal l) by unfold digitsVal;rw[List.foldl_append]]
 exact B2w m _
theorem A5h(k:Nat)(l:List Nat):digitsVal (List.replicate k 48++l)=digitsVal l:=by
 rw[A0p]
 have:digitsVal (List.replicate k 48)=0:=by
   induction k with
   |zero=>rfl
   | succ k ih=>
     rw[show List.replicate (k+1) 48=[48]++List.replicate k 48 from rfl,A0p,ih]
     show(0*10+0)*_+0=0
     omega
 rw[this,Nat.zero_mul,Nat.zero_add]
theorem A3k(l:List Nat):digitsVal (l.dropWhile ([48]:List Nat).contains)=digitsVal l:=by
 induction l with
 |nil=>rfl
 | cons c t ih=>
   by_cases h:c=48
   . subst h
     rw[List.dropWhile_cons_of_pos (by decide),ih]
     exact(A5h 1 t).symm
   . rw[List.dropWhile_cons_of_neg (by simp[h])]
noncomputable def digS:List Nat:=[48,49,50,51,52,53,54,55,56,57]
theorem U0(c:Nat):digS.contains c=true↔48<=c/\c<=57:=by
 unfold digS
 simp
 omega
theorem A9e{p:Nat ->Bool}:∀{l:List Nat},l.dropWhile p=[] ->∀c∈l,p c=true
 | [],_,c,hc=>nomatch hc
 | a ::t,h,c,hc=>by
   cases hp:p a with
   | true=>
     rw[List.dropWhile_cons_of_pos hp] at h
     rcases List.mem_cons.mp hc with rfl|hc
     . exact hp
     . exact A9e h c hc
   | false=>
     rw[List.dropWhile_cons_of_neg (by rw[hp];exact Bool.false_ne_true)] at h
     cases h
theorem A8m{p:Nat ->Bool}:∀{l:List Nat},(∀c∈l,p c=true) ->l.dropWhile p=[]
 | [],_=>rfl
 | a::t,h=>by
   rw[List.dropWhile_cons_of_pos (h a (List.mem_cons_self ..))]
   exact A8m fun c hc=>h c (List.mem_cons_of_mem _ hc)
theorem A1g{p:Nat ->Bool}:∀{l:List Nat} {a:Nat} {t:List Nat},l.dropWhile p=a::t ->p a=false
 | [],_,_,h=>nomatch h
 | b ::u,a,t,h=>by
   cases hp:p b with
   | true=>
     rw[List.dropWhile_cons_of_pos hp] at h
     exact A1g h
   | false=>
     rw[List.dropWhile_cons_of_neg (by rw[hp];exact Bool.false_ne_true)] at h
     injection h with h1 h2
     rw[<-h1]
     exact hp
theorem A8x{l p:List Nat}:Txt.stripChars (S l) (S p)=S []↔∀c∈l,p.contains c=true:=by
 rw[A6a]
 constructor
 . intro h
   have h:=A0v h
   rw[List.reverse_eq_nil_iff] at h
   have h2:=A9e h
   cases hm:l.dropWhile p.contains with
   |nil=>exact A9e hm
   | cons a t=>
     have:=A1g hm
     rw[h2 a (by rw[hm];simp)] at this
     cases this
 . intro h
   rw[A8m h]
   rfl
end L2
namespace L2
open PySem PySem.Spec PyProof.Rows PySem.W
section
variable{X:Cx}
noncomputable def C3d:V ->List V ->Hp ->VK ->Prop:=fun x vs H Q=>∃z y,x= .str z/\vs=[.str y]/\Q (.int (Txt.find z y)) H
theorem B7e:MtR X "str.find" C3d:=by
 intro pins s σ H x vs v us Q I rx rv h
 obtain⟨z,y,rfl,rfl,q⟩:=h
 obtain⟨t,rfl⟩:=(show∃t,v=Value.str z t from rx)
 obtain⟨u,rfl,ru⟩:=rv.one
 obtain⟨k,rfl⟩:=(show∃k,u=Value.str y k from ru)
 exact SC.find ⟨.int _,H,I.tok _,⟨_,rfl⟩,q⟩
end
noncomputable def CatchesW (X:Cx) (EH:EK):Prop:=∀(pins:List (Addr×Obj)) (σ:St) (H:Hp) (s:Shared) (a:Addr) (t:XT) (C:Value) (dd:Option Addr),Inv X pins σ H s ->Flt X pins H s a C t dd ->EH C dd σ H ->X.xe (.ref a) s
theorem CatchesW.c{X:Cx}{EH:EK}(h:CatchesW X EH):V1 X EH:=fun pins σ H s a t C dd I F q=>h pins σ H s a t C dd I F q
noncomputable def CX2 (P:Program) (w:World):CXT:=fun outer H s E e s'=>∃(a:Addr) (t:XT) (C:Value) (dd:Option Addr) (H':Hp),e= .ref a/\s'.os=s.os/\AllBare s'.gens/\Un (frs outer) [] H H' s.heap s'.heap/\HOk P w H' s'.heap/\E C dd H'/\
 (s.heap.get? a=none/\H' a=none)/\∃T oT ts,s'.heap.get? a=some (Y2 C t dd (.ref T))/\T≠a/\(s.heap.get? T=none/\H' T=none)/\s'.heap.get? T=some oT/\oT.data= .fields ts/\ts[3]?=some .none
theorem A6v{P:Program}{w:World}{K:PySem.W.Frag}{mg:Str ->Option Value}{base:Heap}{N:List Str}{qual:Str}{scope:Scope}{f:Addr}{cd:Value}{A:Around}{outer:List Env}{s:Shared}{H:Hp}{E:XK}:
   CatchesW (A1m (CX2 P w) P w K mg base N qual scope f cd A outer s H E) (fun C dd _ H'=>E C dd H'):=by
 intro pins σ H' s' a t C dd I F h
 refine A4p (X:=A1m (CX2 P w) P w K mg base N qual scope f cd A outer s H E) ⟨rfl,rfl,rfl⟩ I F fun s2 I2 F2=>?_
 obtain⟨na,T,oT,ts,e,ne,nT,eT,dT,h3⟩:=F2
 exact⟨a,t,C,dd,H',rfl,I2.os,I2.bare,I2.base,I2.hok,h,⟨na.old,na.un⟩,T,oT,ts,e,ne,⟨nT.old,nT.un⟩,eT,dT,h3⟩
section
variable{X:Cx}{j k:Nat}{f C:Addr}{fd:FuncData}{ps:List Str}{sp:Sp}{dvs:List V}{ds:List Value}{EH:EK}{x m:Str}{p pos apos:Pos}{e o:Expr}{es:List Expr}{ta:TE}{t:TA}{st:Stmt}
theorem C2x{pins:List (Addr×Obj)}{σ:St}{H:Hp}{s:Shared}{e:Value}{s':Shared}(hx:CatchesW X EH)(hex:X.ex=[])(I:Inv X pins σ H s)
   (h:CX2 X.prog X.w X.stack H s (fun C d H'=>EH C d σ H') e s'):X.xe e s':=by
 obtain⟨a,t,C,dd,H',rfl,os,bare,un,hok,hE,⟨a1,a2⟩,T,oT,ts,z,ne,⟨t1,t2⟩,eT,dT,h3⟩:=h
 have I':Inv X pins σ H' s':=I.call' (ch:=[]) os un hok bare (fun b q=>absurd q (by simp))
 exact hx pins σ H' s' a t C dd I' (FltAt.flt ⟨I.nw hex a1 a2,T,oT,ts,z,ne,I.nw hex t1 t2,eT,dT,h3⟩) hE
theorem B6k{pins:List (Addr×Obj)}{σ:St}{H:Hp}{s:Shared}{Q:VK}{us:List Value}{vs:List V}(F:FnOk X.prog X.w X.K X.mg X.base (CX2 X.prog X.w) k f fd ps sp)(hr:Room k X.A)(hb:Binds X.K fd ps ds)(hd:Vals dvs ds)
   (hx:CatchesW X EH) (hex:X.ex=[]) (I:Inv X pins σ H s) (r:Vals vs us) (h:sp (vs++dvs) H Q (fun C d H'=>EH C d σ H')):wpAny (model X.prog X.w) X.A (call (.ref f) us) (EP X pins σ Q) X.xe s:=by
 have r2:Vals (vs++dvs) (us++ds):=r.append hd
 have hl:(us++ds).length=ps.length:=by rw[<-r2.length];exact F.len _ _ _ _ h
 refine wpAny_call (codeAny_mono (F.run X.A X.stack s H ⟨us,[]⟩ (us++ds) (vs++dvs) Q _ hr I.env0 (hb s us I.kIn hl) r2 h) fun r s' hq=>?_)
 cases r with
 |error e=>exact C2x hx hex I hq
 | ok fl=>
   cases fl with
   |ret u=>exact I.after hq
   |next=>exact False.elim hq
   |brk=>exact False.elim hq
   |cont=>exact False.elim hq
theorem B3w(D:Def X.K X.mg x ps st f fd)(F:FnOk X.prog X.w X.K X.mg X.base (CX2 X.prog X.w) j f fd ps sp)(hr:Room k X.A)(hx:CatchesW X EH)(ha:PA X (e::es) t)(hj:j<=k:=by decide)(hg:Gl X x:=by rfl)(hex:X.ex=[]:=by rfl)(hdb:(x==("__debug__":Str))=false:=by decide)
   (he:starEach (e::es) X.env=(false,eval e X.env)::starEach es X.env:=by rfl) (hpl:(backTo pos (starEach es X.env)).any (·.1)=false:=by rfl):PE X (.Call (.Name x p) (e::es) [] pos) (A2c sp [] EH t):=by
 intro pins s σ H Q I h
 refine wpAny_Call_Name_kw (V4 I hg D.g ?_ hdb)
 refine PySem.W.callWith_K (h₀:=X.base) I.ok.mod.kin D.F.kp (thn (ha pos pins s σ H _ I h) fun us s1 ⟨vs,H1,I1,r,q⟩=>⟨I1.kIn,?_⟩) he hpl
 exact B6k (F.mono hj) hr D.b .nil hx hex I1 r q
end
section
variable{P:Program}{w:World}{K:PySem.W.Frag}{mg:Str ->Option Value}{base:Heap}
theorem Fun.okW{x qual:Str}{st:Stmt}{f:Addr}{fd:FuncData}{N ps:List Str}{k:Nat}{sp:Sp}(F:Fun K x qual st f fd)(S:FnScope N ps (A7 st))(len:∀vs H Q E,sp vs H Q E ->vs.length=ps.length)
   (hbody:∀(X:Cx) (cdv:Value) (A:Around) (outer:List Env) (s:Shared) (H:Hp) (vs:List V) (Q:VK) (E:XK),X=A1m (CX2 P w) P w K mg base N qual (A7 st) f cdv A outer s H E ->Room k X.A ->CatchesW X (fun C dd _ H'=>E C dd H') ->sp vs H Q E ->
     ∃t,PSs (A1m (CX2 P w) P w K mg base N qual (A7 st) f cdv A outer s H E) (D7 st) t/\t {nx:=fun _ H'=>Q .non H',rt:=Q} (A0t N vs) H):FnOk P w K mg base (CX2 P w) (k+1) f fd ps sp:=by
 obtain⟨oc,od,kV,doc,pm,an,cdv,ct,osl,rfl,lk,hc⟩:=F.ex
 exact B4y lk hc S len fun A outer s H vs Q E hr h=>hbody _ cdv A outer s H vs Q E rfl hr A6v h
end
section
variable{prog:Program}{w:World}{A:Around}{E:Value ->Shared ->Prop}{s:Shared}{env:Env}
theorem A8s{α:Type}{a x:Addr}{oa ox:Obj}{ws vs:Array Value}{Q:α ->Shared ->Prop}(z:A.handled=some (.ref x))(nx:x≠a)(e:s.heap.get? x=some ox)(d:ox.data= .fields vs)(n:vs[2]?=some .none)
   (ha:s.heap.get? a=some oa) (da:oa.data= .fields ws) (h2:2<ws.size)
   (h:E (.ref a) {s with heap:=s.heap.update a (Obj.mapFields (·.setIfInBounds 2 (.ref x)))}):
   wpAny (model prog w) A (raiseNew (.ref a):Sem α) Q E s:=by
 unfold raiseNew
 refine wpAny_bind (wpAny_handled ?_)
 rw[z]
 dsimp only
 rw[if_pos (show(Value.ref x !=Value.ref a)=true by simpa using nx)]
 refine wpAny_bind (wpAny_holding (wpAny_runValue (codeAny_builtin A0s ?_)))
 unfold Builtin.«proto.unchain»
 dsimp only
 refine wpAny_bind (wpAny_field e d n ?_)
 rw[if_pos (by decide)]
 refine wpAny_pure ?_
 dsimp only
 unfold updateField
 refine wpAny_bind (wpAny_bind (wpAny_load ha ?_))
 rw[da]
 dsimp only
 rw[if_pos h2]
 exact wpAny_update ha (wpAny_throw h)
variable{nm q:Str}{C N:Addr}{bs bm bmB:List Value}{hdct:Bool}{sn:List Str}{sub:List Value}{ab:Bool}{col:Option Bool}{dd:Option Addr}{k0 k1 k2 k3 k5:Option Value}{newId:String}
theorem A3r{xa:Addr}{x c:Sem Value}{Q:Flow ->Shared ->Prop}(hbase:bm.contains (.type "BaseException")=true)(hh:A.handled=some (.ref xa))
   (h:wpAny (model prog w) A x (fun v s₁=>∃e t ox vs,v= .ref e/\xa≠e/\s₁.heap.get? xa=some ox/\ox.data= .fields vs/\vs[2]?=some .none/\s₁.heap.get? C=some (excClassObj nm q C N bs bm hdct sn sub ab col dd k0 k1 k2 k3 k5 newId)/\
     s₁.heap.get? e=some {cls:= .ref C,data:= .fields #[.ref t,.none,.none,.none,.bool false,.none]}/\
     wpAny (model prog w) A c (fun cv s₂=>cv= .none/\s₂=s₁/\∀h',(∀b,b≠e ->h'.get? b=s₁.heap.get? b) ->h'.get? e=some {cls:= .ref C,data:= .fields #[.ref t,.none,.ref xa,.none,.bool true,.none]} ->E (.ref e) {s₁ with heap:=h'}) E s₁) E s):
   wpAny (model prog w) A (raiseStmt env (some x) (some c)) Q E s:=by
 have hcB:(Value.ref C::bm).contains (.type "BaseException")=true:=by rw[List.contains_cons,hbase,Bool.or_true]
 unfold raiseStmt
 refine wpAny_bind (wpAny_mono h (fun v s₁ h₁=>?_) fun _ _ x=>x)
 obtain⟨e,t,ox,vs,rfl,ne,hx,dx,nx,hC,he,h₁⟩:=h₁
 refine wpAny_bind (wpAny_holding (wpAny_mono h₁ (fun cv s₂ h₂=>?_) fun _ _ x=>x))
 obtain⟨rfl,rfl,hE⟩:=h₂
 obtain⟨hp,g,d,tk,os⟩:=s₂
 refine wpAny_bind (wpAny_pure ?_)
 dsimp only
 repeat (first|with_reducible refine wpAny_loadPart_at he ?_|with_reducible refine wpAny_loadPart_at hC ?_|(with_reducible refine wpAny_isSubtype_exc hC ?_;rw[hcB])|wp_step)
 have ce:C≠e:=by
   intro z
   rw[z] at hC
   have q:=hC.symm.trans he
   injection q with q
   have:=congrArg Obj.data q
   cases this
 have he:hp.get? e=some {cls:= .ref C,data:= .fields #[.ref t,.none,.none,.none,.bool false,.none]}:=he
 have u1:=Heap.get?_update_self (Obj.mapFields fun x=>x.setIfInBounds 3 Value.none) he rfl
 have u2:=Heap.get?_update_self (Obj.mapFields fun x=>x.setIfInBounds 4 (Value.bool true)) u1 rfl
 have o2:∀b,b≠e ->((hp.update e (Obj.mapFields fun x=>x.setIfInBounds 3 Value.none)).update e (Obj.mapFields fun x=>x.setIfInBounds 4 (Value.bool true))).get? b=hp.get? b:=fun b hb=>by
   rw[Heap.get?_update_other _ _ (Ne.symm hb),Heap.get?_update_other _ _ (Ne.symm hb)]
 have hC2:=(o2 C ce).trans hC
 have hx2:=(o2 xa ne).trans hx
 generalize ((hp.update e (Obj.mapFields fun x=>x.setIfInBounds 3 Value.none)).update e (Obj.mapFields fun x=>x.setIfInBounds 4 (Value.bool true)))=h2 at*
 refine wpAny_loadPart_at hC2 ?_
 refine wpAny_pure ?_
 refine wpAny_ite_true (show((excClassObj nm q C N bs bm hdct sn sub ab col dd k0 k1 k2 k3 k5 newId).cls==Value.type "type")=true from rfl) ?_
 refine wpAny_pure (wpAny_bind ?_)
 unfold setFlight
 refine wpAny_bind (wpAny_field u2 rfl (x:= .none) rfl ?_)
 rw[if_neg (by decide)]
 refine wpAny_pure ?_
 refine A8s hh ne hx2 dx nx u2 rfl (by show 2<6;decide) ?_
 refine hE _ (fun b hb=>(Heap.get?_update_other _ _ (Ne.symm hb)).trans (o2 b hb)) ?_
 exact Heap.get?_update_self _ u2 rfl
end
noncomputable def C3h (K:Frag) (R C:Addr) (EH:EK) (tb:EK ->TS) (t:TA):TS:=fun D σ H=>
 tb (fun C' dd σ' H'=>subIn K C' (.ref R)=some true/\∀(a t' T:Addr),H' a=none ->t σ' (upd H' a (.frz (Y2 C' t' dd (.ref T)) (.own a))) fun vs H1=>vs.length<=sizeLine/\H1 a=some (.frz (Y2 C' t' dd (.ref T)) (.own a))/\EH (.ref C) none σ' H1) D σ H
section
variable{X:Cx}{x y:Str}{np hpos pos p cpos rpos cp:Pos}{R C:Addr}{body:List Stmt}{e:Expr}{es:List Expr}{tb:EK ->TS}{t:TA}{bmB:List Value}{B newId initId:String}{EH:EK}
theorem B6q{jj}(Bd:Body X)(hp:∀a,PassesOwnAt (model X.prog X.w) (X.A.mark (some (.ref a))) X.A X.env X.xe)(hm:X.mg x=some (.ref R))(c:Clause X.K R)(hm2:X.mg y=some (.ref C))(q:excIn X.K C bmB newId=true)(FB:ExcBaseFacts B newId initId bmB)(hx:CatchesW X EH)
   (hb:∀pins Ew EHb,V1 (X.hold pins Ew) EHb ->PSs (X.hold pins Ew) body (tb EHb)) (ha:∀pins a,PA (X.hnd pins a) (e::es) t) (hg:Gl X x:=by rfl) (hg2:Gl X y:=by rfl)
   (hdb:(x==("__debug__":Str))=false:=by decide) (hdb2:(y==("__debug__":Str))=false:=by decide) (he:starEach (e::es) X.env=(false,eval e X.env)::starEach es X.env:=by rfl) (hpl:(backTo cpos (starEach es X.env)).any (·.1)=false:=by rfl):
   PS X (.Try body [.ExceptHandler (some (.Name x np)) none [.Raise (some (.Call (.Name y p) (e::es) [] cpos)) (some (.Constant .none jj cp)) rpos] hpos] [] [] pos) (C3h X.K R C EH tb t):=by
 intro pins s σ H D I h
 refine wpAny_Try_except ?_
 refine wpAny_mono (hb pins _ _ ?cat [] s σ H D I.hold h) (fun f s1 hf1=>?_) (fun e s1 he=>he)
 case cat=>
   intro pins' σ' H' s' a t' C' dd' I' F' hE
   obtain⟨hsub,hE⟩:=hE
   show wpAny (model X.prog X.w) X.A (noteFrame (.ref a) X.env) _ X.xe s'
   have J:=I'.unhold
   have F:=F'.unhold
   refine A3h Bd J F fun s2 J2 F2=>A0e J2 F2 fun s3 J3 F3=>?_
   obtain⟨na,T,oT,ts',e3,ne3,nT3,eT3,dT3,h33⟩:=id F3
   refine wpAny_handleBy_cons (codeAny_handlers_test ?_) (by intro z;cases z)
   have K3:Inv (X.hnd pins a) [] σ' H' s3:=J3.hnd
   refine V4 K3 hg hm ?_ hdb
   refine A4s J3.kIn e3 rfl c hsub ?_
   show codeAny _ _ _ _ _
   refine codeAny_handlers_suite ?_
   refine A0e J3 F3 fun s4 J4 F4=>?_
   obtain⟨na4,T4,oT4,ts4,e4,_⟩:=id F4
   have J5:=J4.track na4 e4
   have K5:=J5.hnd (a:=a)
   have hE:=hE a t' T4 na4.un
   refine wpAny_execs_cons ?_
   obtain⟨bm,N,nm,qn,bs,hd,sn,sub,ab,col,dd,k0,k1,k2,k3,k5,mN,hC,hN,hni,TT⟩:=B0k J5.ok.mod.kin q
   rw[arm_exec_Raise]
   refine wpAny_bind (wpAny_standAt (A3r (C:=C) (nm:=nm) (q:=qn) (N:=N) (bs:=bs) (bm:=bm) (hdct:=hd) (sn:=sn) (sub:=sub) (ab:=ab) (col:=col) (dd:=dd) (k0:=k0) (k1:=k1) (k2:=k2) (k3:=k3) (k5:=k5) (newId:=newId) (xa:=a) (TT.hasType FB.hasBase) rfl ?_))
   refine wpAny_bind (wpAny_mono (wpAny_Call_ofName (V4 K5 hg2 hm2 ?_ hdb2)) (fun v s7 h7=>wpAny_bind (wpAny_standAt (wpAny_pure h7))) fun _ _ x=>x)
   unfold callWith
   have ha':=ha pins a cpos [] s4 σ' _ _ K5 hE
   have hplain:(backTo cpos (starEach (e::es) X.env)).any (·.1)=false:=by
     rw[he]
     show(false||(backTo cpos (starEach es X.env)).any (·.1))=false
     rw[hpl]
     rfl
   simp only[hplain]
   rw[he] at ha' ⊢
   refine wpAny_bind (wpAny_holding (Calls.evalArgs_plain (wpAny_mono ha' (fun us s5 hh_=>?_) fun _ _ y=>y.elim)))
   obtain⟨vs,H1,I1,r,z1,z2,z3⟩:=hh_
   refine wpAny_bind (wpAny_standAt ?_)
   have hC5:=I1.bk _ _ hC
   have hN5:=hN.keeps I1.bk
   have T5:=TT.keeps I1.bk
   have I2:=I1.unhnd J5.ok
   have ex5:s5.heap.get? a=some (Y2 C' t' dd' (.ref T4)):=(I1.hok a _ z2).1
   obtain⟨hp5,g5,d5,tk5,os5⟩:=s5
   refine wpAny_bind (wpAny_keeperOf_exc hC5 ?_)
   refine wpAny_bind (wpAny_call_exc_subT (hrest:=by show us.length<=sizeLine;rw[<-r.length];exact z1) FB T5 hC5 hN5 hni fun h' e' m=>wpAny_bind (wpAny_holding (wpAny_point (wpAny_pure ?_))))
   obtain⟨t5,e1,tn,e2⟩:=m.there
   have ne:a≠e':=by
     intro z
     have:=m.new
     rw[<-z,ex5] at this
     cases this
   refine⟨e',t5,_,_,rfl,ne,m.keeps _ _ ex5,rfl,rfl,m.keeps _ _ hC5,e1,?_⟩
   refine wpAny_bind (Constant_none (wpAny_bind (wpAny_standAt (wpAny_pure ⟨rfl,rfl,fun h2 k1 k2=>?_⟩))))
   refine hp a _ _ (hx pins σ' H1 _ e' {t:=t5,x:= .ref a,b:=true} (.ref C) none ?_ ?_ z3)
   . exact I2.kept (t':=tk5) fun b o q=>by
       rw[k1 b fun z=>?_]
       . exact m.keeps _ _ q
       . have:=m.new
         rw[<-z,q] at this
         cases this
   . exact⟨I2.nw Bd.ex m.new (I2.hok.new m.new),.none,k2,.inl rfl,fun T z=>nomatch z⟩
 . cases f with
   |next=>exact wpAny_execs_nil (SP.unhold hf1)
   |brk=>exact SP.unhold hf1
   |cont=>exact SP.unhold hf1
   |ret u=>exact SP.unhold hf1
end
noncomputable def C2u (K:Frag) (R:Addr) (i:Nat) (tb:EK ->TS) (ts:Addr ->TS):TS:=fun D σ H=>
 tb (fun C dd σ' H'=>subIn K C (.ref R)=some true/\∀(a:Addr) (t:XT) (T:Addr),H' a=none ->
   ts a {nx:=fun σ2 H2=>D.nx (σ2.set i none) H2,rt:=D.rt,bk:=fun σ2 H2=>D.bk (σ2.set i none) H2,ct:=fun σ2 H2=>D.ct (σ2.set i none) H2}
     (σ'.set i (some (.ref a))) (upd H' a (.frz (Y2 C t dd (.ref T)) (.own a)))) D σ H
section
variable{X:Cx}{x n:Str}{np hpos pos:Pos}{R:Addr}{i:Nat}{body suite:List Stmt}{b₀:Stmt}{tb:EK ->TS}{ts:Addr ->TS}
theorem B6x(B:Body X)(hg:Gl X x)(hm:X.mg x=some (.ref R))(c:Clause X.K R)(hN:X.N.Nodup)(hi:X.N[i]?=some n)(hk:X.env.scope.names.lookup n=some .local)
   (hb:∀pins Ew EHb,CatchesW (X.hold pins Ew) EHb ->PSs (X.hold pins Ew) body (tb EHb)) (hs:∀pins a,PSs (X.hnd pins a) (b₀::suite) (ts a))
   (hdb:(x==("__debug__":Str))=false:=by decide) (hf:X.fn n=true\/X.env.scope.names.lookup n=some .local:=by first|exact .inl rfl|exact .inr rfl|assumption):
   PS X (.Try body [.ExceptHandler (some (.Name x np)) (some n) (b₀::suite) hpos] [] [] pos) (C2u X.K R i tb ts):=by
 intro pins s σ H D I h
 refine wpAny_Try_except ?_
 refine wpAny_mono (hb pins _ _ ?cat [] s σ H D I.hold h) (fun f s1 hf1=>?_) (fun e s1 he=>he)
 case cat=>
   intro pins' σ' H' s' a t C dd I' F' hE
   obtain⟨hsub,hE⟩:=hE
   show wpAny (model X.prog X.w) X.A (noteFrame (.ref a) X.env) _ X.xe s'
   have J:=I'.unhold
   have F:=F'.unhold
   refine A3h B J F fun s2 J2 F2=>A0e J2 F2 fun s3 J3 F3=>?_
   obtain⟨na,T,oT,ts',e3,ne3,nT3,eT3,dT3,h33⟩:=id F3
   refine wpAny_handleBy_cons (codeAny_handlers_test ?_) (by intro z;cases z)
   have K3:Inv (X.hnd pins a) [] σ' H' s3:=J3.hnd
   refine V4 K3 hg hm ?_ hdb
   refine A4s J3.kIn e3 rfl c hsub ?_
   show codeAny _ _ _ _ _
   refine codeAny_handlers_suite_as ?_
   refine A0e J3 F3 fun s4 J4 F4=>?_
   obtain⟨na4,T4,oT4,ts4,e4,_⟩:=id F4
   have J5:=J4.track na4 e4
   refine A1h (v:= .ref a) J5 hN hi (.inl hk) rfl (fun s5 J6=>?_) hf
   refine wpAny_mono (hs pins a [] s5 _ _ _ J6.hnd (hE a t T4 na4.un)) (fun f s6 hf6=>?_) (fun _ _ z=>z.elim)
   have fin:∀{σ6:St} {H6:Hp} {Q6:Unit ->Shared ->Prop},Inv (X.hnd pins a) [] σ6 H6 s6 ->(∀s7,Inv X pins (σ6.set i none) H6 s7 ->Q6 () s7) ->
       wpAny (model X.prog X.w) X.A (do bindName X.env n .none;unbindBehindTheSuite X.env n hpos) Q6 X.xe s6:=by
     intro σ6 H6 Q6 K6 k6
     have L6:=K6.unhnd J6.ok
     refine wpAny_bind (wpAny_bindName (A1h (v:= .non) L6 hN hi (.inl hk) rfl (fun s7 J7=>?_) hf))
     unfold unbindBehindTheSuite
     have hlen:i<σ6.length:=by rw[L6.len];exact(List.getElem?_eq_some_iff.mp hi).1
     refine wpAny_onRaise (B2g J7 hN hi hk (List.getElem?_set_self hlen) fun s8 J8=>k6 s8 ?_)
     rw[List.set_set] at J8
     exact J8
   cases f with
   |next=>obtain⟨σ6,H6,K6,q⟩:=hf6;exact fin K6 fun s7 J7=>⟨_,_,J7,q⟩
   |brk=>obtain⟨σ6,H6,K6,q⟩:=hf6;exact fin K6 fun s7 J7=>⟨_,_,J7,q⟩
   |cont=>obtain⟨σ6,H6,K6,q⟩:=hf6;exact fin K6 fun s7 J7=>⟨_,_,J7,q⟩
   |ret u=>obtain⟨v,σ6,H6,K6,r,q⟩:=hf6;exact fin K6 fun s7 J7=>⟨v,_,_,J7,r,q⟩
 . cases f with
   |next=>exact wpAny_execs_nil (SP.unhold hf1)
   |brk=>exact SP.unhold hf1
   |cont=>exact SP.unhold hf1
   |ret u=>exact SP.unhold hf1
end
end L2
namespace TR
open PySem L2 PySem.W PyProof.Rows
seal PE PS PSs PA PT PW PG PGs PI PO
noncomputable def top (i:Nat):Stmt:=PySem.Challenge.pw_tenreckon_k03_texts_read.main.body.getD i (.Pass ⟨0,0,0,0⟩)
noncomputable abbrev B2m:Stmt:=(top 14)
section
variable{P:Program}{w:World}{K:Frag}{mg:Str ->Option Value}{base:Heap}
noncomputable def C2d (K:Frag):Sp:=fun vs H Q _=>∃v lo hi,vs=[v,.int lo,.int hi]/\((A2r lo hi v/\Q (.bl true) H)\/(A8z K H lo hi v/\Q (.bl false) H))
theorem C2p:FnScope ["thing","least","most"] ["thing","least","most"] (A7 B2m):=scK
theorem C0q(D:Def K mg "is_between" ["thing","least","most"] B2m f fd)(O:Own mg)(T:Kit K):FnOk P w K mg base (CX1 P w) 1 f fd ["thing","least","most"] (C2d K):=by
 refine FnOk.up (D.F.ok C2p (fun vs H Q E h=>?_) (fun cdv A outer s H vs Q E hr h=>?_))
 . obtain⟨v,lo,hi,rfl,_⟩:=h
   rfl
 . obtain ⟨v,lo,hi,rfl,h⟩:=h
   refine⟨_,(A4 (G7 (PW.pt (A3s (Z7 (U5 (A1x O.isi (pv 0) (pty O.int_ boot_int)))) (A5u (U5 (A1x O.isi (pv 0) (pty O.bool_ boot_bool)))))) (B0 (B7 B1d)) C8)
     (B0 (B7 (A9n (V5 B9d (pv 0) (pv 1) (B9 _)) (A8y (V5 A7j (pv 0) (pv 2) (B9 _))))))),?_⟩
   rcases h with⟨⟨i,rfl,h1,h2⟩,k⟩|⟨⟨t,b1,b2,ty,k1,k2,bad⟩,k⟩
   . refine⟨_,rfl,_,_,_,_,true,rfl,rfl,A2m i,T.int_int,_,rfl,U8 ?_⟩
     refine⟨_,rfl,_,_,_,_,false,rfl,rfl,A2m i,T.int_bool,_,rfl,U8 ?_⟩
     refine⟨_,rfl,_,rfl,_,_,rfl,rfl,_,rfl,A7q h1 ?_⟩
     refine⟨_,rfl,_,rfl,_,_,rfl,rfl,?_⟩
     show Q (.bl (decide (i<=hi))) H
     rw[decide_eq_true h2]
     exact k
   . refine⟨_,rfl,_,_,_,_,b1,rfl,rfl,ty,k1,_,rfl,?_⟩
     cases b1 with
     |false=>exact V7 (V7 k)
     | true=>
       refine U8 ⟨_,rfl,_,_,_,_,b2,rfl,rfl,ty,k2,_,rfl,?_⟩
       cases b2 with
       |true=>exact V7 k
       | false=>
         obtain⟨i,rfl,out⟩:=bad.resolve_left (by decide)
         refine U8 ⟨_,rfl,_,rfl,_,_,rfl,rfl,_,rfl,Y0 (fun h1=>?_) (fun h1=>?_)⟩
         . refine⟨_,rfl,_,rfl,_,_,rfl,rfl,?_⟩
           show Q (.bl (decide (i<=hi))) H
           rw[decide_eq_false (by omega:¬i<=hi)]
           exact k
         . exact k
end
structure Err(K:Frag)(mg:Str ->Option Value)(x:Str)(CB:Addr):Prop where
 g:mg x=some (.ref CB)
 q:excIn K CB [.type "ValueError",.type "Exception",.type "BaseException",.type "object"] "ValueError.__new__"=true
noncomputable def A9q (lo hi:Int):Prop:=lo.natAbs.log2<1920/\hi.natAbs.log2<1920/\(Str.ofString (toString lo)).length<=100/\(Str.ofString (toString hi)).length<=100
noncomputable abbrev A0j:Stmt:=(top 15)
section
variable{P:Program}{w:World}{K:Frag}{mg:Str ->Option Value}{base:Heap}
noncomputable def B2x (K:Frag) (CB:Addr):Sp:=fun vs H Q E=>∃v lo hi,vs=[v,.int lo,.int hi]/\A9q lo hi/\
 ((A2r lo hi v/\Q .non H)\/(A8z K H lo hi v/\E (.ref CB) none H))
theorem B1u:FnScope ["thing","least","most"] ["thing","least","most"] (A7 A0j):=scK
theorem A4b{f f1 CB:Addr}(D:Def K mg "need_between" ["thing","least","most"] A0j f fd)(D1:Def K mg "is_between" ["thing","least","most"] B2m f1 fd1)(O:Own mg)(T:Kit K)(B:Err K mg "BadNumber" CB):
   FnOk P w K mg base (CX1 P w) 2 f fd ["thing","least","most"] (B2x K CB):=by
 have G1:=C0q (P:=P) (w:=w) (base:=base) D1 O T
 refine D.F.okE B1u (fun vs H Q E h=>?_) (fun X cdv A outer s H vs Q E hX hr hx h=>?_)
 . obtain⟨v,lo,hi,rfl,_⟩:=h
   rfl
 . subst hX
   obtain⟨v,lo,hi,rfl,⟨l1,l2,l3,l4⟩,h⟩:=h
   refine⟨_,(B0 (G7 (Z7 (U5 (C0 D1 G1 hr hx (A0 (pv 0) (A0 (pv 1) (A0 (pv 2) A2))))))
     (B0 (Y8 (by rfl) B.g B.q PySem.F.excBase_ValueError hr.hd hx (A0 (B8q (.cons .lit (.cons (.int (pv 1)) (.cons .lit (.cons (.int (pv 2)) .nil))))) A2))) C8)),?_⟩
   rcases h with⟨g,k⟩|⟨bad,k⟩
   . exact⟨_,rfl,_,rfl,_,rfl,_,_,_,rfl,.inl ⟨g,_,rfl,U8 k⟩⟩
   . have a0:Str.empty.length=0:=rfl
     have a1:(Str.ofString "not a whole number from ").length=24:=by decide+kernel
     have a2:(Str.ofString " to ").length=4:=by decide+kernel
     have sz:∀{n:Nat},n<=1000 ->n<=sizeLine:=fun h=>Nat.le_of_lt (V8 h)
     refine⟨_,rfl,_,rfl,_,rfl,_,_,_,rfl,.inr ⟨bad,_,rfl,V7 ?_⟩⟩
     exact⟨_,rfl,sz (by rw[strLen_append];omega),_,rfl,_,rfl,l1,_,rfl,sz (by rw[strLen_append,strLen_append];omega),_,rfl,sz (by rw[strLen_append,strLen_append,strLen_append];omega),_,rfl,_,rfl,l2,_,rfl,sz (by rw[strLen_append,strLen_append,strLen_append,strLen_append];omega),sz (by rw[strLen_append,strLen_append,strLen_append,strLen_append];omega),sz (by show 1<=1000;decide),k⟩
end
noncomputable abbrev A4h:Stmt:=(B7w (top 8) 0)
noncomputable abbrev B1j:Stmt:=(top 12)
noncomputable abbrev A6e:Stmt:=(top 13)
structure Num(K:Frag)(mg:Str ->Option Value)(CN:Addr):Prop where
 g:mg "Number"=some (.ref CN)
 cl:Cls K CN
 n1:NoAttr K CN "kind"
 n2:NoAttr K CN "sign"
 n3:NoAttr K CN "figures"
 n4:NoAttr K CN "power"
 ca:findIn K (.ref CN) "__class__"=some (some (.builtin "object.__class__"))
 sn:specialIn K (.builtin "object.__class__") "__get__"=some (some (.builtin "getset_descriptor.__get__"))
 tk:takesIn K (.builtin "object.__class__")=some true
 ob:mroIn K CN (.type "object")=some true
 self:kitOne K (.ref CN) (.ref CN)=some true
noncomputable def A4f (k s f p:V):List (Str×V):=Y6 "power" p (Y6 "figures" f (Y6 "sign" s (Y6 "kind" k [])))
theorem e12:¬(("kind":Str)="sign"):=by decide+kernel
theorem e13:¬(("kind":Str)="figures"):=by decide+kernel
theorem e14:¬(("kind":Str)="power"):=by decide+kernel
theorem e23:¬(("sign":Str)="figures"):=by decide+kernel
theorem e24:¬(("sign":Str)="power"):=by decide+kernel
theorem e34:¬(("figures":Str)="power"):=by decide+kernel
theorem C4u(k s f p:V):(A4f k s f p).lookup ("kind":Str)=some k:=by unfold A4f;rw[D5,if_neg e14,D5,if_neg e13,D5,if_neg e12,D5,if_pos rfl]
theorem C4j(k s f p:V):(A4f k s f p).lookup ("sign":Str)=some s:=by unfold A4f;rw[D5,if_neg e24,D5,if_neg e23,D5,if_pos rfl]
theorem C4h(k s f p:V):(A4f k s f p).lookup ("figures":Str)=some f:=by unfold A4f;rw[D5,if_neg e34,D5,if_pos rfl]
theorem C3z(k s f p:V):(A4f k s f p).lookup ("power":Str)=some p:=by unfold A4f;rw[D5,if_pos rfl]
noncomputable def A2p (CN:Addr) (H:Hp) (n:Addr) (k s f p:V):Prop:=∃dx,H n=some (.ins CN dx (A4f k s f p))
theorem Num.ty{K:Frag}{mg:Str ->Option Value}{CN:Addr}(N:Num K mg CN){H:Hp}{n:Addr}{k s f p:V}(h:A2p CN H n k s f p):TyE K H (.ref n) (.ref CN):=by
 obtain⟨dx,z⟩:=h
 exact .of (.ins z N.cl N.ca N.sn N.tk N.ob)
section
variable{P:Program}{w:World}{K:Frag}{mg:Str ->Option Value}{base:Heap}
noncomputable def A8r (CN:Addr):Sp:=fun vs H Q _=>∃(p dx:Addr) (k s f pw:V),vs=[.ref p,k,s,f,pw]/\H p=some (.ins CN dx [])/\∀H',H' p=some (.ins CN dx (A4f k s f pw)) ->(∀b o,H b=some o ->b≠p ->H' b=some o) ->Q .non H'
theorem B9m:FnScope ["self","kind","sign","figures","power"] ["self","kind","sign","figures","power"] (A7 A4h):=scK
theorem B6r{f CN:Addr}(F:Fun K "__init__" "Number.__init__" A4h f fd)(N:Num K mg CN):FnOk P w K mg base CX0 1 f fd ["self","kind","sign","figures","power"] (A8r CN):=by
 refine F.ok B9m (fun vs H Q E h=>?_) (fun cdv A outer s H vs Q E hr h=>?_)
 . obtain⟨p,dx,a,b,c,d,rfl,_⟩:=h
   rfl
 . obtain⟨p,dx,a,b,c,d,rfl,hp,k⟩:=h
   refine⟨_,A4 (A6f (pv 0) (pv 1) rfl) (A4 (A6f (pv 0) (pv 2) rfl) (A4 (A6f (pv 0) (pv 3) rfl) (B0 (A6f (pv 0) (pv 4) rfl)))),?_⟩
   have l:∀(fs:List (Str×V)) (f:Str) (v:V) (n:Nat),fs.length<=n ->(Y6 f v fs).length<=n+1:=fun fs f v n h=>Nat.le_trans (A0h f v fs) (Nat.succ_le_succ h)
   refine⟨_,rfl,_,rfl,p,CN,dx,[],rfl,hp,N.cl,N.n1,(by show 0<1000;decide),?_⟩
   refine⟨_,rfl,_,rfl,p,CN,dx,_,rfl,A9,N.cl,N.n2,Nat.lt_of_le_of_lt (l _ _ _ 0 (Nat.le_refl _)) (by decide),?_⟩
   refine⟨_,rfl,_,rfl,p,CN,dx,_,rfl,A9,N.cl,N.n3,Nat.lt_of_le_of_lt (l _ _ _ 1 (l _ _ _ 0 (Nat.le_refl _))) (by decide),?_⟩
   refine⟨_,rfl,_,rfl,p,CN,dx,_,rfl,A9,N.cl,N.n4,Nat.lt_of_le_of_lt (l _ _ _ 2 (l _ _ _ 1 (l _ _ _ 0 (Nat.le_refl _)))) (by decide),?_⟩
   refine k _ A9 fun b o e hb=>?_
   rw[D3 hb,D3 hb,D3 hb,D3 hb]
   exact e
structure MakeN(P:Program)(w:World)(K:Frag)(mg:Str ->Option Value)(base:Heap)(CN fI:Addr)(fdI:FuncData):Prop where
 m:Mk K CN fI
 g:FnOk P w K mg base CX0 1 fI fdI ["self","kind","sign","figures","power"] (A8r CN)
 b:Binds K fdI ["self","kind","sign","figures","power"] []
theorem made{CN:Addr}{H:Hp}{Q:VK}{k s f p:V}(h:∀n H',H n=none ->Same H H' ->A2p CN H' n k s f p ->Q (.ref n) H'):
   ∀x dx,H x=none ->H dx=none ->dx≠x ->A8r CN (.ref x::([k,s,f,p]++ [])) (upd (upd H dx (.own x)) x (.ins CN dx [])) (fun v H2=>v= .non/\Q (.ref x) H2) E0:=by
 intro x dx nx nd ne
 refine⟨x,dx,k,s,f,p,rfl,A9,fun H' e kp=>⟨rfl,h x H' nx (fun b o z=>?_) ⟨dx,e⟩⟩⟩
 refine kp b o ?_ (G5 z nx)
 rw[D3 (G5 z nx),D3 (G5 z nd)]
 exact z
noncomputable def B4t (K:Frag) (CN:Addr) (H:Hp) (v:V):Prop:=∃t,TyE K H v t/\kitOne K t (.ref CN)=some false
noncomputable def B7s (K:Frag) (CN CB:Addr):Sp:=fun vs H Q E=>∃v,vs=[v]/\((∃n k s f p,v= .ref n/\A2p CN H n k s f p/\Q v H)\/(B4t K CN H v/\E (.ref CB) none H))
theorem B7n:FnScope ["thing"] ["thing"] (A7 A6e):=scK
theorem A7x{f CN CB:Addr}(D:Def K mg "need_number" ["thing"] A6e f fd)(O:Own mg)(T:Kit K)(B:Err K mg "BadNumber" CB)(N:Num K mg CN):FnOk P w K mg base (CX1 P w) 1 f fd ["thing"] (B7s K CN CB):=by
 refine D.F.okE B7n (fun vs H Q E h=>?_) (fun X cdv A outer s H vs Q E hX hr hx h=>?_)
 . obtain⟨v,rfl,_⟩:=h
   rfl
 . subst hX
   obtain⟨v,rfl,h⟩:=h
   refine⟨_,(A4 (G7 (Z7 (U5 (A1x O.isi (pv 0) (B2f N.g)))) (B0 (Y8 (by rfl) B.g B.q PySem.F.excBase_ValueError hr.hd hx (A0 A6 A2))) C8)
     (B0 (B7 (pv 0)))),?_⟩
   rcases h with⟨n,a,b,c,d,rfl,hn,k⟩|⟨⟨t,ty,k1⟩,k⟩
   . exact⟨_,rfl,_,_,_,_,true,rfl,rfl,N.ty hn,N.self,_,rfl,U8 ⟨_,rfl,k⟩⟩
   . exact⟨_,rfl,_,_,_,t,false,rfl,rfl,ty,k1,_,rfl,V7 ⟨Nat.le_of_lt (V8 (by show 1<=1000;decide)),k⟩⟩
noncomputable def B3x (K:Frag) (CN CB:Addr):Sp:=fun vs H Q E=>∃v,vs=[v]/\((∃n k s f p,v= .ref n/\A2p CN H n k s f p/\∀t,H t=none ->Q (.ref t) (upd H t (.tup [k,s,f,p])))\/(B4t K CN H v/\E (.ref CB) none H))
theorem C0f:FnScope ["number"] ["number"] (A7 B1j):=scK
theorem B7b{f f1 CN CB:Addr}(D:Def K mg "told" ["number"] B1j f fd)(dA:Def K mg "need_number" ["thing"] A6e f1 fd1)(O:Own mg)(T:Kit K)(B:Err K mg "BadNumber" CB)(N:Num K mg CN):
   FnOk P w K mg base (CX1 P w) 2 f fd ["number"] (B3x K CN CB):=by
 have G_need_number:=A7x (P:=P) (w:=w) (base:=base) dA O T B N
 refine D.F.okE C0f (fun vs H Q E h=>?_) (fun X cdv A outer s H vs Q E hX hr hx h=>?_)
 . obtain⟨v,rfl,_⟩:=h
   rfl
 . subst hX
   obtain⟨v,rfl,h⟩:=h
   refine⟨_,(A4 (Z2 (C0 dA G_need_number hr hx (A0 (pv 0) A2)))
     (B0 (B7 (J9 (A0 (A6b (pv 0) rfl) (A0 (A6b (pv 0) rfl) (A0 (A6b (pv 0) rfl) (A0 (A6b (pv 0) rfl) A2)))))))),?_⟩
   rcases h with⟨n,a,b,c,d,rfl,hn,k⟩|⟨bad,k⟩
   . refine⟨_,rfl,_,rfl,.inl ⟨n,a,b,c,d,rfl,hn,?_⟩⟩
     obtain⟨dx,e⟩:=hn
     exact⟨_,rfl,n,CN,dx,_,_,rfl,e,N.cl,N.n1,C4u _ _ _ _,_,rfl,n,CN,dx,_,_,rfl,e,N.cl,N.n2,C4j _ _ _ _,_,rfl,n,CN,dx,_,_,rfl,e,N.cl,N.n3,C4h _ _ _ _,_,rfl,n,CN,dx,_,_,rfl,e,N.cl,N.n4,C3z _ _ _ _,
       Nat.le_of_lt (V8 (by show 4<=1000;decide)),k⟩
   . exact⟨_,rfl,_,rfl,.inr ⟨bad,k⟩⟩
end
noncomputable abbrev A6q:Stmt:=(top 9)
noncomputable abbrev B8k:Stmt:=(top 10)
noncomputable abbrev A1t:Stmt:=(top 11)
section
variable{P:Program}{w:World}{K:Frag}{mg:Str ->Option Value}{base:Heap}
noncomputable def B0q (K:Frag) (CN CB:Addr):Sp:=fun vs H Q E=>∃x y z,vs=[x,y,z]/\
 ((A2r 0 1 x/\A2r 0 (10^60-1) y/\A2r (-200) 200 z/\∀n H',H n=none ->Same H H' ->A2p CN H' n (.str "plain") x y z ->Q (.ref n) H')\/
  ((A8z K H 0 1 x\/(A2r 0 1 x/\(A8z K H 0 (10^60-1) y\/(A2r 0 (10^60-1) y/\A8z K H (-200) 200 z))))/\E (.ref CB) none H))
theorem B6m:FnScope ["sign","figures","power"] ["sign","figures","power"] (A7 A6q):=scK
theorem b01:A9q 0 1:=by unfold A9q;decide+kernel
theorem b60:A9q 0 (10^60-1):=by unfold A9q;decide+kernel
theorem C3g:A9q (-200) 200:=by unfold A9q;decide+kernel
theorem B5h{f f1 f2 fI CN CB:Addr}{fd fd1 fd2 fdI:FuncData}(D:Def K mg "plain" ["sign","figures","power"] A6q f fd)(dA:Def K mg "need_between" ["thing","least","most"] A0j f1 fd1)(D2:Def K mg "is_between" ["thing","least","most"] B2m f2 fd2)
   (O:Own mg) (T:Kit K) (B:Err K mg "BadNumber" CB) (N:Num K mg CN) (M:MakeN P w K mg base CN fI fdI):FnOk P w K mg base (CX1 P w) 3 f fd ["sign","figures","power"] (B0q K CN CB):=by
 have G_need_between:=A4b (P:=P) (w:=w) (base:=base) dA D2 O T B
 refine D.F.okE B6m (fun vs H Q E h=>?_) (fun X cdv A outer s H vs Q E hX hr hx h=>?_)
 . obtain⟨x,y,z,rfl,_⟩:=h
   rfl
 . subst hX
   obtain⟨x,y,z,rfl,h⟩:=h
   refine⟨_,(A4 (Z2 (C0 dA G_need_between hr hx (A0 (pv 0) (A0 A1 (A0 A1 A2)))))
     (A4 (Z2 (C0 dA G_need_between hr hx (A0 (pv 1) (A0 A1 (A0 (A8 A0z (A8 B9w A1 A1) A1) A2)))))
     (A4 (Z2 (C0 dA G_need_between hr hx (A0 (pv 2) (A0 (A5k A2d A1) (A0 A1 A2)))))
     (B0 (B7 (A5s M.m M.g hr rfl N.g M.b .nil B3m (A0 A6 (A0 (pv 0) (A0 (pv 1) (A0 (pv 2) A2)))))))))),?_⟩
   have pw:C3c 10 60:=⟨by decide,by decide,by decide⟩
   rcases h with⟨⟨i1,rfl,l1,u1⟩,⟨i2,rfl,l2,u2⟩,⟨i3,rfl,l3,u3⟩,k⟩|⟨bad,k⟩
   . refine⟨_,rfl,_,_,_,rfl,b01,.inl ⟨⟨i1,rfl,l1,u1⟩,?_⟩⟩
     refine⟨_,rfl,_,_,rfl,rfl,pw,_,_,rfl,rfl,_,_,_,rfl,b60,.inl ⟨⟨i2,rfl,l2,u2⟩,?_⟩⟩
     refine⟨_,rfl,_,rfl,_,_,_,rfl,C3g,.inl ⟨⟨i3,rfl,l3,u3⟩,?_⟩⟩
     exact⟨_,rfl,_,rfl,_,rfl,made k⟩
   . rcases bad with bad|⟨⟨i1,rfl,l1,u1⟩,bad|⟨⟨i2,rfl,l2,u2⟩,bad⟩⟩
     . exact⟨_,rfl,_,_,_,rfl,b01,.inr ⟨bad,k⟩⟩
     . refine⟨_,rfl,_,_,_,rfl,b01,.inl ⟨⟨i1,rfl,l1,u1⟩,?_⟩⟩
       exact⟨_,rfl,_,_,rfl,rfl,pw,_,_,rfl,rfl,_,_,_,rfl,b60,.inr ⟨bad,k⟩⟩
     . refine⟨_,rfl,_,_,_,rfl,b01,.inl ⟨⟨i1,rfl,l1,u1⟩,?_⟩⟩
       refine⟨_,rfl,_,_,rfl,rfl,pw,_,_,rfl,rfl,_,_,_,rfl,b60,.inl ⟨⟨i2,rfl,l2,u2⟩,?_⟩⟩
       exact⟨_,rfl,_,rfl,_,_,_,rfl,C3g,.inr ⟨bad,k⟩⟩
noncomputable def B9j (K:Frag) (CN CB:Addr):Sp:=fun vs H Q E=>∃x,vs=[x]/\((A2r 0 1 x/\∀n H',H n=none ->Same H H' ->A2p CN H' n (.str "end") x (.int 0) (.int 0) ->Q (.ref n) H')\/(A8z K H 0 1 x/\E (.ref CB) none H))
theorem C1z:FnScope ["sign"] ["sign"] (A7 B8k):=scK
theorem C0a{f f1 f2 fI CN CB:Addr}{fd fd1 fd2 fdI:FuncData}(D:Def K mg "end" ["sign"] B8k f fd)(dA:Def K mg "need_between" ["thing","least","most"] A0j f1 fd1)(D2:Def K mg "is_between" ["thing","least","most"] B2m f2 fd2)
   (O:Own mg) (T:Kit K) (B:Err K mg "BadNumber" CB) (N:Num K mg CN) (M:MakeN P w K mg base CN fI fdI):FnOk P w K mg base (CX1 P w) 3 f fd ["sign"] (B9j K CN CB):=by
 have G_need_between:=A4b (P:=P) (w:=w) (base:=base) dA D2 O T B
 refine D.F.okE C1z (fun vs H Q E h=>?_) (fun X cdv A outer s H vs Q E hX hr hx h=>?_)
 . obtain⟨x,rfl,_⟩:=h
   rfl
 . subst hX
   obtain⟨x,rfl,h⟩:=h
   refine⟨_,(A4 (Z2 (C0 dA G_need_between hr hx (A0 (pv 0) (A0 A1 (A0 A1 A2)))))
     (B0 (B7 (A5s M.m M.g hr rfl N.g M.b .nil B3m (A0 A6 (A0 (pv 0) (A0 A1 (A0 A1 A2)))))))),?_⟩
   rcases h with⟨⟨i1,rfl,l1,u1⟩,k⟩|⟨bad,k⟩
   . refine⟨_,rfl,_,_,_,rfl,b01,.inl ⟨⟨i1,rfl,l1,u1⟩,?_⟩⟩
     exact⟨_,rfl,made k⟩
   . exact⟨_,rfl,_,_,_,rfl,b01,.inr ⟨bad,k⟩⟩
noncomputable def A4x (CN:Addr):Sp:=fun vs H Q _=>vs=[]/\∀n H',H n=none ->Same H H' ->A2p CN H' n (.str "none") (.int 0) (.int 0) (.int 0) ->Q (.ref n) H'
theorem B1s:FnScope [] [] (A7 A1t):=scK
theorem A8t{f fI CN:Addr}{fd fdI:FuncData}(D:Def K mg "nothing" [] A1t f fd)(N:Num K mg CN)(M:MakeN P w K mg base CN fI fdI):FnOk P w K mg base (CX1 P w) 3 f fd [] (A4x CN):=by
 refine D.F.okE B1s (fun vs H Q E h=>?_) (fun X cdv A outer s H vs Q E hX hr hx h=>?_)
 . obtain⟨rfl,_⟩:=h
   rfl
 . subst hX
   obtain⟨rfl,k⟩:=h
   refine⟨_,(B0 (B7 (A5s M.m M.g hr rfl N.g M.b .nil B3m (A0 A6 (A0 A1 (A0 A1 (A0 A1 A2))))))),?_⟩
   exact made k
end
inductive Kd where
 |plain|end_|none
noncomputable def Kd.str:Kd ->Str
 | .plain=>"plain"
 | .end_=>"end"
 | .none=>"none"
structure Nm where
 k:Kd
 s:Int
 f:Int
 p:Int
noncomputable def Nm.vs (x:Nm):List V:=[.str x.k.str,.int x.s,.int x.f,.int x.p]
noncomputable def B4z (CN:Addr) (H:Hp) (n:Addr) (x:Nm):Prop:=A2p CN H n (.str x.k.str) (.int x.s) (.int x.f) (.int x.p)
noncomputable abbrev A6s:Stmt:=(top 26)
section
variable{P:Program}{w:World}{K:Frag}{mg:Str ->Option Value}{base:Heap}
noncomputable def A8p (K:Frag):Sp:=fun vs H Q _=>∃a ns k,vs=[.ref a,.int k]/\SqL K H a ((ns:List Int).map V.int)/\0<=k/\∀i,Q (.int i) H
theorem B9x:FnScope ["_law_script","_law_k"] ["_law_script","_law_k"] (A7 A6s):=scK
theorem B6y(D:Def K mg "_law_cell_at" ["_law_script","_law_k"] A6s f fd)(O:Own mg):FnOk P w K mg base (CX1 P w) 1 f fd ["_law_script","_law_k"] (A8p K):=by
 refine FnOk.up (D.F.ok B9x (fun vs H Q E h=>?_) (fun cdv A outer s H vs Q E hr h=>?_))
 . obtain⟨a,ns,k,rfl,_⟩:=h
   rfl
 . obtain⟨a,ns,i,rfl,hs,h0,k⟩:=h
   refine⟨_,(A4 (G7 (B5 B0f (pv 1) (D9 A1j (by rfl) O.len_ PySem.boot_len (A0 (pv 0) A2)) (B9 _)) (B0 (B7 (J0 V0 (pv 0) (pv 1) (fun _ _=>rfl)))) C8)
     (B0 (B7 A1))),?_⟩
   refine⟨_,rfl,_,rfl,a,_,rfl,.inl hs,_,_,rfl,rfl,_,rfl,?_⟩
   refine Y0 (fun hlt=>?_) (fun _=>k 0)
   rw[List.length_map] at hlt
   obtain⟨j,rfl⟩:=Int.eq_ofNat_of_zero_le h0
   have hj:j<ns.length:=by omega
   exact⟨_,rfl,_,rfl,a,_,_,_,rfl,rfl,hs,D8 (v:=V.int ns[j]) (by simp[hj]),k _⟩
end
noncomputable abbrev A2e:Stmt:=(top 27)
section
variable{P:Program}{w:World}{K:Frag}{mg:Str ->Option Value}{base:Heap}
noncomputable def A3c:Sp:=fun vs H Q _=>∃c k,vs=[.int c,.int k]/\0<=k/\k<=100/\∀m,0<=m ->m<2147483629 ->Q (.int m) H
theorem B8e:FnScope ["_law_cell","_law_k"] ["_law_cell","_law_k"] (A7 A2e):=scK
theorem B3y(D:Def K mg "_law_mixed" ["_law_cell","_law_k"] A2e f fd):FnOk P w K mg base (CX1 P w) 1 f fd ["_law_cell","_law_k"] A3c:=by
 refine FnOk.up (D.F.ok B8e (fun vs H Q E h=>?_) (fun cdv A outer s H vs Q E hr h=>?_))
 . obtain⟨c,k,rfl,_⟩:=h
   rfl
 . obtain⟨c,i,rfl,h0,h1,k⟩:=h
   refine⟨_,(B0 (B7 (A8 D6 (A8 Y4 (A8 D6 (A8 G6 (A8 G6 (A8 Y4 (pv 0) (A8 G6 A1 (A8 Y4 (A8 Y4 A1 (pv 1)) (pv 1)))) (A8 Y4 A1 (pv 1))) A1) A1) A1) A1))),?_⟩
   have q0:(0:Int)<=2*i*i:=Int.mul_nonneg (by omega) h0
   have q1:2*i*i<=200*100:=Int.mul_le_mul (by omega) h1 h0 (by decide)
   have m1:IntMulOk 2 i:=CMul.ok (.inl ⟨by decide,by decide⟩)
   have m2:IntMulOk (2*i) i:=CMul.ok (.inr ⟨by omega,by omega⟩)
   have m3:IntMulOk c (48271+2*i*i):=CMul.ok (.inr ⟨by omega,by omega⟩)
   have m4:IntMulOk 69621 i:=CMul.ok (.inl ⟨by decide,by decide⟩)
   have m5:∀z:Int,IntMulOk z 69621:=fun z=>CMul.ok (.inr ⟨by decide,by decide⟩)
   refine⟨_,rfl,_,rfl,_,_,rfl,rfl,m1,_,rfl,_,_,rfl,rfl,m2,_,_,rfl,rfl,_,_,rfl,rfl,m3,_,rfl,_,_,rfl,rfl,m4,_,_,rfl,rfl,_,_,rfl,rfl,_,_,rfl,rfl,(by show(0:Int)<2147483647;decide),_,_,rfl,rfl,m5 _,_,_,rfl,rfl,(by show(0:Int)<2147483629;decide),?_⟩
   exact k _ (Int.emod_nonneg _ (by decide)) (Int.emod_lt_of_pos _ (by decide))
end
noncomputable abbrev A1u:Stmt:=(top 18)
noncomputable abbrev A1p:Stmt:=(top 19)
noncomputable abbrev A2y:Stmt:=(top 24)
noncomputable abbrev A0d:Stmt:=(top 23)
noncomputable abbrev A1q:Stmt:=(top 21)
noncomputable abbrev Z1:Stmt:=(top 22)
noncomputable def A1b (z:Str):Bool:=Txt.startswith z "-"
noncomputable def B1c (z:Str):Bool:=Txt.startswith z "+"||Txt.startswith z "-"
noncomputable def bare (z:Str):Str:=if B1c z=true then G8 z (some 1) none else z
noncomputable def A0b (z:Str):Bool:= !(decide (z=""))&&decide (Txt.stripChars z "0123456789"="")
noncomputable def A7h (z:Str):Int:=((PySem.NumText.digitsVal z.cps.toList:Nat):Int)
noncomputable def A0g (z:Str):Option Int:=if A0b z=true then(if(Txt.lstripChars z "0").length>60 then none else some (A7h z)) else none
noncomputable def shR (z:Str):Option Int:=if A0b (bare z)=true then(if(bare z).length>3 then none else some (if A1b z=true then -A7h (bare z) else A7h (bare z))) else none
theorem B3h:("":Str)=S []:=by decide+kernel
theorem C2g:("0123456789":Str)=S digS:=by decide+kernel
theorem B7v:("0":Str)=S [48]:=by decide+kernel
theorem B1z:("-":Str)=S [45]:=by decide+kernel
theorem C0d:("+":Str)=S [43]:=by decide+kernel
theorem litE:("e":Str)=S [101]:=by decide+kernel
theorem A9b:(".":Str)=S [46]:=by decide+kernel
theorem U2(l:List Nat):A0b (S l)=true↔l≠ []/\PySem.NumText.AllDigits l:=by
 unfold A0b
 rw[B3h,C2g,Bool.and_eq_true,Bool.not_eq_true',decide_eq_false_iff_not,decide_eq_true_iff,A8x]
 constructor
 . rintro⟨h1,h2⟩
   exact⟨fun z=>h1 (by rw[z]),fun c hc=>(U0 c).mp (h2 c hc)⟩
 . rintro⟨h1,h2⟩
   exact⟨fun z=>h1 (A0v z),fun c hc=>(U0 c).mpr (h2 c hc)⟩
theorem A3w(z:Str):(bare z).length<=z.length:=by
 unfold bare
 split
 . rename_i h
   rw[<-A2b z] at h ⊢
   generalize z.cps.toList=l at*
   have hl:1<=l.length:=by
     cases l with
     | nil=>
       unfold B1c at h
       rw[C0d,B1z,A0c,A0c] at h
       cases h
     |cons a t=>exact Nat.succ_le_succ (Nat.zero_le _)
   have e:=A4a l 1 hl
   rw[show((1:Nat):Int)=1 from rfl] at e
   rw[e,C7,C7,List.length_drop]
   omega
 . exact Nat.le_refl _
section
variable{P:Program}{w:World}{K:Frag}{mg:Str ->Option Value}{base:Heap}
noncomputable def A3v:Sp:=fun vs H Q _=>∃z:Str,vs=[.str z]/\Q (.int (if A1b z=true then 1 else 0)) H
theorem B3p:FnScope ["word"] ["word"] (A7 A1u):=scK
theorem B1v(D:Def K mg "sign_of" ["word"] A1u f fd):FnOk P w K mg base (CX1 P w) 1 f fd ["word"] A3v:=by
 refine D.F.okE B3p (fun vs H Q E h=>?_) (fun X cdv A outer s H vs Q E hX hr hx h=>?_)
 . obtain⟨z,rfl,_⟩:=h
   rfl
 . subst hX
   obtain⟨z,rfl,k⟩:=h
   refine⟨_,(B0 (B7 (V9 (U5 (A1k PySem.F.plainAttrs_str PySem.F.slot_str_startswith PySem.F.type_str_startswith B2d (pv 0) (A0 A6 A2))) A1 A1))),?_⟩
   refine⟨_,rfl,rfl,z,_,rfl,rfl,_,rfl,?_⟩
   unfold A1b at k
   cases hb:Txt.startswith z "-" with
   |true=>rw[hb] at k;exact V7 k
   |false=>rw[hb] at k;exact U8 k
noncomputable def A3f:Sp:=fun vs H Q _=>∃z:Str,vs=[.str z]/\z.length<=1000/\∀H',Same H H' ->Q (.str (bare z)) H'
theorem B5k:FnScope ["word"] ["word"] (A7 A1p):=scK
theorem B1p(D:Def K mg "without_sign" ["word"] A1p f fd):FnOk P w K mg base (CX1 P w) 1 f fd ["word"] A3f:=by
 refine D.F.okE B5k (fun vs H Q E h=>?_) (fun X cdv A outer s H vs Q E hX hr hx h=>?_)
 . obtain⟨z,rfl,_⟩:=h
   rfl
 . subst hX
   obtain⟨z,rfl,hz,k⟩:=h
   have z2:2<=sizeLine:=A3 (by decide)
   refine⟨_,(B0 (B7 (V9 (U5 (A1k PySem.F.plainAttrs_str PySem.F.slot_str_startswith PySem.F.type_str_startswith A9y (pv 0) (A0 (J9 (A0 A6 (A0 A6 A2))) A2))) (G4 U4 (pv 0) (G0 A1) V2) (pv 0)))),?_⟩
   refine⟨_,rfl,rfl,z2,fun p np=>⟨z,p,_,_,rfl,rfl,A9,_,rfl,?_⟩⟩
   have k:=k _ (Same.upd (o:= .tup [.str "+",.str "-"]) np)
   have bl:=A3w z
   unfold bare B1c at k bl
   cases hb:(Txt.startswith z "+"||Txt.startswith z "-") with
   | true=>
     rw[hb,if_pos rfl] at k bl
     exact V7 ⟨_,rfl,1,rfl,z,rfl,A3 (Nat.le_trans bl hz),k⟩
   | false=>
     rw[hb,if_neg Bool.false_ne_true] at k
     exact U8 ⟨_,rfl,k⟩
noncomputable def B4v:Sp:=fun vs H Q _=>∃z:Str,vs=[.str z]/\z.length<=1000/\Q (.bl (A0b z)) H
theorem B5c:FnScope ["digits"] ["digits"] (A7 A2y):=scK
theorem B2u(D:Def K mg "are_figures" ["digits"] A2y f fd):FnOk P w K mg base (CX1 P w) 1 f fd ["digits"] B4v:=by
 refine D.F.okE B5c (fun vs H Q E h=>?_) (fun X cdv A outer s H vs Q E hX hr hx h=>?_)
 . obtain⟨z,rfl,_⟩:=h
   rfl
 . subst hX
   obtain⟨z,rfl,hz,k⟩:=h
   refine⟨_,(B0 (B7 (A9n (V5 B4r (pv 0) A6 (B9 _)) (A8y (V5 U7 (A1k PySem.F.plainAttrs_str PySem.F.slot_str_strip PySem.F.type_str_strip A7c (pv 0) (A0 A6 A2)) A6 (B9 _)))))),?_⟩
   refine⟨_,rfl,rfl,_,rfl,?_⟩
   have ev:∀a b:Str,decide (V.str a=V.str b)=decide (a=b):=fun a b=>decide_eq_decide.mpr ⟨fun z=>by injection z,fun z=>by rw[z]⟩
   unfold A0b at k
   rw[ev]
   cases hb:decide (z="") with
   | true=>
     rw[hb] at k
     exact U8 k
   | false=>
     rw[hb] at k
     refine V7 ⟨_,rfl,rfl,z,_,rfl,rfl,A3 hz,rfl,?_⟩
     rw[ev]
     exact k
noncomputable def A2f (CB:Addr):Sp:=fun vs H Q E=>∃z:Str,vs=[.str z]/\z.length<=1000/\((A0b z=true/\Q .non H)\/(A0b z=false/\E (.ref CB) none H))
theorem B2b:FnScope ["digits"] ["digits"] (A7 A0d):=scK
theorem A9t{f f1 CB:Addr}(D:Def K mg "need_figures" ["digits"] A0d f fd)(dA:Def K mg "are_figures" ["digits"] A2y f1 fd1)(B:Err K mg "NoText" CB):FnOk P w K mg base (CX1 P w) 2 f fd ["digits"] (A2f CB):=by
 have G_are_figures:=B2u (P:=P) (w:=w) (base:=base) dA
 refine D.F.okE B2b (fun vs H Q E h=>?_) (fun X cdv A outer s H vs Q E hX hr hx h=>?_)
 . obtain⟨z,rfl,_⟩:=h
   rfl
 . subst hX
   obtain⟨z,rfl,hz,h⟩:=h
   refine⟨_,(B0 (G7 (Z7 (U5 (C0 dA G_are_figures hr hx (A0 (pv 0) A2)))) (B0 (Y8 (by rfl) B.g B.q PySem.F.excBase_ValueError hr.hd hx (A0 A6 A2))) C8)),?_⟩
   rcases h with⟨hb,k⟩|⟨hb,k⟩
   . refine⟨_,rfl,z,rfl,hz,?_⟩
     rw[hb]
     exact⟨_,rfl,U8 k⟩
   . refine⟨_,rfl,z,rfl,hz,?_⟩
     rw[hb]
     exact⟨_,rfl,V7 ⟨A3 (by show 1<=1000;decide),k⟩⟩
theorem A9p(z:Str):(Txt.lstripChars z "0").length<=z.length:=by
 rw[<-A2b z,B7v,A1r,C7,C7]
 exact(List.dropWhile_suffix _).length_le
theorem C4c{z:Str}(h:A0b z=true)(hl:(Txt.lstripChars z "0").length<=60):PySem.intText? (("0":Str)++Txt.lstripChars z "0")=some (A7h z):=by
 unfold A7h
 rw[<-A2b z] at h hl ⊢
 generalize z.cps.toList=l at*
 have d:=((U2 l).mp h).2
 rw[B7v,A1r] at hl ⊢
 rw[C7] at hl
 rw[A0k,U9]
 have e:PySem.NumText.digitsVal (S ([48]++l.dropWhile ([48]:List Nat).contains)).cps.toList=PySem.NumText.digitsVal l:=by
   rw[U9]
   exact(A5h 1 _).trans (A3k l)
 rw[<-e]
 refine PySem.intText_digits ?_ ?_ ?_
 . rw[U9]
   intro c hc
   rcases List.mem_append.mp hc with hc|hc
   . rw[List.mem_singleton.mp hc]
     decide
   . exact d c ((List.dropWhile_suffix _).mem hc)
 . rw[U9]
   exact fun z=>nomatch z
 . rw[C7,List.length_append]
   show 1+_<=4300
   omega
noncomputable def A4k (CB:Addr):Sp:=fun vs H Q E=>∃z:Str,vs=[.str z]/\z.length<=1000/\((∃n,A0g z=some n/\Q (.int n) H)\/(A0g z=none/\E (.ref CB) none H))
theorem scFigRead:FnScope ["digits","counted"] ["digits"] (A7 A1q):=scK
theorem A8u{f f1 CB:Addr}(D:Def K mg "figures_read" ["digits"] A1q f fd)(dA:Def K mg "need_figures" ["digits"] A0d f1 fd1)(dB:FnOk P w K mg base (CX1 P w) 2 f1 fd1 ["digits"] (A2f CB))(B:Err K mg "NoText" CB)(O:Own mg):FnOk P w K mg base (CX1 P w) 3 f fd ["digits"] (A4k CB):=by
 refine D.F.okE scFigRead (fun vs H Q E h=>?_) (fun X cdv A outer s H vs Q E hX hr hx h=>?_)
 . obtain⟨z,rfl,_⟩:=h
   rfl
 . subst hX
   obtain⟨z,rfl,hz,h⟩:=h
   refine⟨_,(A4 (A5 (Z2 (C0 dA dB hr hx (A0 (pv 0) A2))))
     (A4 (A5 (B3 (i:=1) scFigRead.nd rfl (Or.inl rfl) (A1k PySem.F.plainAttrs_str PySem.F.slot_str_lstrip PySem.F.type_str_lstrip B2p (pv 0) (A0 A6 A2))))
     (A4 (A5 (G7 (B5 B3j (D9 C6 (by rfl) O.len_ PySem.boot_len (A0 (pv 1) A2)) A1 (B9 _)) (B0 (A5 (Y8 (by rfl) B.g B.q PySem.F.excBase_ValueError hr.hd hx (A0 A6 A2)))) C8))
     (B0 (B7 (J1 Y5 (by rfl) O.int_ boot_int (A0 (A8 B8 A6 (pv 1)) A2))))))),?_⟩
   unfold A0g at h
   by_cases hb:A0b z=true
   . rw[if_pos hb] at h
     refine⟨fun σ' H'=>H'=H/\σ'=[some (.str z),none],⟨_,rfl,z,rfl,hz,.inl ⟨hb,rfl,rfl⟩⟩,?_⟩
     rintro σ' H1 ⟨rfl,rfl⟩
     refine⟨fun σ' H'=>H'=H1/\σ'=[some (.str z),some (.str (Txt.lstripChars z "0"))],⟨_,rfl,rfl,z,_,rfl,rfl,A3 hz,rfl,rfl⟩,?_⟩
     rintro σ' H2 ⟨rfl,rfl⟩
     have sl:=A9p z
     by_cases hl:(Txt.lstripChars z "0").length>60
     . rw[if_pos hl] at h
       rcases h with⟨n,e,_⟩|⟨_,k⟩
       . cases e
       . exact⟨fun _ _=>False,⟨_,rfl,_,rfl,A3 (by omega),_,_,rfl,rfl,_,rfl,A7q (show(60:Int)<((Txt.lstripChars z "0").length:Int) by omega) ⟨fun _ _=>False,⟨A3 (by show 1<=1000;decide),k⟩,fun _ _ h=>h.elim⟩⟩,fun _ _ h=>h.elim⟩
     . rw[if_neg hl] at h
       rcases h with⟨n,e,k⟩|⟨e,_⟩
       . obtain rfl:=Option.some.inj e
         have l1:("0":Str).length=1:=by decide+kernel
         refine⟨fun σ' H'=>H'=H2/\σ'=[some (.str z),some (.str (Txt.lstripChars z "0"))],⟨_,rfl,_,rfl,A3 (by omega),_,_,rfl,rfl,_,rfl,B1k (show¬(60:Int)<((Txt.lstripChars z "0").length:Int) by omega) ⟨rfl,rfl⟩⟩,?_⟩
         rintro σ' H3 ⟨rfl,rfl⟩
         exact⟨_,rfl,_,_,rfl,rfl,A3 (by rw[l1];omega),_,_,rfl,C4c hb (by omega),by rw[strLen_append,l1];omega,k⟩
       . cases e
   . rw[if_neg hb] at h
     rcases h with⟨n,e,_⟩|⟨_,k⟩
     . cases e
     . exact⟨fun _ _=>False,⟨_,rfl,z,rfl,hz,.inr ⟨by cases q:A0b z with|true=>exact absurd q hb|false=>rfl,k⟩⟩,fun _ _ h=>h.elim⟩
theorem C2a{z:Str}(h:A0b z=true)(hl:z.length<=640):PySem.intText? z=some (A7h z):=by
 unfold A7h
 rw[<-A2b z] at h hl ⊢
 generalize z.cps.toList=l at*
 obtain⟨n,d⟩:=(U2 l).mp h
 rw[C7] at hl
 exact PySem.intText_digits (by rw[U9];exact d) (by rw[U9];exact n) (by rw[C7];omega)
noncomputable def A2k (CB:Addr):Sp:=fun vs H Q E=>∃z:Str,vs=[.str z]/\z.length<=1000/\((∃n,shR z=some n/\∀H',Same H H' ->Q (.int n) H')\/(shR z=none/\∀H',Same H H' ->E (.ref CB) none H'))
theorem scShiftRead:FnScope ["tail","digits"] ["tail"] (A7 Z1):=scK
theorem A6m{f f1 f2 f3 CB:Addr}(D:Def K mg "shift_read" ["tail"] Z1 f fd)(dA:Def K mg "need_figures" ["digits"] A0d f1 fd1)(dB:FnOk P w K mg base (CX1 P w) 2 f1 fd1 ["digits"] (A2f CB))(dC:Def K mg "without_sign" ["word"] A1p f2 fd2)(dD:FnOk P w K mg base (CX1 P w) 1 f2 fd2 ["word"] A3f)(dE:Def K mg "sign_of" ["word"] A1u f3 fd3)(dF:FnOk P w K mg base (CX1 P w) 1 f3 fd3 ["word"] A3v)(B:Err K mg "NoText" CB)(O:Own mg):FnOk P w K mg base (CX1 P w) 3 f fd ["tail"] (A2k CB):=by
 refine D.F.okE scShiftRead (fun vs H Q E h=>?_) (fun X cdv A outer s H vs Q E hX hr hx h=>?_)
 . obtain⟨z,rfl,_⟩:=h
   rfl
 . subst hX
   obtain⟨z,rfl,hz,h⟩:=h
   refine⟨_,(A4 (A5 (B3 (i:=1) scShiftRead.nd rfl (Or.inl rfl) (C0 dC dD hr hx (A0 (pv 0) A2))))
     (A4 (A5 (Z2 (C0 dA dB hr hx (A0 (pv 1) A2))))
     (A4 (A5 (G7 (B5 B3j (D9 C6 (by rfl) O.len_ PySem.boot_len (A0 (pv 1) A2)) A1 (B9 _)) (B0 (A5 (Y8 (by rfl) B.g B.q PySem.F.excBase_ValueError hr.hd hx (A0 A6 A2)))) C8))
     (B0 (B7 (V9 (B5 U7 (C0 dE dF hr hx (A0 (pv 0) A2)) A1 (B9 _)) (A5k A2d (J1 Y5 (by rfl) O.int_ boot_int (A0 (pv 1) A2))) (J1 Y5 (by rfl) O.int_ boot_int (A0 (pv 1) A2)))))))),?_⟩
   have bl:=A3w z
   refine⟨fun σ' H'=>Same H H'/\σ'=[some (.str z),some (.str (bare z))],⟨_,rfl,z,rfl,hz,fun H' s'=>⟨s',rfl⟩⟩,?_⟩
   rintro σ' H1 ⟨s1,rfl⟩
   unfold shR at h
   by_cases hb:A0b (bare z)=true
   . rw[if_pos hb] at h
     refine⟨fun σ' H'=>H'=H1/\σ'=[some (.str z),some (.str (bare z))],⟨_,rfl,_,rfl,by omega,.inl ⟨hb,rfl,rfl⟩⟩,?_⟩
     rintro σ' H2 ⟨rfl,rfl⟩
     by_cases hl:(bare z).length>3
     . rw[if_pos hl] at h
       rcases h with⟨n,e,_⟩|⟨_,k⟩
       . cases e
       . exact⟨fun _ _=>False,⟨_,rfl,_,rfl,A3 (by omega),_,_,rfl,rfl,_,rfl,A7q (show(3:Int)<((bare z).length:Int) by omega) ⟨fun _ _=>False,⟨A3 (by show 1<=1000;decide),k _ s1⟩,fun _ _ h=>h.elim⟩⟩,fun _ _ h=>h.elim⟩
     . rw[if_neg hl] at h
       rcases h with⟨n,e,k⟩|⟨e,_⟩
       . obtain rfl:=Option.some.inj e
         refine⟨fun σ' H'=>H'=H2/\σ'=[some (.str z),some (.str (bare z))],⟨_,rfl,_,rfl,A3 (by omega),_,_,rfl,rfl,_,rfl,B1k (show¬(3:Int)<((bare z).length:Int) by omega) ⟨rfl,rfl⟩⟩,?_⟩
         rintro σ' H3 ⟨rfl,rfl⟩
         have k:=k _ s1
         refine⟨_,rfl,z,rfl,rfl,_,rfl,?_⟩
         cases hm:A1b z with
         | true=>
           rw[hm,if_pos rfl] at k
           exact A7q rfl ⟨_,rfl,_,_,rfl,C2a hb (by omega),by omega,_,rfl,k⟩
         | false=>
           rw[hm,if_neg Bool.false_ne_true] at k
           exact B1k (by intro q;cases q) ⟨_,rfl,_,_,rfl,C2a hb (by omega),by omega,k⟩
       . cases e
   . rw[if_neg hb] at h
     rcases h with⟨n,e,_⟩|⟨_,k⟩
     . cases e
     . exact⟨fun _ _=>False,⟨_,rfl,_,rfl,by omega,.inr ⟨by cases q:A0b (bare z) with|true=>exact absurd q hb|false=>rfl,k _ s1⟩⟩,fun _ _ h=>h.elim⟩
end
noncomputable abbrev Z3:Stmt:=(top 20)
noncomputable abbrev B1g:Stmt:=(top 17)
noncomputable abbrev ptE (z:Str):Str×Str×Str:=Txt.partition z "e"
noncomputable abbrev ptD (z:Str):Str×Str×Str:=Txt.partition z "."
noncomputable def plR (z:Str):Option (Int×Int):=(A0g ((ptD (ptE z).1).1++(ptD (ptE z).1).2.2)).bind fun f=>(if(ptE z).2.1="e" then shR (ptE z).2.2 else some 0).map fun s=>(f,s-((ptD (ptE z).1).2.2.length:Nat))
theorem B0m(z:Str)(i j:Nat):(Builtin.Str.strSub z i j).length<=z.length:=by
 rw[<-A2b z,A6z,C7,C7,List.length_drop]
 have:=List.length_take_le' j z.cps.toList
 omega
theorem A6w(z y:Str):(Txt.partition z y).1.length<=z.length/\(Txt.partition z y).2.2.length<=z.length:=by
 unfold Txt.partition
 split
 . exact⟨B0m _ _ _,B0m _ _ _⟩
 . exact⟨Nat.le_refl _,Nat.zero_le _⟩
theorem B1q(z y:Str):(Txt.stripChars z y).length<=z.length:=by
 rw[<-A2b z, <-A2b y,A6a,C7,C7,List.length_reverse]
 have a:=(List.dropWhile_suffix (l:=(z.cps.toList.dropWhile y.cps.toList.contains).reverse) y.cps.toList.contains).length_le
 have b:=(List.dropWhile_suffix (l:=z.cps.toList) y.cps.toList.contains).length_le
 rw[List.length_reverse] at a
 omega
theorem B2n{z:Str}{n:Int}(h:A0g z=some n):0<=n/\n<=10^60-1:=by
 unfold A0g at h
 split at h
 . rename_i hb
   split at h
   . cases h
   . rename_i hl
     obtain rfl:=Option.some.inj h
     unfold A7h
     rw[<-A2b z] at hb hl ⊢
     generalize z.cps.toList=l at*
     rw[U9,B7v,A1r,C7] at*
     rw[<-A3k l]
     have lt:∀m:List Nat,PySem.NumText.AllDigits m ->PySem.NumText.digitsVal m<10^m.length:=by
       intro m
       induction m with
       |nil=>intro _;decide
       | cons c t ih=>
         intro hd
         have h1:=hd.head
         have h2:=ih hd.tail
         rw[show c::t=[c]++t from rfl,A0p,List.length_append]
         show(0*10+(c-48))*10^t.length+_<10^(1+t.length)
         rw[Nat.pow_add,Nat.zero_mul,Nat.zero_add]
         have:(c-48)*10^t.length<=9*10^t.length:=Nat.mul_le_mul_right _ (by omega)
         omega
     have d:=((U2 l).mp hb).2
     have:=lt (l.dropWhile ([48]:List Nat).contains) fun c hc=>d c ((List.dropWhile_suffix _).mem hc)
     have p:10^(l.dropWhile ([48]:List Nat).contains).length<=10^60:=Nat.pow_le_pow_right (by decide) (by omega)
     have e60:((10^60:Nat):Int)=10^60:=by decide+kernel
     omega
 . cases h
noncomputable def plO (z:Str):Option (Int×Int):=(plR z).bind fun q=>if -200<=q.2/\q.2<=200 then some q else none
noncomputable def sgZ (z:Str):Int:=if A1b z=true then 1 else 0
theorem B9k(z:Str):0<=sgZ z/\sgZ z<=1:=by unfold sgZ;split<;>decide
noncomputable abbrev wdZ (z:Str):Str:=Txt.lower (Txt.stripChars z " ")
noncomputable def rdO (z:Str):Option Nm:=if wdZ z="none" then some ⟨.none,0,0,0⟩ else if bare (wdZ z)="end" then some ⟨.end_,sgZ (wdZ z),0,0⟩ else
 (plO (bare (wdZ z))).map fun q=>⟨.plain,sgZ (wdZ z),q.1,q.2⟩
structure Turned(K:Frag)(mg:Str ->Option Value)(CB:Addr):Prop where
 g:mg "BadNumber"=some (.ref CB)
 c:Clause K CB
 sub:subIn K (.ref CB) (.ref CB)=some true
section
variable{P:Program}{w:World}{K:Frag}{mg:Str ->Option Value}{base:Heap}
noncomputable def Reads (CN CT:Addr) (H:Hp) (Q:VK) (E:XK):Option Nm ->Prop
 |some x=>∀n H',H n=none ->Same H H' ->B4z CN H' n x ->Q (.ref n) H'
 |none=>∀H',Same H H' ->E (.ref CT) none H'
noncomputable def A2q (CN CT:Addr):Sp:=fun vs H Q E=>∃s:Int,∃z:Str,vs=[.int s,.str z]/\0<=s/\s<=1/\z.length<=400/\Reads CN CT H Q E ((plO z).map fun q=>⟨.plain,s,q.1,q.2⟩)
theorem scPlainRead:FnScope ["sign","body","parts","halves","figures","shift"] ["sign","body"] (A7 Z3):=scK
theorem A5x{f f1 f2 f3 CN CT CB:Addr}(D:Def K mg "plain_read" ["sign","body"] Z3 f fd)(dA:Def K mg "figures_read" ["digits"] A1q f1 fd1)(dB:FnOk P w K mg base (CX1 P w) 3 f1 fd1 ["digits"] (A4k CT))(dC:Def K mg "shift_read" ["tail"] Z1 f2 fd2)(dD:FnOk P w K mg base (CX1 P w) 3 f2 fd2 ["tail"] (A2k CT))
   (dE:Def K mg "plain" ["sign","figures","power"] A6q f3 fd3) (dF:FnOk P w K mg base (CX1 P w) 3 f3 fd3 ["sign","figures","power"] (B0q K CN CB)) (B1:Turned K mg CB) (B:Err K mg "NoText" CT) (O:Own mg) (T:Kit K):FnOk P w K mg base (CX2 P w) 4 f fd ["sign","body"] (A2q CN CT):=by
 refine D.F.okW scPlainRead (fun vs H Q E h=>?_) (fun X cdv A outer s H vs Q E hX hr hx h=>?_)
 . obtain⟨s,z,rfl,_⟩:=h
   rfl
 . subst hX
   obtain⟨sg,z,rfl,s0,s1,hz,k⟩:=h
   refine⟨_,(A4 (A5 (B3 (i:=2) scPlainRead.nd rfl (Or.inl rfl) (A1k PySem.F.plainAttrs_str PySem.F.slot_str_partition PySem.F.type_str_partition B0d (pv 1) (A0 A6 A2))))
     (A4 (A5 (B3 (i:=3) scPlainRead.nd rfl (Or.inl rfl) (A1k PySem.F.plainAttrs_str PySem.F.slot_str_partition PySem.F.type_str_partition B0d (J0 A1c (pv 2) A1 (fun _ _=>rfl)) (A0 A6 A2))))
     (A4 (A5 (B3 (i:=4) scPlainRead.nd rfl (Or.inl rfl) (C0 dA dB hr hx.c (A0 (A8 B8 (J0 A1c (pv 3) A1 (fun _ _=>rfl)) (J0 A1c (pv 3) A1 (fun _ _=>rfl))) A2))))
     (A4 (A5 (B3 (i:=5) scPlainRead.nd rfl (Or.inl rfl) (V9 (B5 U7 (J0 A1c (pv 2) A1 (fun _ _=>rfl)) A6 (B9 _)) (C0 dC dD hr hx.c (A0 (J0 A1c (pv 2) A1 (fun _ _=>rfl)) A2)) A1)))
     (B0 (A5 (B6q ⟨rfl,rfl,rfl⟩ (fun a=>PassesOwnAt.leaving) B1.g B1.c B.g B.q PySem.F.excBase_ValueError hx (fun pins Ew EHb hc=>(B0 (B7 (C0 dE dF hr hc (A0 (pv 0) (A0 (pv 4) (A0 (A8 A0z (pv 5) (D9 C6 (by rfl) O.len_ PySem.boot_len (A0 (J0 (B7d (K:=K) rfl) (pv 3) A1 (fun _ _=>rfl)) A2))) A2))))))) (fun pins a=>(A0 A6 A2))))))))),?_⟩
   have l1:(ptE z).1.length<=z.length/\(ptE z).2.2.length<=z.length:=A6w z "e"
   have l2:(ptD (ptE z).1).1.length<=(ptE z).1.length/\(ptD (ptE z).1).2.2.length<=(ptE z).1.length:=A6w (ptE z).1 "."
   have y1:(("e":Str).length==0)=false:=by decide+kernel
   have y2:((".":Str).length==0)=false:=by decide+kernel
   unfold plO plR at k
   refine⟨fun σ' H'=>∃q,Same H H'/\H' q=some (.tup [.str (ptE z).1,.str (ptE z).2.1,.str (ptE z).2.2])/\σ'=[some (.int sg),some (.str z),some (.ref q),none,none,none],⟨_,rfl,rfl,z,_,rfl,rfl,y1,A3 (by omega),fun q nq=>⟨q,Same.upd nq,A9,rfl⟩⟩,?_⟩
   rintro σ' H1 ⟨q,s1',e1,rfl⟩
   refine⟨fun σ' H'=>∃r,Same H1 H'/\H' r=some (.tup [.str (ptD (ptE z).1).1,.str (ptD (ptE z).1).2.1,.str (ptD (ptE z).1).2.2])/\σ'=[some (.int sg),some (.str z),some (.ref q),some (.ref r),none,none],⟨_,rfl,q,_,_,_,rfl,rfl,SqT.of e1,D8 (j:=0) rfl,rfl,_,_,rfl,rfl,y2,A3 (by omega),fun r nr=>⟨r,Same.upd nr,A9,rfl⟩⟩,?_⟩
   rintro σ' H2 ⟨r,s2,e2,rfl⟩
   have e1:=s2 _ _ e1
   have sH2:=s1'.trans s2
   cases hF:A0g ((ptD (ptE z).1).1++(ptD (ptE z).1).2.2) with
   | none=>
     rw[hF] at k
     have k:∀H',Same H H' ->E (.ref CT) none H':=k
     exact⟨fun _ _=>False,⟨_,rfl,r,_,_,_,rfl,rfl,SqT.of e2,D8 (j:=0) rfl,_,rfl,r,_,_,_,rfl,rfl,SqT.of e2,D8 (j:=2) rfl,_,_,rfl,rfl,A3 (by omega),_,rfl,by rw[strLen_append];omega,.inr ⟨hF,k _ sH2⟩⟩,fun _ _ h=>h.elim⟩
   |some fg=>
   rw[hF] at k
   have fr:=B2n hF
   refine⟨fun σ' H'=>H'=H2/\σ'=[some (.int sg),some (.str z),some (.ref q),some (.ref r),some (.int fg),none],⟨_,rfl,r,_,_,_,rfl,rfl,SqT.of e2,D8 (j:=0) rfl,_,rfl,r,_,_,_,rfl,rfl,SqT.of e2,D8 (j:=2) rfl,_,_,rfl,rfl,A3 (by omega),_,rfl,by rw[strLen_append];omega,.inl ⟨fg,hF,rfl,rfl⟩⟩,?_⟩
   rintro σ' H3 ⟨rfl,rfl⟩
   cases hS:(if(ptE z).2.1="e" then shR (ptE z).2.2 else some 0) with
   | none=>
     rw[hS] at k
     have k:∀H',Same H H' ->E (.ref CT) none H':=k
     refine⟨fun _ _=>False,?_,fun _ _ h=>h.elim⟩
     refine⟨_,rfl,q,_,_,_,rfl,rfl,SqT.of e1,D8 (j:=1) rfl,rfl,_,rfl,Y0 (fun h=>?_) (fun h=>?_)⟩
     . have h:(ptE z).2.1="e":=by injection h
       rw[if_pos h] at hS
       exact⟨_,rfl,q,_,_,_,rfl,rfl,SqT.of e1,D8 (j:=2) rfl,_,rfl,by omega,.inr ⟨hS,fun H' s'=>k _ (sH2.trans s')⟩⟩
     . have h:¬(ptE z).2.1="e":=fun q=>h (congrArg V.str q)
       rw[if_neg h] at hS
       cases hS
   |some sh=>
   rw[hS] at k
   refine⟨fun σ' H'=>Same H3 H'/\σ'=[some (.int sg),some (.str z),some (.ref q),some (.ref r),some (.int fg),some (.int sh)],?_,?_⟩
   . refine⟨_,rfl,q,_,_,_,rfl,rfl,SqT.of e1,D8 (j:=1) rfl,rfl,_,rfl,Y0 (fun h=>?_) (fun h=>?_)⟩
     . have h:(ptE z).2.1="e":=by injection h
       rw[if_pos h] at hS
       exact⟨_,rfl,q,_,_,_,rfl,rfl,SqT.of e1,D8 (j:=2) rfl,_,rfl,by omega,.inl ⟨sh,hS,fun H' s'=>⟨s',rfl⟩⟩⟩
     . have h:¬(ptE z).2.1="e":=fun q=>h (congrArg V.str q)
       rw[if_neg h] at hS
       obtain rfl:=Option.some.inj hS
       exact⟨Same.refl _,rfl⟩
   rintro σ' H4 ⟨s4,rfl⟩
   have e2:=s4 _ _ e2
   have sH4:=sH2.trans s4
   have k:Reads CN CT H Q E ((if -200<=sh-((ptD (ptE z).1).2.2.length:Nat)/\sh-((ptD (ptE z).1).2.2.length:Nat)<=200 then some (fg,sh-((ptD (ptE z).1).2.2.length:Nat)) else none).map fun q=>⟨.plain,sg,q.1,q.2⟩):=k
   refine⟨_,?_,fun _ _ h=>h⟩
   refine⟨_,rfl,_,rfl,_,rfl,_,rfl,r,_,_,_,rfl,rfl,SqT.of e2,D8 (j:=2) rfl,_,rfl,A3 (by omega),_,_,rfl,rfl,_,_,_,rfl,?_⟩
   by_cases hp: -200<=sh-((ptD (ptE z).1).2.2.length:Nat)/\sh-((ptD (ptE z).1).2.2.length:Nat)<=200
   . rw[if_pos hp] at k
     exact .inl ⟨⟨sg,rfl,s0,s1⟩,⟨fg,rfl,fr.1,fr.2⟩,⟨_,rfl,hp.1,hp.2⟩,fun n H' nn s' num=>k n H' (sH4.free nn) (sH4.trans s') num⟩
   . rw[if_neg hp] at k
     refine .inr ⟨.inr ⟨⟨sg,rfl,s0,s1⟩,.inr ⟨⟨fg,rfl,fr.1,fr.2⟩,B8p T (by omega)⟩⟩,B1.sub,fun a t T na=>?_⟩
     exact⟨A3 (by show 1<=1000;decide),A9,k _ (sH4.trans (Same.upd na))⟩
noncomputable def B4m (K:Frag) (H:Hp) (v:V):Prop:=∃t,TyE K H v t/\kitOne K t (.type "str")=some false
noncomputable def B3s (K:Frag) (CN CT:Addr):Sp:=fun vs H Q E=>∃v,vs=[v]/\((∃z,v= .str z/\z.length<=400/\(wdZ z).length<=400/\Reads CN CT H Q E (rdO z))\/(B4m K H v/\Reads CN CT H Q E none))
theorem scRead:FnScope ["text","word","body"] ["text"] (A7 B1g):=scK
theorem B6p{f f1 f2 f3 f4 f5 CN CT CB':Addr}(D:Def K mg "read" ["text"] B1g f fd)(dC:Def K mg "nothing" [] A1t f1 fd1)(dD:FnOk P w K mg base (CX1 P w) 3 f1 fd1 [] (A4x CN))(dE:Def K mg "without_sign" ["word"] A1p f2 fd2)(dF:FnOk P w K mg base (CX1 P w) 1 f2 fd2 ["word"] A3f)(dA:Def K mg "sign_of" ["word"] A1u f3 fd3)(dB:FnOk P w K mg base (CX1 P w) 1 f3 fd3 ["word"] A3v)
   (dG:Def K mg "end" ["sign"] B8k f4 fd4) (dH:FnOk P w K mg base (CX1 P w) 3 f4 fd4 ["sign"] (B9j K CN CB')) (dJ:Def K mg "plain_read" ["sign","body"] Z3 f5 fd5) (dL:FnOk P w K mg base (CX2 P w) 4 f5 fd5 ["sign","body"] (A2q CN CT)) (B:Err K mg "NoText" CT) (O:Own mg) (T:Kit K):FnOk P w K mg base (CX2 P w) 5 f fd ["text"] (B3s K CN CT):=by
 refine D.F.okW scRead (fun vs H Q E h=>?_) (fun X cdv A outer s H vs Q E hX hr hx h=>?_)
 . obtain⟨v,rfl,_⟩:=h
   rfl
 . subst hX
   obtain⟨v,rfl,h⟩:=h
   refine⟨_,(A4 (A5 (G7 (Z7 (U5 (A1x O.isi (pv 0) (pty O.str_ boot_str)))) (B0 (A5 (Y8 (by rfl) B.g B.q PySem.F.excBase_ValueError hr.hd hx.c (A0 A6 A2)))) C8))
     (A4 (A5 (B3 (i:=1) scRead.nd rfl (Or.inl rfl) (A9g PySem.F.plainAttrs_str PySem.F.slot_str_lower PySem.F.type_str_lower A4d (A1k PySem.F.plainAttrs_str PySem.F.slot_str_strip PySem.F.type_str_strip A7c (pv 0) (A0 A6 A2)))))
     (A4 (A5 (G7 (B5 U7 (pv 1) A6 (B9 _)) (B0 (B7 (C0c dC dD hr hx.c))) C8))
     (A4 (A5 (B3 (i:=2) scRead.nd rfl (Or.inl rfl) (C0 dE dF hr hx.c (A0 (pv 1) A2))))
     (A4 (A5 (G7 (B5 U7 (pv 2) A6 (B9 _)) (B0 (B7 (C0 dG dH hr hx.c (A0 (C0 dA dB hr hx.c (A0 (pv 1) A2)) A2)))) C8))
     (B0 (B7 (B3w dJ dL hr hx (A0 (C0 dA dB hr hx.c (A0 (pv 1) A2)) (A0 (pv 2) A2)))))))))),?_⟩
   rcases h with⟨z,rfl,hz,hw,k⟩|⟨⟨t,ty,no⟩,k⟩
   . have so:=B9k (wdZ z)
     have bl:=A3w (wdZ z)
     have sl:=B1q z " "
     unfold rdO at k
     refine⟨fun σ' H'=>H'=H/\σ'=[some (.str z),none,none],⟨_,rfl,_,_,_,_,true,rfl,rfl,B3n _,T.str_str,_,rfl,U8 ⟨rfl,rfl⟩⟩,?_⟩
     rintro σ' H1 ⟨rfl,rfl⟩
     refine⟨fun σ' H'=>H'=H1/\σ'=[some (.str z),some (.str (wdZ z)),none],⟨_,rfl,rfl,z,_,rfl,rfl,A3 (by omega),rfl,_,rfl,rfl,A3 (show(wdZ z).length<=1000 by omega),rfl,rfl⟩,?_⟩
     rintro σ' H2 ⟨rfl,rfl⟩
     refine⟨fun σ' H'=>H'=H2/\¬wdZ z="none"/\σ'=[some (.str z),some (.str (wdZ z)),none],?_,?_⟩
     . refine⟨_,rfl,rfl,_,rfl,Y0 (fun h=>?_) (fun h=>⟨rfl,fun q=>h (congrArg V.str q),rfl⟩)⟩
       have h:wdZ z="none":=by injection h
       rw[if_pos h] at k
       exact⟨rfl,fun n H' nn s' num=>k n H' nn s' num⟩
     rintro σ' H3 ⟨rfl,hn,rfl⟩
     rw[if_neg hn] at k
     refine⟨fun σ' H'=>Same H3 H'/\σ'=[some (.str z),some (.str (wdZ z)),some (.str (bare (wdZ z)))],⟨_,rfl,_,rfl,by omega,fun H' s'=>⟨s',rfl⟩⟩,?_⟩
     rintro σ' H4 ⟨s4,rfl⟩
     refine⟨fun σ' H'=>H'=H4/\¬bare (wdZ z)="end"/\σ'=[some (.str z),some (.str (wdZ z)),some (.str (bare (wdZ z)))],?_,?_⟩
     . refine⟨_,rfl,rfl,_,rfl,Y0 (fun h=>?_) (fun h=>⟨rfl,fun q=>h (congrArg V.str q),rfl⟩)⟩
       have h:bare (wdZ z)="end":=by injection h
       rw[if_pos h] at k
       exact⟨_,rfl,_,rfl,_,rfl,.inl ⟨⟨sgZ (wdZ z),rfl,so.1,so.2⟩,fun n H' nn s' num=>k n H' (s4.free nn) (s4.trans s') num⟩⟩
     rintro σ' H5 ⟨rfl,he,rfl⟩
     rw[if_neg he] at k
     refine⟨_,rfl,_,rfl,_,rfl,sgZ (wdZ z),bare (wdZ z),rfl,so.1,so.2,by omega,?_⟩
     revert k
     cases(plO (bare (wdZ z))).map fun q=>(⟨.plain,sgZ (wdZ z),q.1,q.2⟩:Nm) with
     |none=>exact fun k H' s'=>k H' (s4.trans s')
     |some x=>exact fun k n H' nn s' num=>k n H' (s4.free nn) (s4.trans s') num
   . exact⟨fun _ _=>False,⟨_,rfl,_,_,_,t,false,rfl,rfl,ty,no,_,rfl,V7 ⟨fun _ _=>False,⟨A3 (by show 1<=1000;decide),k _ (Same.refl _)⟩,fun _ _ h=>h.elim⟩⟩,fun _ _ h=>h.elim⟩
end
noncomputable def A8k (k:Str) (s f p:Int):PyData:= .tuple [.str k,.int s,.int f,.int p]
theorem shD{k:Str}(s f p:Int)(h:PyData.strOk k=true):SeqAt.shaped (A8k k s f p)=true:=by
 unfold SeqAt.shaped A8k
 simp[PyData.canLay0,PyData.canLayAll0,PyData.depth,PyData.depthAll,h]
theorem eqD(k:Str)(s f p:Int):PyData.eqv (A8k k s f p) (A8k k s f p)=true:=by
 simp[A8k,PyData.eqv,PyData.eqvAll]
theorem rdD{K:Frag}{H:Hp}{d:Addr}{k:Str}{s f p:Int}(h:H d=some (.tup [.str k,.int s,.int f,.int p])):RdD K H (.ref d) (A8k k s f p):= .tup (SqT.of h) (.cons (.str _) (.cons (.int _) (.cons (.int _) (.cons (.int _) .nil))))
theorem okK(k:Kd):PyData.strOk k.str=true:=by cases k<;>decide+kernel
noncomputable abbrev B7j:Stmt:=(top 28)
section
variable{P:Program}{w:World}{K:Frag}{mg:Str ->Option Value}{base:Heap}
noncomputable def B9f:Sp:=fun vs H Q _=>∃n:Nat,vs=[.int (n:Int)]/\n<=300/\Q (.int ((10^n:Nat):Int)) H
theorem scTen:FnScope ["_law_power_here","_law_found","_law_turn"] ["_law_power_here"] (A7 B7j):=scK
theorem B9v(D:Def K mg "_law_ten" ["_law_power_here"] B7j f fd)(O:Own mg):FnOk P w K mg base (CX1 P w) 1 f fd ["_law_power_here"] B9f:=by
 refine FnOk.up (D.F.ok scTen (fun vs H Q E h=>?_) (fun cdv A outer s H vs Q E hr h=>?_))
 . obtain⟨n,rfl,_⟩:=h
   rfl
 . obtain⟨n,rfl,hn,k⟩:=h
   refine⟨_,(A4 (B3 (i:=1) scTen.nd rfl (Or.inl rfl) A1)
     (A4 (B3g PassesOwn.never rfl (A4n rfl O.range_ (A0 (pv 0) A2)) (U1 (i:=2) scTen.nd rfl (Or.inl rfl)) (B0 (B3 (i:=1) scTen.nd rfl (Or.inl rfl) (A8 Y4 (pv 1) A1))))
     (B0 (B7 (pv 1))))),?_⟩
   refine⟨_,rfl,n,rfl,by omega,by omega,B2z (fun i σ H'=>H'=H/\∃v,σ=[some (.int (n:Int)),some (.int ((10^i:Nat):Int)),v]) ⟨rfl,none,rfl⟩ ?_ ?_⟩
   . rintro i σ H' hi ⟨rfl,v,rfl⟩
     have m5:∀z:Int,IntMulOk z 10:=fun z=>CMul.ok (.inr ⟨by decide,by decide⟩)
     refine⟨_,rfl,_,_,rfl,rfl,m5 _,?_⟩
     have e:((10^i:Nat):Int)*10=((10^(i+1):Nat):Int):=by rw[Nat.pow_succ];rfl
     exact⟨rfl,some (.int (0+i)),by show [some (V.int (n:Int)),some (V.int (((10^i:Nat):Int)*10)),some (V.int (0+i))]=_;rw[e]⟩
   . rintro σ H' ⟨rfl,v,rfl⟩
     have e:(n:Int).toNat=n:=rfl
     rw[e]
     exact⟨_,rfl,k⟩
end
noncomputable abbrev A7r:Stmt:=(top 29)
structure ErrsN(mg:Str ->Option Value)(C1 C2 C3 C4 C5:Addr):Prop where
 g1:mg "BadNumber"=some (.ref C1)
 g2:mg "NoText"=some (.ref C2)
 g3:mg "BadContext"=some (.ref C3)
 g4:mg "BadCount"=some (.ref C4)
 g5:mg "Trapped"=some (.ref C5)
noncomputable def A0u (ps:List (Addr×Str×Bool)):List V:=(ps.filter (·.2.2)).map fun p=>V.str p.2.1
theorem A8n{K:Frag}{H:Hp}{σ:L2.St}{i:Nat}{a:Addr}{ps:List (Addr×Str×Bool)}{Q:VK}(hσ:σ[i]?=some (some (.ref a)))(hl:SqL K H a (ps.map fun p=>V.ref p.1))(ht:∀p∈ps,H p.1=some (.tup [.str p.2.1,.bl p.2.2]))(hz:ps.length<=100)
   (k:∀D,H D=none ->Q (.ref D) (upd H D (.lst (A0u ps)))):B4p 2 (B9g K (B3f i)) (B6t K 2 (B4w (A4j 0) (B4w (A4j 1) C2j))) (tB (B3f 1)) (B3f 0) σ H Q:=by
 refine⟨_,hσ,a,rfl,⟨_,hl⟩,fun D hD=>⟨ps.length,fun i ys H2=>i<=ps.length/\ys=A0u (ps.take i)/\H2=upd H D (.lst ys),⟨Nat.zero_le _,rfl,rfl⟩,?_⟩⟩
 rintro i ys H2 ⟨hi,rfl,rfl⟩
 refine⟨hi,A9,?_⟩
 have sm:Same H (upd H D (.lst (A0u (ps.take i)))):=Same.upd hD
 have lz:(A0u (ps.take i)).length<=100:=by
   unfold A0u
   rw[List.length_map]
   exact Nat.le_trans (List.length_filter_le _ _) (by rw[List.length_take];omega)
 by_cases hlt:i<ps.length
 . refine .inr ⟨hlt,⟨_,V.ref ps[i].1,sm.seq hl,by simp[hlt]⟩,fun x H3 y=>?_⟩
   obtain⟨rfl,y⟩:=y
   have ex:x=V.ref ps[i].1:=by
     have:=y _ (sm.seq hl)
     simp[hlt] at this
     exact this.symm
   subst ex
   have et:A0u (ps.take (i+1))=A0u (ps.take i)++(if ps[i].2.2 then [V.str ps[i].2.1] else []):=by
     unfold A0u
     rw[List.take_succ_eq_append_getElem hlt,List.filter_append,List.map_append]
     congr 1
     cases hb:ps[i].2.2<;>simp[hb]
   refine⟨_,_,rfl,SqT.of (sm _ _ (ht _ (List.getElem_mem hlt))),rfl,_,_,rfl,_,_,rfl,rfl,?_⟩
   refine⟨_,rfl,_,rfl,?_⟩
   cases hb:ps[i].2.2 with
   | false=>
     refine U8 ⟨hlt,?_,?_⟩
     . rw[et,hb];simp
     . rfl
   | true=>
     refine V7 ⟨_,rfl,A9,Nat.lt_of_le_of_lt lz (V8 (by decide)),hlt,?_,?_⟩
     . rw[et,hb];rfl
     . rw[B6z]
 . have e:i=ps.length:=by omega
   subst e
   refine .inl ⟨⟨_,sm.seq hl,by simp⟩,?_⟩
   have:=k D hD
   rw[List.take_length]
   exact this
section
variable{P:Program}{w:World}{K:Frag}{mg:Str ->Option Value}{base:Heap}
noncomputable def B0u (b1 b2 b3 b4 b5:Bool):List V:=([(("number":Str),b1),("text",b2),("context",b3),("count",b4),("trapped",b5)].filter (·.2)).map fun p=>V.str p.1
noncomputable def B3v (K:Frag) (C1 C2 C3 C4 C5:Addr):Sp:=fun vs H Q _=>∃a C t T u b1 b2 b3 b4 b5,vs=[.ref a]/\H a=some (.frz (Y2 (.ref C) t none (.ref T)) u)/\Fits K C C1 C2 C3 C4 C5 b1 b2 b3 b4 b5/\
 ∀l H',Same H H' ->H l=none ->H' l=some (.tup (B0u b1 b2 b3 b4 b5)) ->Q (.ref l) H'
theorem scWord:FnScope ["_law_e","_law_some","_law_found"] ["_law_e"] (A7 A7r):=scK
noncomputable def B2a (s:Stmt):Scope:=match s with
 | .Assign _ (.ListComp _ _ sc _) _=>sc
 |_=>{kind:= .function,names:=[],isGenerator:=false,isCoroutine:=false}
theorem scWordC:CompScope ["_law_word_here","_law_fits"] (B2a ((D7 A7r).getD 3 (.Pass ⟨0,0,0,0⟩))):=⟨rfl,by decide+kernel,by decide+kernel,by decide+kernel,by decide+kernel⟩
theorem B7g{f C1 C2 C3 C4 C5:Addr}(D:Def K mg "_law_word" ["_law_e"] A7r f fd)(O:Own mg)(T:Kit K)(E:ErrsN mg C1 C2 C3 C4 C5):FnOk P w K mg base (CX1 P w) 1 f fd ["_law_e"] (B3v K C1 C2 C3 C4 C5):=by
 refine D.F.okE scWord (fun vs H Q E h=>?_) (fun X cdv A outer s H vs Q E' hX hr hx h=>?_)
 . obtain⟨a,C,t,T,u,b1,b2,b3,b4,b5,rfl,_⟩:=h
   rfl
 . subst hX
   have hd:U3 _:= .inl hr.hd
   obtain⟨a,C,t,T,u,b1,b2,b3,b4,b5,rfl,ha,F,k⟩:=h
   refine⟨_,(A4 (B3 (i:=1) scWord.nd rfl (Or.inl rfl) (U6 (A0 (J9 (A0 A6 (A0 (A1x O.isi (pv 0) (B2f E.g1)) A2))) (A0 (J9 (A0 A6 (A0 (A1x O.isi (pv 0) (B2f E.g2)) A2))) A2))))
     (A4 (B3 (i:=1) scWord.nd rfl (Or.inl rfl) (A8 B4s (pv 1) (U6 (A0 (J9 (A0 A6 (A0 (A1x O.isi (pv 0) (B2f E.g3)) A2))) (A0 (J9 (A0 A6 (A0 (A1x O.isi (pv 0) (B2f E.g4)) A2))) A2)))))
     (A4 (B3 (i:=1) scWord.nd rfl (Or.inl rfl) (A8 B4s (pv 1) (U6 (A0 (J9 (A0 A6 (A0 (A1x O.isi (pv 0) (B2f E.g5)) A2))) A2))))
     (A4 (B7z (i:=2) scWordC hd (B4x (pv 1)) rfl (fun C s₀ H₀ ex pn h=>B8w (K:=K) (n:=2) rfl h (V6 (U1 (i:=0) scWordC.nd rfl (Or.inl rfl)) (V6 (U1 (i:=1) scWordC.nd rfl (Or.inl rfl)) A3e))) (fun C s₀ H₀ ex pn h=>U5 (pv 1)) (fun C s₀ H₀ ex pn h=>pv 0) scWord.nd rfl rfl)
     (B0 (B7 (V9 (U5 (A1x O.isi (pv 0) (pty O.ValueError_ (show bootBuiltins "ValueError"=some (.type "ValueError") by decide+kernel)))) (J1 A0r (by rfl) O.tuple_ boot_tuple (A0 (pv 2) A2)) (J9 (A0 A6 A2))))))))),?_⟩
   have z2:2<=sizeLine:=A3 (by decide)
   have z1:1<=sizeLine:=A3 (by decide)
   have tyx:∀{H':Hp},Same H H' ->TyE K H' (.ref a) (.ref C):=fun e=> .exc (e _ _ ha) F.k
   refine⟨_,rfl,_,_,_,_,b1,rfl,rfl,tyx (Same.refl H),F.h1,z2,fun t1 n1=>?_⟩
   have u1:=Same.upd (o:= .tup [.str "number",.bl b1]) n1
   refine⟨_,rfl,_,_,_,_,b2,rfl,rfl,tyx u1,F.h2,z2,fun t2 n2=>⟨z2,fun l1 m1=>?_⟩⟩
   have u2:=Same.upd (o:= .tup [.str "text",.bl b2]) n2
   have u3:=Same.upd (o:= .lst [.ref t1,.ref t2]) m1
   have s3:=(u1.trans u2).trans u3
   refine⟨_,rfl,_,rfl,_,_,_,_,b3,rfl,rfl,tyx s3,F.h3,z2,fun t3 n3=>?_⟩
   have u4:=Same.upd (o:= .tup [.str "context",.bl b3]) n3
   refine⟨_,rfl,_,_,_,_,b4,rfl,rfl,tyx (s3.trans u4),F.h4,z2,fun t4 n4=>⟨z2,fun l2 m2=>?_⟩⟩
   have u5:=Same.upd (o:= .tup [.str "count",.bl b4]) n4
   have u6:=Same.upd (o:= .lst [.ref t3,.ref t4]) m2
   have s6:=((s3.trans u4).trans u5).trans u6
   have el1:=((u4.trans u5).trans u6) _ _ (A9 (H:=upd (upd H t1 (.tup [.str "number",.bl b1])) t2 (.tup [.str "text",.bl b2])) (a:=l1) (o:= .lst [.ref t1,.ref t2]))
   refine⟨_,_,_,_,rfl,rfl,el1,A9,A3 (by show 4<=1000;decide),fun l3 m3=>?_⟩
   have u7:=Same.upd (o:= .lst ([.ref t1,.ref t2]++ [.ref t3,.ref t4])) m3
   have s7:=s6.trans u7
   refine⟨_,rfl,_,rfl,_,_,_,_,b5,rfl,rfl,tyx s7,F.h5,z2,fun t5 n5=>⟨z1,fun l4 m4=>?_⟩⟩
   have u8:=Same.upd (o:= .tup [.str "trapped",.bl b5]) n5
   have u9:=Same.upd (o:= .lst [.ref t5]) m4
   have el3:=(u8.trans u9) _ _ (A9 (a:=l3) (o:= .lst ([.ref t1,.ref t2]++ [.ref t3,.ref t4])))
   refine⟨_,_,_,_,rfl,rfl,el3,A9,A3 (by show 5<=1000;decide),fun l5 m5=>?_⟩
   have u10:=Same.upd (o:= .lst (([.ref t1,.ref t2]++ [.ref t3,.ref t4])++ [.ref t5])) m5
   have s10:=((s7.trans u8).trans u9).trans u10
   have r5:=u9.trans u10
   have r4:=(((u6.trans u7).trans u8)).trans r5
   have r3:=u5.trans r4
   have r2:=(u3.trans u4).trans r3
   have r1:=u2.trans r2
   dsimp only[A4j,C2v,B8a]
   refine A8n (a:=l5) (ps:=[(t1,"number",b1),(t2,"text",b2),(t3,"context",b3),(t4,"count",b4),(t5,"trapped",b5)]) (by rfl) (SqL.of A9) ?_ (by show 5<=100;decide) fun D nD=>?_
   . intro p hp
     simp only[List.mem_cons,List.not_mem_nil,or_false] at hp
     rcases hp with rfl|rfl|rfl|rfl|rfl
     . exact r1 _ _ A9
     . exact r2 _ _ A9
     . exact r3 _ _ A9
     . exact r4 _ _ A9
     . exact r5 _ _ A9
   have u11:=Same.upd (o:= .lst (A0u [(t1,"number",b1),(t2,"text",b2),(t3,"context",b3),(t4,"count",b4),(t5,"trapped",b5)])) nD
   have s11:=s10.trans u11
   refine⟨_,rfl,_,_,_,_,true,rfl,rfl,tyx s11,F.hv,_,rfl,V7 ?_⟩
   refine⟨_,rfl,_,_,rfl,.inl ⟨SqL.of A9,fun l nl=>?_⟩⟩
   refine k l _ (s11.trans (Same.upd nl)) (s11.free nl) ?_
   rw[A9]
   unfold A0u B0u
   cases b1<;>cases b2<;>cases b3<;>cases b4<;>cases b5<;>rfl
end
noncomputable abbrev A1e:Stmt:=(top 34)
noncomputable def B4 (l:List Nat) (i:Nat):List Nat:=(l.drop i).takeWhile digS.contains
theorem C2t(p:List Nat)(c:Nat):(!(Builtin.Str.occurrences (S p) (S [c]) 0 (S p).length 1).isEmpty)=p.contains c:=by
 rcases PySem.StrLaws.occ_head (S p) (S [c]) 1 (Nat.le_refl _) with⟨e,hn⟩|⟨i,r,e,ha,_⟩
 . rw[e]
   cases h:p.contains c with
   |false=>rfl
   | true=>
     obtain⟨i,hi⟩:=List.getElem?_of_mem (List.contains_iff_mem.mp h)
     exact absurd ((B4e p c i).mpr hi) (hn i)
 . rw[e]
   exact(List.contains_iff_mem.mpr (List.mem_of_getElem? ((B4e p c i).mp ha))).symm
theorem A3d(p:Nat ->Bool):∀(d:List Nat) (m:Nat) (c:Nat),d[m]?=some c ->m<=(d.takeWhile p).length ->(p c=true ->m<(d.takeWhile p).length/\(d.takeWhile p)[m]?=some c)/\(p c=false ->m=(d.takeWhile p).length)
 | [],m,c,h,_=>by simp at h
 | a ::t,m,c,h,hm=>by
   cases ha:p a with
   | false=>
     rw[List.takeWhile_cons_of_neg (by rw[ha];exact Bool.false_ne_true)] at hm ⊢
     have m0:m=0:=by simpa using hm
     subst m0
     have:a=c:=by simpa using h
     subst this
     exact⟨(fun q=>by rw[ha] at q;cases q),fun _=>rfl⟩
   | true=>
     rw[List.takeWhile_cons_of_pos ha] at hm ⊢
     cases m with
     | zero=>
       have:a=c:=by simpa using h
       subst this
       exact⟨fun _=>⟨Nat.succ_pos _,rfl⟩,(fun q=>by rw[ha] at q;cases q)⟩
     | succ m=>
       have ih:=A3d p t m c (by simpa using h) (by simpa using hm)
       exact⟨fun q=>⟨Nat.succ_lt_succ (ih.1 q).1,by simpa using(ih.1 q).2⟩,fun q=>congrArg (· +1) (ih.2 q)⟩
section
variable{P:Program}{w:World}{K:Frag}{mg:Str ->Option Value}{base:Heap}
noncomputable def A3x:Sp:=fun vs H Q _=>∃(l:List Nat) (i:Nat),vs=[.str (S l),.int (i:Int)]/\l.length<=400/\i<=l.length/\∀t H',Same H H' ->H' t=some (.tup [.str (S (B4 l i)),.int ((i+(B4 l i).length:Nat):Int)]) ->Q (.ref t) H'
theorem scLNum03:FnScope ["_law_text","_law_at","_law_figures"] ["_law_text","_law_at"] (A7 A1e):=scK
theorem B3c (D :Def K mg "_law_number" ["_law_text","_law_at"] A1e f fd) (O:Own mg):FnOk P w K mg base (CX1 P w) 1 f fd ["_law_text","_law_at"] A3x:=by
 refine D.F.okE scLNum03 (fun vs H Q E h=>?_) (fun X cdv A outer s H vs Q E hX hr hx h=>?_)
 . obtain⟨l,i,rfl,_⟩:=h
   rfl
 . subst hX
   obtain⟨l,i,rfl,hl,hi,k⟩:=h
   have z2:2<=sizeLine:=A3 (by decide)
   have sl:=C7 l
   have fl:(B4 l i).length<=l.length-i:=by
     unfold B4
     have h:=congrArg List.length (List.takeWhile_append_dropWhile (p:=digS.contains) (l:=l.drop i))
     rw[List.length_append,List.length_drop] at h
     omega
   refine⟨_,(A4 (A5 (B3 (i:=2) scLNum03.nd rfl (Or.inl rfl) A6))
     (A4 (A5 (A4c PassesOwn.leaving (PW.pt (A9z (B5 B0f (pv 1) (D9 C6 (by rfl) O.len_ PySem.boot_len (A0 (pv 0) A2)) (B9 _)) (A6g (B5 B2h (J0 A1a (pv 0) (pv 1) (fun _ _=>rfl)) A6 (by rfl))))) (A4 (A5 (B3 (i:=2) scLNum03.nd rfl (Or.inl rfl) (A8 B8 (pv 2) (J0 A1a (pv 0) (pv 1) (fun _ _=>rfl)))))
     (B0 (A5 (B3 (i:=1) scLNum03.nd rfl (Or.inl rfl) (A8 G6 (pv 1) A1)))))))
     (B0 (B7 (J9 (A0 (pv 2) (A0 (pv 1) A2))))))),?_⟩
   refine⟨fun σ' H'=>H'=H/\σ'=[some (.str (S l)),some (.int (i:Int)),some (.str (S []))],⟨rfl,by rw[<-B3h];rfl⟩,?_⟩
   rintro σ' H1 ⟨rfl,rfl⟩
   refine⟨fun σ' H'=>H'=H1/\σ'=[some (.str (S l)),some (.int ((i+(B4 l i).length:Nat):Int)),some (.str (S (B4 l i)))],?_,?_⟩
   . refine A3u (fun σ H6=>H6=H1/\∃m:Nat,m<=(B4 l i).length/\σ=[some (.str (S l)),some (.int ((i+m:Nat):Int)),some (.str (S ((B4 l i).take m)))]) (fun σ _=>match σ with| [_,some (.int g),_]=>1000-g.toNat|_=>0) ⟨rfl,0,Nat.zero_le _,rfl⟩ ?_ ?_
     . rintro σ H6 ⟨rfl,m,hm,rfl⟩
       have fin:m=(B4 l i).length ->H6=H6/\ [some (V.str (S l)),some (.int ((i+m:Nat):Int)),some (.str (S ((B4 l i).take m)))]=[some (.str (S l)),some (.int ((i+(B4 l i).length:Nat):Int)),some (.str (S (B4 l i)))]:=fun q=>⟨rfl,by rw[q,List.take_length]⟩
       refine⟨_,rfl,_,rfl,_,rfl,A3 (by omega),_,_,rfl,rfl,_,rfl,Y0 (fun h=>?_) (fun h=>?_)⟩
       . have h:((i+m:Nat):Int)<((S l).length:Int):=h
         have hlt:i+m<l.length:=by omega
         have hc:l[i+m]?=some l[i+m]:=List.getElem?_eq_getElem hlt
         have hd:(l.drop i)[m]?=some l[i+m]:=by rw[List.getElem?_drop];exact hc
         obtain⟨t1,t2⟩:=A3d digS.contains (l.drop i) m _ hd hm
         generalize l[i+m]=c at hc hd t1 t2
         refine⟨_,rfl,_,rfl,S l,_,c,rfl,rfl,A3 (by omega),D8 hc,_,_,rfl,rfl,_,rfl,?_⟩
         rw[C2g,show(⟨#[c]⟩:Str)=S [c] from rfl,C2t]
         cases hb:digS.contains c with
         |false=>exact U8 (fin (t2 hb))
         | true=>
           have tl:((B4 l i).take m).length<=400:=by rw[List.length_take];omega
           obtain⟨lt,at_⟩:=t1 hb
           refine V7 ⟨fun σ' H'=>H'=H6/\σ'=[some (.str (S l)),some (.int ((i+m:Nat):Int)),some (.str (S ((B4 l i).take (m+1))))],?_,?_⟩
           . refine⟨_,rfl,_,rfl,_,rfl,S l,_,c,rfl,rfl,A3 (by omega),D8 hc,_,_,rfl,rfl,by show(S ((B4 l i).take m)).length+1<=sizeLine;rw[C7];exact A3 (by omega),rfl,?_⟩
             have:(B4 l i).take (m+1)=(B4 l i).take m++ [c]:=by
               rw[List.take_succ,show(B4 l i)[m]?=some c from at_]
               rfl
             rw[this, <-A0k]
             rfl
           rintro σ' H7 ⟨rfl,rfl⟩
           refine⟨_,?_,fun _ _ h=>h⟩
           refine⟨_,rfl,_,_,rfl,rfl,⟨rfl,m+1,lt,rfl⟩,?_⟩
           show 1000-(((i+m:Nat):Int)+1).toNat<1000-((i+m:Nat):Int).toNat
           omega
       . have h:¬((i+m:Nat):Int)<((S l).length:Int):=h
         exact fin (by omega)
     . rintro σ H6 Q1 Q2 hQ ⟨v1,e1,v2,e2,z,ez,lz,a1,a2,f1,f2,bb,eb,q⟩
       refine⟨v1,e1,v2,e2,z,ez,lz,a1,a2,f1,f2,bb,eb,?_⟩
       cases bb with
       |false=>exact hQ _ _ q
       | true=>
         obtain⟨v3,e3,v4,e4,z4,i4,c4,g1,g2,g3,g4,x1,x2,y1,y2,b2,eb2,q2⟩:=q
         exact⟨v3,e3,v4,e4,z4,i4,c4,g1,g2,g3,g4,x1,x2,y1,y2,b2,eb2,hQ _ _ q2⟩
   rintro σ' H2 ⟨rfl,rfl⟩
   exact⟨_,rfl,_,rfl,z2,fun t nt=>k t _ (Same.upd nt) A9⟩
end
theorem A9v(c:Nat):digS.contains (lo1 c)=digS.contains c:=by
 cases h:digS.contains c with
 | true=>
   have:=(U0 c).mp h
   rw[B9e (by omega)]
   exact h
 | false=>
   cases h2:digS.contains (lo1 c) with
   |false=>rfl
   | true=>
     have a:=(U0 _).mp h2
     unfold lo1 at a
     split at a
     . omega
     . rw[(U0 c).mpr a] at h
       cases h
theorem C3f(c:Nat):lo1 c=46↔c=46:=by unfold lo1;split<;>omega
theorem B9h(c:Nat):lo1 c=43↔c=43:=by unfold lo1;split<;>omega
theorem A5d(c:Nat):lo1 c=45↔c=45:=by unfold lo1;split<;>omega
theorem B7k(c:Nat):lo1 c=101↔c=101\/c=69:=by unfold lo1;split<;>omega
theorem A3a{a:List Nat}(h:PySem.NumText.AllDigits a):a.map lo1=a:=by
 have:∀c∈a,lo1 c=id c:=fun c hc=>B9e (by have:=h c hc;omega)
 rw[List.map_congr_left this,List.map_id]
theorem A6j{a:List Nat}(h:PySem.NumText.AllDigits a){c:Nat}(hc:c<48\/57<c):c ∉ a:=fun m=>by
 have:=h c m
 omega
theorem A7f{a b:List Nat}(ha:PySem.NumText.AllDigits a)(hb:PySem.NumText.AllDigits b):PySem.NumText.AllDigits (a++b):=fun c hc=>(List.mem_append.mp hc).elim (ha c) (hb c)
theorem A1s(l:List Nat):PySem.NumText.AllDigits (l.takeWhile digS.contains):=fun c hc=>(U0 c).mp (by
 induction l with
 |nil=>cases hc
 | cons a t ih=>
   cases h:digS.contains a with
   | true=>
     rw[List.takeWhile_cons_of_pos h] at hc
     rcases List.mem_cons.mp hc with rfl|hc
     . exact h
     . exact ih hc
   | false=>
     rw[List.takeWhile_cons_of_neg (by rw[h];exact Bool.false_ne_true)] at hc
     cases hc)
theorem A3j(c:Nat):∀l:List Nat,c ∉ l\/∃a b,c ∉ a/\l=a++c::b
 | []=> .inl (fun h=>nomatch h)
 | d ::t=>by
   by_cases h:d=c
   . exact .inr ⟨[],t,(fun h=>nomatch h),by rw[h];rfl⟩
   . rcases A3j c t with n|⟨a,b,na,e⟩
     . exact .inl fun m=>(List.mem_cons.mp m).elim (fun q=>h q.symm) n
     . exact .inr ⟨d::a,b,fun m=>(List.mem_cons.mp m).elim (fun q=>h q.symm) na,by rw[e];rfl⟩
theorem B7u{l:List Nat}{c:Nat}(hc:c∈l)(hd:digS.contains c=false):A0b (S l)=false:=by
 cases h:A0b (S l) with
 |false=>rfl
 | true=>
   rw[(U0 c).mpr (((U2 l).mp h).2 c hc)] at hd
   cases hd
theorem A5r{l:List Nat}{c:Nat}(hc:c∈l)(hd:digS.contains c=false):A0g (S l)=none:=by
 unfold A0g
 rw[B7u hc hd,if_neg Bool.false_ne_true]
theorem B8n:∀m:List Nat,PySem.NumText.AllDigits m ->PySem.NumText.digitsVal m<10^m.length:=by
 intro m
 induction m with
 |nil=>intro _;decide
 | cons c t ih=>
   intro hd
   have h1:=hd.head
   have h2:=ih hd.tail
   rw[show c::t=[c]++t from rfl,A0p,List.length_append]
   show(0*10+(c-48))*10^t.length+_<10^(1+t.length)
   rw[Nat.pow_add,Nat.zero_mul,Nat.zero_add]
   have:(c-48)*10^t.length<=9*10^t.length:=Nat.mul_le_mul_right _ (by omega)
   omega
theorem B8b{m:List Nat}{c:Nat}{t:List Nat}(hm:m=c::t)(hd:PySem.NumText.AllDigits m)(h0:c≠48):10^t.length<=PySem.NumText.digitsVal m:=by
 subst hm
 have h1:=hd.head
 rw[show c::t=[c]++t from rfl,A0p]
 show _<=(0*10+(c-48))*10^t.length+_
 have:1*10^t.length<=(0*10+(c-48))*10^t.length:=Nat.mul_le_mul_right _ (by omega)
 omega
theorem B3t{l:List Nat}(h:PySem.NumText.AllDigits l):A0g (S l)=if l=[]\/10^60<=PySem.NumText.digitsVal l then none else some ((PySem.NumText.digitsVal l:Nat):Int):=by
 unfold A0g
 by_cases hl:l=[]
 . rw[if_neg (fun q=>((U2 l).mp q).1 hl),if_pos (.inl hl)]
 . rw[if_pos ((U2 l).mpr ⟨hl,h⟩),B7v,A1r,C7]
   have hd:PySem.NumText.AllDigits (l.dropWhile ([48]:List Nat).contains):=fun c hc=>h c ((List.dropWhile_suffix _).mem hc)
   have e:=A3k l
   have lt:=B8n _ hd
   have key:(l.dropWhile ([48]:List Nat).contains).length>60↔10^60<=PySem.NumText.digitsVal l:=by
     rw[<-e]
     constructor
     . intro q
       cases hq:l.dropWhile ([48]:List Nat).contains with
       |nil=>rw[hq] at q;cases q
       | cons c t=>
         rw[hq] at q hd
         have n48:=A1g hq
         refine Nat.le_trans (Nat.pow_le_pow_right (by decide) ?_) (B8b rfl hd (fun z=>by rw[z] at n48;cases n48))
         simpa using Nat.le_of_lt_succ q
     . intro q
       refine Nat.lt_of_not_le fun z=>?_
       have:10^(l.dropWhile ([48]:List Nat).contains).length<=10^60:=Nat.pow_le_pow_right (by decide) z
       omega
   by_cases hk:10^60<=PySem.NumText.digitsVal l
   . rw[if_pos (key.mpr hk),if_pos (.inr hk)]
   . rw[if_neg (fun q=>hk (key.mp q)),if_neg (fun q=>q.elim hl hk)]
     rfl
noncomputable def D4 (m:List Nat):List Nat:=if m.head?=some 43\/m.head?=some 45 then m.tail else m
noncomputable def shL (m:List Nat):Option Int:=if A0b (S (D4 m))=true/\(D4 m).length<=3 then some (if m.head?=some 45 then -((PySem.NumText.digitsVal (D4 m):Nat):Int) else((PySem.NumText.digitsVal (D4 m):Nat):Int)) else none
noncomputable def B1r:List Nat ->Option Int
 | []=>some 0
 |c::m=>if c=101\/c=69 then shL m else none
noncomputable def B5g (a p:List Nat) (pw:Option Int):Option (Int×Int):=pw.bind fun sh=>if a++p=[]\/10^60<=PySem.NumText.digitsVal (a++p)\/¬(-200<=sh-(p.length:Int)/\sh-(p.length:Int)<=200) then none else some (((PySem.NumText.digitsVal (a++p):Nat):Int),sh-(p.length:Int))
noncomputable def A7g:List Nat ->List Nat×List Nat
 | []=>([],[])
 |c::u=>if c=46 then(u.takeWhile digS.contains,u.dropWhile digS.contains) else([],c::u)
theorem B3r:PySem.NumText.AllDigits []:=fun c hc=>by cases hc
theorem A8w{c:Nat}(m:List Nat)(h:c=101\/c=69):B1r (c::m)=shL m:=by
 exact if_pos h
theorem A5z{c:Nat}(m:List Nat)(h:¬(c=101\/c=69)):B1r (c::m)=none:=by
 exact if_neg h
theorem A7k(u:List Nat):A7g (46::u)=(u.takeWhile digS.contains,u.dropWhile digS.contains):=by
 rfl
theorem A7s{c:Nat}(u:List Nat)(h:c≠46):A7g (c::u)=([],c::u):=by
 exact if_neg h
noncomputable def B0j (b:List Nat):Option (Int×Int):=B5g (b.takeWhile digS.contains) (A7g (b.dropWhile digS.contains)).1 (B1r (A7g (b.dropWhile digS.contains)).2)
theorem B0e(l:List Nat):A1b (S l)=decide (l.head?=some 45):=by
 unfold A1b
 rw[B1z,A0c]
theorem B4u(l:List Nat):bare (S l)=S (D4 l):=by
 unfold bare B1c D4
 rw[C0d,B1z,A0c,A0c]
 cases l with
 |nil=>rfl
 | cons c t=>
   have e:=A4a (c::t) 1 (Nat.succ_le_succ (Nat.zero_le _))
   rw[show((1:Nat):Int)=1 from rfl] at e
   by_cases h:(c::t).head?=some 43\/(c::t).head?=some 45
   . rw[if_pos h,if_pos,e]
     . rfl
     . rcases h with h|h
       . rw[decide_eq_true h];rfl
       . rw[decide_eq_true h,Bool.or_true]
   . rw[if_neg h,if_neg]
     rw[decide_eq_false (fun q=>h (.inl q)),decide_eq_false (fun q=>h (.inr q))]
     exact Bool.false_ne_true
theorem Y3{c:Nat}(h:∀d,lo1 d=c↔d=c)(m:List Nat):(m.map lo1).head?=some c↔m.head?=some c:=by
 cases m with
 |nil=>exact Iff.rfl
 |cons d t=>exact⟨fun q=>congrArg some ((h d).mp (Option.some.inj q)),fun q=>congrArg some ((h d).mpr (Option.some.inj q))⟩
theorem A7v(m:List Nat):D4 (m.map lo1)=(D4 m).map lo1:=by
 unfold D4
 by_cases h:m.head?=some 43\/m.head?=some 45
 . rw[if_pos h,if_pos (h.imp (Y3 B9h m).mpr (Y3 A5d m).mpr),List.map_tail]
 . rw[if_neg h,if_neg (fun q=>h (q.imp (Y3 B9h m).mp (Y3 A5d m).mp))]
theorem B7h(m:List Nat):PySem.NumText.AllDigits (m.map lo1)↔PySem.NumText.AllDigits m:=by
 constructor
 . intro h c hc
   have:=(U0 _).mpr (h (lo1 c) (List.mem_map_of_mem hc))
   rw[A9v] at this
   exact(U0 c).mp this
 . intro h
   rw[A3a h]
   exact h
theorem B9c(m:List Nat):shR (S (m.map lo1))=shL m:=by
 unfold shR shL
 rw[B4u,B0e,A7v,C7,List.length_map]
 by_cases h:D4 m≠ []/\PySem.NumText.AllDigits (D4 m)
 . have e:=A3a h.2
   rw[e,if_pos ((U2 _).mpr h)]
   by_cases h3:(D4 m).length>3
   . rw[if_pos h3,if_neg (fun q=>by omega)]
   . rw[if_neg h3,if_pos (c:=A0b (S (D4 m))=true/\(D4 m).length<=3) ⟨(U2 _).mpr h,by omega⟩]
     by_cases h45:m.head?=some 45
     . rw[if_pos h45,if_pos (decide_eq_true ((Y3 A5d m).mpr h45))]
       rfl
     . rw[if_neg h45,if_neg (fun q=>h45 ((Y3 A5d m).mp (of_decide_eq_true q)))]
       rfl
 . rw[if_neg,if_neg (fun q=>h ((U2 _).mp q.1))]
   intro q
   have:=(U2 _).mp q
   exact h ⟨fun z=>this.1 (by rw[z];rfl),(B7h _).mp this.2⟩
theorem A6k{a p:List Nat}(ha:PySem.NumText.AllDigits a)(hp:PySem.NumText.AllDigits p)(pw:Option Int):
   (((A0g (S (a++p))).bind fun f=>pw.map fun s=>(f,s-((p.length:Nat):Int))).bind fun q=>if -200<=q.2/\q.2<=200 then some q else none)=B5g a p pw:=by
 rw[B3t (A7f ha hp)]
 unfold B5g
 cases pw with
 |none=>split<;>rfl
 | some sh=>
   by_cases h:a++p=[]\/10^60<=PySem.NumText.digitsVal (a++p)
   . rw[if_pos h]
     show none=if _ then _ else _
     rw[if_pos (by rcases h with h|h<;>first|exact .inl h|exact .inr (.inl h))]
   . rw[if_neg h]
     show(if _ then _ else _)=if _ then _ else _
     by_cases hr: -200<=sh-(p.length:Int)/\sh-(p.length:Int)<=200
     . rw[if_pos hr,if_neg (fun q=>by rcases q with q|q|q<;>first|exact h (.inl q)|exact h (.inr q)|exact q hr)]
     . rw[if_neg hr,if_pos (.inr (.inr hr))]
theorem eNe:¬(S []:Str)="e":=by decide+kernel
theorem B0z{z:Str}(h:A0g ((ptD (ptE z).1).1++(ptD (ptE z).1).2.2)=none):plO z=none:=by
 unfold plO plR
 rw[h]
 rfl
theorem A9f{l:List Nat}(h:101 ∉ l):ptE (S l)=(S l,S [],S []):=by
 show Txt.partition (S l) "e"=_
 rw[litE]
 exact B0g h
theorem A8v{a b:List Nat}(h:101 ∉ a):ptE (S (a++101::b))=(S a,S [101],S b):=by
 show Txt.partition _ "e"=_
 rw[litE]
 exact B0n h
theorem A9j{l:List Nat}(h:46 ∉ l):ptD (S l)=(S l,S [],S []):=by
 show Txt.partition (S l) "."=_
 rw[A9b]
 exact B0g h
theorem A5p{a b:List Nat}(h:46 ∉ a):ptD (S (a++46::b))=(S a,S [46],S b):=by
 show Txt.partition _ "."=_
 rw[A9b]
 exact B0n h
theorem A6t{v x:List Nat}{d:Nat}(h:101 ∉ v)(hd:d≠101):∃y,(ptE (S (v++d::x))).1=S (v++d::y):=by
 have nv:101 ∉ v++ [d]:=fun m=>(List.mem_append.mp m).elim h fun q=>hd (List.mem_singleton.mp q).symm
 rcases A3j 101 x with n|⟨a,b,na,e⟩
 . refine⟨x,?_⟩
   rw[A9f fun m=>?_]
   rw[show v++d::x=(v++ [d])++x by simp] at m
   exact(List.mem_append.mp m).elim nv n
 . refine⟨a,?_⟩
   rw[e,show v++d::(a++101::b)=(v++d::a)++101::b by simp,A8v fun m=>?_]
   rw[show v++d::a=(v++ [d])++a by simp] at m
   exact(List.mem_append.mp m).elim nv na
theorem C2e{p:List Nat}{c:Nat}(hc:c∈p)(h46:c≠46)(hd:digS.contains c=false):A0g ((ptD (S p)).1++(ptD (S p)).2.2)=none:=by
 rcases A3j 46 p with n|⟨a,b,na,e⟩
 . rw[A9j n]
   show A0g (S p++S [])=none
   rw[A0k]
   exact A5r (List.mem_append_left _ hc) hd
 . rw[e,A5p na]
   show A0g (S a++S b)=none
   rw[A0k]
   refine A5r (c:=c) ?_ hd
   rw[e] at hc
   rcases List.mem_append.mp hc with q|q
   . exact List.mem_append_left _ q
   . exact List.mem_append_right _ ((List.mem_cons.mp q).resolve_left h46)
theorem C3n(b:List Nat):plO (S (b.map lo1))=B0j b:=by
 have ta:=A1s b
 have eb:b=b.takeWhile digS.contains++b.dropWhile digS.contains:=List.takeWhile_append_dropWhile.symm
 unfold B0j
 have hh:∀c t,b.dropWhile digS.contains=c::t ->digS.contains c=false:=fun c t e=>A1g e
 generalize b.takeWhile digS.contains=a at*
 generalize b.dropWhile digS.contains=r at*
 subst eb
 rw[List.map_append,A3a ta]
 have na:=A6j ta (c:=101) (.inr (by decide))
 have nd:=A6j ta (c:=46) (.inl (by decide))
 cases r with
 | nil=>
   show _=B5g a [] (some 0)
   rw[<-A6k ta B3r]
   rw[show a++List.map lo1 []=a++ [] from rfl]
   unfold plO plR
   rw[A9f (by rw[List.append_nil];exact na)]
   dsimp only
   rw[A9j (by rw[List.append_nil];exact nd)]
   dsimp only
   rw[if_neg eNe,A0k,List.append_nil]
   rfl
 | cons d x=>
   have hdig:=hh d x rfl
   rw[List.map_cons]
   by_cases h46:d=46
   . subst h46
     rw[show lo1 46=46 from rfl]
     rw[A7k]
     dsimp only
     have tp:=A1s x
     have ex:x=x.takeWhile digS.contains++x.dropWhile digS.contains:=List.takeWhile_append_dropWhile.symm
     have hx:∀c t,x.dropWhile digS.contains=c::t ->digS.contains c=false:=fun c t e=>A1g e
     generalize x.takeWhile digS.contains=p at*
     generalize x.dropWhile digS.contains=v at*
     subst ex
     rw[List.map_append,A3a tp]
     have np:=A6j tp (c:=101) (.inr (by decide))
     have nap:101 ∉ a++46::p:=fun m=>(List.mem_append.mp m).elim na fun m=>(List.mem_cons.mp m).elim (by decide) np
     cases v with
     | nil=>
       rw[<-A6k ta tp,show a++46::(p++List.map lo1 [])=a++46::p by simp]
       unfold plO plR
       rw[A9f nap]
       dsimp only
       rw[A5p nd]
       dsimp only
       rw[if_neg eNe,A0k,C7]
       rfl
     | cons e y=>
       have hed:=hx e y rfl
       rw[List.map_cons]
       by_cases hee:e=101\/e=69
       . rw[(B7k e).mpr hee, <-A6k ta tp,show a++46::(p++101::y.map lo1)=(a++46::p)++101::y.map lo1 by simp]
         unfold plO plR
         rw[A8v nap]
         dsimp only
         rw[A5p nd]
         dsimp only
         rw[if_pos litE.symm,A0k,C7,B9c,A8w y hee]
       . have:=A5z y hee
         rw[this]
         obtain⟨y2,e2⟩:=A6t (x:=y.map lo1) nap (fun q=>hee ((B7k e).mp q))
         rw[show a++46::(p++lo1 e::y.map lo1)=(a++46::p)++lo1 e::y.map lo1 by simp]
         refine B0z ?_
         rw[e2,show(a++46::p)++lo1 e::y2=a++46::(p++lo1 e::y2) by simp,A5p nd]
         show A0g (S a++S (p++lo1 e::y2))=none
         rw[A0k]
         exact A5r (c:=lo1 e) (by simp) (by rw[A9v];exact hed)
   . have ep:=A7s x h46
     rw[ep]
     dsimp only
     by_cases hee:d=101\/d=69
     . rw[(B7k d).mpr hee, <-A6k ta B3r]
       unfold plO plR
       rw[A8v na]
       dsimp only
       rw[A9j nd]
       dsimp only
       rw[if_pos litE.symm,A0k,B9c,A8w x hee]
       rfl
     . have:=A5z x hee
       rw[this]
       obtain⟨y2,e2⟩:=A6t (x:=x.map lo1) na (fun q=>hee ((B7k d).mp q))
       refine B0z ?_
       rw[e2]
       exact C2e (c:=lo1 d) (by simp) (fun q=>h46 ((C3f d).mp q)) (by rw[A9v];exact hdig)
noncomputable def G9 (l:List Nat):List Nat:=((l.dropWhile ([32]:List Nat).contains).reverse.dropWhile ([32]:List Nat).contains).reverse
noncomputable def B1a:List Nat:=[110,111,110,101]
noncomputable def B8f:List Nat:=[101,110,100]
theorem B9a:("none":Str)=S B1a:=by decide+kernel
theorem C3k:("end":Str)=S B8f:=by decide+kernel
theorem B4h:(" ":Str)=S [32]:=by decide+kernel
noncomputable def sgL (t:List Nat):Int:=if t.head?=some 45 then 1 else 0
noncomputable def A2u (l:List Nat):Option Nm:=if(G9 l).map lo1=B1a then some ⟨.none,0,0,0⟩ else if(D4 (G9 l)).map lo1=B8f then some ⟨.end_,sgL (G9 l),0,0⟩ else(B0j (D4 (G9 l))).map fun q=>⟨.plain,sgL (G9 l),q.1,q.2⟩
theorem A5m(l:List Nat):∀c∈G9 l,c∈l:=fun c hc=>by
 unfold G9 at hc
 have h1:=(List.dropWhile_suffix _).mem (List.mem_reverse.mp hc)
 exact(List.dropWhile_suffix _).mem (List.mem_reverse.mp h1)
theorem C1y{l:List Nat}(h:∀c∈l,c<128):wdZ (S l)=S ((G9 l).map lo1):=by
 show Txt.lower (Txt.stripChars (S l) " ")=_
 rw[B4h,A6a]
 exact A2w fun c hc=>h c (A5m l c hc)
theorem C2q{l:List Nat}(h:∀c∈l,c<128):rdO (S l)=A2u l:=by
 unfold rdO A2u
 rw[C1y h,B4u,A7v,C3n,B9a,C3k]
 have sg:sgZ (S ((G9 l).map lo1))=sgL (G9 l):=by
   unfold sgZ sgL
   rw[B0e]
   by_cases h45:(G9 l).head?=some 45
   . rw[if_pos h45,if_pos (decide_eq_true ((Y3 A5d _).mpr h45))]
   . rw[if_neg h45,if_neg (fun q=>h45 ((Y3 A5d _).mp (of_decide_eq_true q)))]
 rw[sg]
 by_cases h1:(G9 l).map lo1=B1a
 . rw[if_pos h1,if_pos (congrArg S h1)]
 . rw[if_neg h1,if_neg (fun q=>h1 (A0v q))]
   by_cases h2:(D4 (G9 l)).map lo1=B8f
   . rw[if_pos h2,if_pos (congrArg S h2)]
   . rw[if_neg h2,if_neg (fun q=>h2 (A0v q))]
noncomputable abbrev Y9:Stmt:=(top 35)
noncomputable abbrev A2x:Stmt:=(top 36)
theorem A5t(l:List Nat)(i j:Nat)(h:i<=j):G8 (S l) (some (i:Int)) (some (j:Int))=S ((l.take j).drop i):=by
 have e:=A6x l (some (i:Int)) (some (j:Int)) (min i l.length) (min j l.length) (by omega) (by omega) (A7z _ _ _ _ _ (by omega) (by unfold A1w;dsimp only;omega) (by unfold A1w;dsimp only;omega))
 rw[e]
 congr 1
 by_cases hj:j<=l.length
 . rw[Nat.min_eq_left hj,Nat.min_eq_left (by omega)]
 . rw[Nat.min_eq_right (show l.length<=j by omega),List.take_length,List.take_of_length_le (by omega)]
   by_cases hi:i<=l.length
   . rw[Nat.min_eq_left hi]
   . rw[Nat.min_eq_right (show l.length<=i by omega),List.drop_length,List.drop_of_length_le (by omega)]
theorem A0m(l:List Nat)(k:Nat):G8 (S l) (some (k:Int)) none=S (l.drop k):=by
 by_cases h:k<=l.length
 . exact A4a l k h
 . have e:=A6x l (some (k:Int)) none l.length l.length (Nat.le_refl _) (Nat.le_refl _) (A7z _ _ _ _ _ (Nat.le_refl _) (by unfold A1w;dsimp only;omega) (by unfold A1w;rfl))
   rw[e,List.take_length,List.drop_length,List.drop_of_length_le (by omega)]
theorem B0v(l:List Nat)(k:Nat):G8 (S l) none (some (k:Int))=S (l.take k):=by
 by_cases h:k<=l.length
 . exact B9u l k h
 . have e:=A6x l none (some (k:Int)) 0 l.length (Nat.zero_le _) (Nat.le_refl _) (A7z _ _ _ _ _ (Nat.zero_le _) (by unfold A1w;dsimp only;omega) (by unfold A1w;dsimp only;omega))
   rw[e,List.take_length,List.drop_zero,List.take_of_length_le (by omega)]
theorem A3b(l:List Nat)(i c:Nat):S ((l.take (i+1)).drop i)=S [c]↔(l.drop i).head?=some c:=by
 rw[List.drop_take,show i+1-i=1 by omega]
 cases h:l.drop i with
 |nil=>exact⟨(fun q=>by have:=A0v q;simp at this),(fun q=>by simp at q)⟩
 | cons a t=>
   refine⟨fun q=>?_,fun q=>?_⟩
   . have:=A0v q
     exact congrArg some (List.cons.inj this).1
   . rw[Option.some.inj q]
     rfl
theorem B0s(t:List Nat):inV (.str (S t)) [.str "+",.str "-"]=(decide (S t=S [43])||decide (S t=S [45])):=by
 rw[C0d,B1z]
 show(eqV (.str (S [43])) (.str (S t))||(eqV (.str (S [45])) (.str (S t))||false))=_
 rw[Bool.or_false]
 show((S [43]==S t)||(S [45]==S t))=_
 congr 1
 . by_cases h:S t=S [43]
   . rw[h];decide+kernel
   . rw[decide_eq_false h];exact beq_eq_false_iff_ne.mpr (Ne.symm h)
 . by_cases h:S t=S [45]
   . rw[h];decide+kernel
   . rw[decide_eq_false h];exact beq_eq_false_iff_ne.mpr (Ne.symm h)
theorem B5e{c:Nat}(h:48<=c/\c<=57):Txt.find "0123456789" ⟨#[c]⟩=((c-48:Nat):Int):=by
 have:∀k:Nat,k<10 ->Txt.find "0123456789" ⟨#[48+k]⟩=((48+k-48:Nat):Int):=by decide+kernel
 have e:=this (c-48) (by omega)
 rw[show 48+(c-48)=c by omega] at e
 exact e
theorem C4q(c:Nat):(!(Builtin.Str.occurrences "eE" ⟨#[c]⟩ 0 ("eE":Str).length 1).isEmpty)=decide (c=101\/c=69):=by
 have l:("eE":Str)=S [101,69]:=by decide+kernel
 rw[l,show(⟨#[c]⟩:Str)=S [c] from rfl,C2t]
 by_cases h:c=101\/c=69
 . rw[decide_eq_true h]
   rcases h with rfl|rfl<;>rfl
 . rw[decide_eq_false h]
   cases q:List.contains [101,69] c with
   |false=>rfl
   | true=>
     exact absurd (by simpa using q) h
noncomputable def B2c:Option Int ->V
 |none=> .non
 |some p=> .int p
section
variable{P:Program}{w:World}{K:Frag}{mg:Str ->Option Value}{base:Heap}
noncomputable def A0w:Sp:=fun vs H Q _=>∃l:List Nat,vs=[.str (S l)]/\PySem.NumText.AllDigits l/\Q (.int ((PySem.NumText.digitsVal l:Nat):Int)) H
theorem scLWorth03:FnScope ["_law_figures","_law_number_here","_law_sign"] ["_law_figures"] (A7 Y9):=scK
theorem A7t(D:Def K mg "_law_worth" ["_law_figures"] Y9 f fd):FnOk P w K mg base (CX1 P w) 1 f fd ["_law_figures"] A0w:=by
 refine D.F.okE scLWorth03 (fun vs H Q E h=>?_) (fun X cdv A outer s H vs Q E hX hr hx h=>?_)
 . obtain⟨l,rfl,_⟩:=h
   rfl
 . subst hX
   obtain⟨l,rfl,hd,k⟩:=h
   have m10:∀z:Int,IntMulOk z 10:=fun z=>CMul.ok (.inr ⟨by decide,by decide⟩)
   refine⟨_,(A4 (A5 (B3 (i:=1) scLWorth03.nd rfl (Or.inl rfl) A1))
     (A4 (A5 (B3g PassesOwn.leaving rfl (B9r (pv 0)) (U1 (i:=2) scLWorth03.nd rfl (Or.inl rfl)) (B0 (A5 (B3 (i:=1) scLWorth03.nd rfl (Or.inl rfl) (A8 G6 (A8 Y4 (pv 1) A1) (A1k PySem.F.plainAttrs_str PySem.F.slot_str_find PySem.F.type_str_find B7e A6 (A0 (pv 2) A2))))))))
     (B0 (B7 (pv 1))))),?_⟩
   refine⟨fun σ' H'=>H'=H/\σ'=[some (.str (S l)),some (.int 0),none],⟨rfl,rfl⟩,?_⟩
   rintro σ' H1 ⟨rfl,rfl⟩
   refine⟨fun σ' H'=>H'=H1/\∃v,σ'=[some (.str (S l)),some (.int ((PySem.NumText.digitsVal l:Nat):Int)),v],?_,?_⟩
   . refine⟨_,rfl,S l,rfl,B8s (fun i σ' H'=>H'=H1/\∃v,σ'=[some (.str (S l)),some (.int ((PySem.NumText.digitsVal (l.take i):Nat):Int)),v]) ⟨rfl,none,rfl⟩ ?_ ?_⟩
     . rintro i c σ' H3 hc ⟨rfl,v,rfl⟩
       have hc:l[i]?=some c:=by
         rw[<-Array.getElem?_toList] at hc
         exact hc
       have cd:=hd c (List.mem_of_getElem? hc)
       refine⟨_,?_,fun _ _ h=>h⟩
       refine⟨_,rfl,_,_,rfl,rfl,m10 _,rfl,_,rfl,_,_,rfl,rfl,_,_,rfl,rfl,rfl,some (.str ⟨#[c]⟩),?_⟩
       rw[List.take_succ,hc,show(l.take i++(some c).toList)=l.take i++ [c] from rfl,A0p]
       show [some (V.str (S l)),some (V.int (((PySem.NumText.digitsVal (l.take i):Nat):Int)*10+Txt.find "0123456789" ⟨#[c]⟩)),some (V.str ⟨#[c]⟩)]=_
       rw[B5e cd]
       show _=[some (V.str (S l)),some (V.int ((PySem.NumText.digitsVal (l.take i)*10^1+(0*10+(c-48)):Nat):Int)),some (V.str ⟨#[c]⟩)]
       rw[show((PySem.NumText.digitsVal (l.take i)*10^1+(0*10+(c-48)):Nat):Int)=((PySem.NumText.digitsVal (l.take i):Nat):Int)*10+((c-48:Nat):Int) by omega]
     . rintro σ' H3 ⟨rfl,v,rfl⟩
       refine⟨rfl,v,?_⟩
       rw[show(S l).cps.size=l.length from C7 l,List.take_length]
   rintro σ' H2 ⟨rfl,v,rfl⟩
   exact⟨_,rfl,k⟩
noncomputable def A8c:Sp:=fun vs H Q _=>∃(l:List Nat) (i:Nat),vs=[.str (S l),.int (i:Int)]/\l.length<=400/\i<=l.length/\∀H',Same H H' ->Q (B2c (B1r (l.drop i))) H'
theorem scLPow03:FnScope ["_law_text","_law_at","_law_below","_law_figures","_law_behind"] ["_law_text","_law_at"] (A7 A2x):=scK
theorem B1n(D:Def K mg "_law_power" ["_law_text","_law_at"] A2x f fd)(dC:Def K mg "_law_number" ["_law_text","_law_at"] A1e f1 fd1)(dD:FnOk P w K mg base (CX1 P w) 1 f1 fd1 ["_law_text","_law_at"] A3x)(dA:Def K mg "_law_worth" ["_law_figures"] Y9 f2 fd2)(dB:FnOk P w K mg base (CX1 P w) 1 f2 fd2 ["_law_figures"] A0w)(O:Own mg):FnOk P w K mg base (CX1 P w) 2 f fd ["_law_text","_law_at"] A8c:=by
 refine D.F.okE scLPow03 (fun vs H Q E h=>?_) (fun X cdv A outer s H vs Q E hX hr hx h=>?_)
 . obtain⟨l,i,rfl,_⟩:=h
   rfl
 . subst hX
   obtain⟨l,i,rfl,hl,hi,k⟩:=h
   have sl:=C7 l
   have z2:2<=sizeLine:=A3 (by decide)
   refine⟨_,(A4 (A5 (G7 (B5 U7 (pv 1) (D9 C6 (by rfl) O.len_ PySem.boot_len (A0 (pv 0) A2)) (B9 _)) (B0 (B7 A1)) C8))
     (A4 (A5 (G7 (B5 A5q (J0 A1a (pv 0) (pv 1) (fun _ _=>rfl)) A6 (by rfl)) (B0 (B7 A0y)) C8))
     (A4 (A5 (B3 (i:=2) scLPow03.nd rfl (Or.inl rfl) (V5 U7 (G4 U4 (pv 0) (G0 (A8 G6 (pv 1) A1)) (G0 (A8 G6 (pv 1) A1))) A6 (B9 _))))
     (A4 (A5 (A9u (C0 dC dD hr hx (A0 (pv 0) (A0 (A8 G6 (A8 G6 (pv 1) A1) (J1 A0n (by rfl) O.int_ boot_int (A0 (V5 A5a (G4 U4 (pv 0) (G0 (A8 G6 (pv 1) A1)) (G0 (A8 G6 (pv 1) A1))) (J9 (A0 A6 (A0 A6 A2))) (by rfl)) A2))) A2))) (A9x rfl (V6 (U1 (i:=3) scLPow03.nd rfl (Or.inl rfl)) (V6 (U1 (i:=4) scLPow03.nd rfl (Or.inl rfl)) A3e)))))
     (A4 (A5 (G7 (PW.pt (A3s (B5 B0f (pv 4) (D9 C6 (by rfl) O.len_ PySem.boot_len (A0 (pv 0) A2)) (B9 _)) (A5u (Z7 (A7a A7j A7j A1 (D9 C6 (by rfl) O.len_ PySem.boot_len (A0 (pv 3) A2)) A1))))) (B0 (B7 A0y)) C8))
     (B0 (B7 (V9 (U5 (pv 2)) (A5k A2d (C0 dA dB hr hx (A0 (pv 3) A2))) (C0 dA dB hr hx (A0 (pv 3) A2)))))))))),?_⟩
   refine⟨fun σ' H'=>H'=H/\i<l.length/\σ'=[some (.str (S l)),some (.int (i:Int)),none,none,none],?_,?_⟩
   . refine⟨_,rfl,_,rfl,_,rfl,A3 (by omega),rfl,_,rfl,Y0 (fun h=>?_) (fun h=>⟨rfl,?_,rfl⟩)⟩
     . have h:(i:Int)=((S l).length:Int):=V.int.inj h
       have e:l.drop i=[]:=List.drop_of_length_le (by omega)
       have k:=k H (Same.refl _)
       rw[e] at k
       exact k
     . have h:¬(i:Int)=((S l).length:Int):=fun q=>h (congrArg V.int q)
       omega
   rintro σ' H1 ⟨rfl,hlt,rfl⟩
   have hc:l[i]?=some l[i]:=List.getElem?_eq_getElem hlt
   have ed:l.drop i=l[i]::l.drop (i+1):=List.drop_eq_getElem_cons hlt
   rw[ed] at k
   generalize l[i]=c at hc ed k
   generalize hm:l.drop (i+1)=m at*
   refine⟨fun σ' H'=>H'=H1/\(c=101\/c=69)/\σ'=[some (.str (S l)),some (.int (i:Int)),none,none,none],?_,?_⟩
   . refine⟨_,rfl,_,rfl,S l,_,c,rfl,rfl,A3 (by omega),D8 hc,_,_,rfl,rfl,_,rfl,?_⟩
     rw[C4q]
     by_cases h:c=101\/c=69
     . rw[decide_eq_true h]
       exact U8 ⟨rfl,h,rfl⟩
     . rw[decide_eq_false h]
       have k:=k H1 (Same.refl _)
       rw[A5z m h] at k
       exact V7 k
   rintro σ' H2 ⟨rfl,he,rfl⟩
   rw[A8w m he] at k
   have c1:G8 (S l) (some ((i:Int)+1)) (some ((i:Int)+2))=S ((l.take (i+1+1)).drop (i+1)):=A5t l (i+1) (i+2) (by omega)
   have c1l:(G8 (S l) (some ((i:Int)+1)) (some ((i:Int)+2))).length<=1000:=by
     rw[c1,C7,List.length_drop,List.length_take]
     omega
   have q45:=A3b l (i+1) 45
   have q43:=A3b l (i+1) 43
   rw[hm] at q45 q43
   refine⟨fun σ' H'=>H'=H2/\σ'=[some (.str (S l)),some (.int (i:Int)),some (.bl (decide (m.head?=some 45))),none,none],?_,?_⟩
   . refine⟨_,rfl,_,rfl,_,_,rfl,rfl,_,rfl,_,rfl,_,_,rfl,rfl,_,rfl,_,rfl,A3 c1l,rfl,rfl,?_⟩
     have:decide (V.str (G8 (S l) (some ((i:Int)+1)) (some ((i:Int)+2)))=V.str "-")=decide (m.head?=some 45):=by
       rw[c1,B1z]
       exact decide_eq_decide.mpr ⟨fun q=>q45.mp (V.str.inj q),fun q=>congrArg V.str (q45.mpr q)⟩
     show [some (V.str (S l)),some (.int (i:Int)),some (V.bl (decide (V.str (G8 (S l) (some ((i:Int)+1)) (some ((i:Int)+2)))=V.str "-"))),none,none]=_
     rw[this]
   rintro σ' H3 ⟨rfl,rfl⟩
   have hbl:(decide (S ((l.take (i+1+1)).drop (i+1))=S [43])||decide (S ((l.take (i+1+1)).drop (i+1))=S [45]))=decide (m.head?=some 43\/m.head?=some 45):=by
     rw[<-Bool.decide_or]
     exact decide_eq_decide.mpr (or_congr q43 q45)
   have ml:m.length+(i+1)=l.length:=by rw[<-hm,List.length_drop];omega
   obtain⟨j,hj,jl,eb⟩:∃j:Nat,((i:Int)+1+(if decide (m.head?=some 43\/m.head?=some 45)=true then 1 else 0)=(j:Int))/\j<=l.length/\l.drop j=D4 m:=by
     unfold D4
     by_cases h:m.head?=some 43\/m.head?=some 45
     . rw[decide_eq_true h,if_pos rfl,if_pos h]
       refine⟨i+2,by omega,?_,?_⟩
       . cases m with
         |nil=>rcases h with h|h<;>cases h
         |cons a t=>rw[List.length_cons] at ml;omega
       . rw[<-hm,List.tail_drop]
     . rw[decide_eq_false h,if_neg Bool.false_ne_true,if_neg h]
       exact⟨i+1,by omega,by omega,hm⟩
   have fe:B4 l j=(D4 m).takeWhile digS.contains:=by unfold B4;rw[eb]
   have bl:(D4 m).length+j=l.length:=by rw[<-eb,List.length_drop];omega
   refine⟨fun σ' H'=>Same H3 H'/\σ'=[some (.str (S l)),some (.int (i:Int)),some (.bl (decide (m.head?=some 45))),some (.str (S (B4 l j))),some (.int ((j+(B4 l j).length:Nat):Int))],?_,?_⟩
   . refine⟨_,rfl,_,rfl,_,_,rfl,rfl,_,rfl,_,rfl,_,_,rfl,rfl,_,rfl,_,rfl,_,_,rfl,rfl,_,rfl,_,rfl,A3 c1l,z2,fun p np=>?_⟩
     have u1:=Same.upd (o:= .tup [.str "+",.str "-"]) np
     refine⟨p,_,rfl,.inr (SqT.of A9),rfl,rfl,.inr ⟨_,rfl,?_⟩⟩
     rw[c1,if_neg Bool.false_ne_true,B0s,hbl]
     refine⟨_,_,rfl,rfl,l,j,by rw[<-hj];rfl,hl,jl,fun t H' s' et=>?_⟩
     exact⟨t,_,rfl,SqT.of et,rfl,_,_,rfl,_,_,rfl,rfl,u1.trans s',rfl⟩
   rintro σ' H4 ⟨s4,rfl⟩
   have ad:=A1s (D4 m)
   rw[<-fe] at ad
   have tl:(B4 l j).length<=(D4 m).length:=by
     rw[fe]
     exact(List.takeWhile_sublist _).length_le
   have hall:(B4 l j).length=(D4 m).length ->B4 l j=D4 m:=fun q=>by
     have:=(List.takeWhile_prefix digS.contains (l:=D4 m))
     rw[<-fe] at this
     exact this.eq_of_length q
   have hsome:∀v,shL m=some v ->B4 l j=D4 m/\1<=(B4 l j).length/\(B4 l j).length<=3:=fun v hv=>by
     unfold shL at hv
     split at hv
     . rename_i h
       have hf:=(U2 _).mp h.1
       have e:B4 l j=D4 m:=by
         rw[fe, <-List.append_nil ((D4 m).takeWhile digS.contains), <-A8m (p:=digS.contains) (l:=D4 m) (fun c hc=>(U0 c).mpr (hf.2 c hc))]
         exact List.takeWhile_append_dropWhile
       refine⟨e,?_,by rw[e];exact h.2⟩
       rw[e]
       cases hb:D4 m with
       |nil=>exact absurd hb hf.1
       |cons a t=>exact Nat.succ_le_succ (Nat.zero_le _)
     . cases hv
   have fl:=C7 (B4 l j)
   refine⟨fun σ' H'=>H'=H4/\B4 l j=D4 m/\B4 l j≠ []/\(B4 l j).length<=3/\σ'=[some (.str (S l)),some (.int (i:Int)),some (.bl (decide (m.head?=some 45))),some (.str (S (B4 l j))),some (.int ((j+(B4 l j).length:Nat):Int))],?_,?_⟩
   . have no:¬(B4 l j=D4 m/\1<=(B4 l j).length/\(B4 l j).length<=3) ->Q .non H4:=fun h=>by
       have k:=k H4 s4
       cases e:shL m with
       |none=>rw[e] at k;exact k
       |some v=>exact absurd (hsome v e) h
     refine⟨_,rfl,_,rfl,_,rfl,A3 (by omega),_,_,rfl,rfl,_,rfl,Y0 (fun h=>?_) (fun h=>?_)⟩
     . have h:((j+(B4 l j).length:Nat):Int)<((S l).length:Int):=h
       exact no fun q=>by rw[q.1] at h;omega
     . have h:¬((j+(B4 l j).length:Nat):Int)<((S l).length:Int):=h
       have ea:=hall (by omega)
       refine⟨_,rfl,_,rfl,A3 (by omega),_,_,rfl,rfl,_,rfl,Y0 (fun h1=>?_) (fun h1=>?_)⟩
       . have h1:(1:Int)<=((S (B4 l j)).length:Int):=h1
         refine⟨_,_,rfl,rfl,_,rfl,?_⟩
         by_cases h3:((S (B4 l j)).length:Int)<=3
         . rw[decide_eq_true h3]
           exact U8 ⟨rfl,ea,fun q=>by rw[q] at h1 fl;rw[fl] at h1;exact absurd h1 (by decide),by omega,rfl⟩
         . rw[decide_eq_false h3]
           exact V7 (no fun q=>by omega)
       . have h1:¬(1:Int)<=((S (B4 l j)).length:Int):=h1
         exact⟨_,rfl,V7 (no fun q=>by omega)⟩
   rintro σ' H5 ⟨rfl,ea,ne,l3,rfl⟩
   have sv:shL m=some (if m.head?=some 45 then -((PySem.NumText.digitsVal (B4 l j):Nat):Int) else((PySem.NumText.digitsVal (B4 l j):Nat):Int)):=by
     unfold shL
     rw[<-ea,if_pos ⟨(U2 _).mpr ⟨ne,ad⟩,l3⟩]
   have k:=k H5 s4
   rw[sv] at k
   refine⟨_,rfl,_,rfl,?_⟩
   by_cases h:m.head?=some 45
   . rw[decide_eq_true h]
     rw[if_pos h] at k
     exact V7 ⟨_,rfl,_,rfl,ad,_,rfl,k⟩
   . rw[decide_eq_false h]
     rw[if_neg h] at k
     exact U8 ⟨_,rfl,_,rfl,ad,k⟩
end
noncomputable abbrev A2v:Stmt:=(top 37)
noncomputable def C0k:Option Nm ->List V
 |none=>[.str "text"]
 |some x=>x.vs
theorem one_S{c d:Nat}:V.str ⟨#[c]⟩=V.str (S [d])↔c=d:=by
 constructor
 . intro h
   have:S [c]=S [d]:=V.str.inj h
   exact(List.cons.inj (A0v this)).1
 . rintro rfl
   rfl
theorem A5g(c:Nat):([32]:List Nat).contains c=true↔c=32:=by simp
theorem A5f(l:List Nat):(l.take (l.length-((l.dropWhile ([32]:List Nat).contains).reverse.takeWhile ([32]:List Nat).contains).length)).drop (l.takeWhile ([32]:List Nat).contains).length=G9 l:=by
 unfold G9
 rw[List.drop_take,V3, <-V3 _ (l.dropWhile ([32]:List Nat).contains).reverse,List.drop_reverse,List.reverse_reverse]
 congr 1
 have h:=congrArg List.length (List.takeWhile_append_dropWhile (p:=([32]:List Nat).contains) (l:=l))
 rw[List.length_append] at h
 omega
theorem A4r(t:List Nat)(c:Nat):S (t.take 1)=S [c]↔t.head?=some c:=by
 have:=A3b t 0 c
 rw[List.drop_zero,List.drop_zero] at this
 exact this
section
variable{P:Program}{w:World}{K:Frag}{mg:Str ->Option Value}{base:Heap}
noncomputable def A7m:Sp:=fun vs H Q _=>∃l:List Nat,vs=[.str (S l)]/\l.length<=400/\(∀c∈l,c<128)/\∀t H',Same H H' ->H' t=some (.tup (C0k (A2u l))) ->Q (.ref t) H'
theorem scLDue03:FnScope ["_law_text","_law_begin","_law_behind","_law_sign","_law_ahead","_law_at","_law_part","_law_power_here","_law_figures"] ["_law_text"] (A7 A2v):=scK
noncomputable abbrev st9 (x0:V) (x1 x2 x3 x4 x5 x6 x7 x8:Option V):L2.St:=[some x0,x1,x2,x3,x4,x5,x6,x7,x8]
theorem B2k (D:Def K mg "_law_due" ["_law_text"] A2v f fd) (dA:Def K mg "_law_number" ["_law_text","_law_at"] A1e f1 fd1) (dB:FnOk P w K mg base (CX1 P w) 1 f1 fd1 ["_law_text","_law_at"] A3x) (dC:Def K mg "_law_worth" ["_law_figures"] Y9 f2 fd2) (dD:FnOk P w K mg base (CX1 P w) 1 f2 fd2 ["_law_figures"] A0w) (dE:Def K mg "_law_power" ["_law_text","_law_at"] A2x f3 fd3) (dF:FnOk P w K mg base (CX1 P w) 2 f3 fd3 ["_law_text","_law_at"] A8c) (dG:Def K mg "_law_ten" ["_law_power_here"] B7j f4 fd4) (dH:FnOk P w K mg base (CX1 P w) 1 f4 fd4 ["_law_power_here"] B9f) (O:Own mg):FnOk P w K mg base (CX1 P w) 3 f fd ["_law_text"] A7m:=by
 refine D.F.okE scLDue03 (fun vs H Q E h=>?_) (fun X cdv A outer s H vs Q E hX hr hx h=>?_)
 . obtain⟨l,rfl,_⟩:=h
   rfl
 . subst hX
   obtain⟨l,rfl,hl,has,k⟩:=h
   have sl:=C7 l
   have z1:1<=sizeLine:=A3 (by decide)
   have z2:2<=sizeLine:=A3 (by decide)
   have z4:4<=sizeLine:=A3 (by decide)
   have wh:∀{c:Nat},decide (V.str ⟨#[c]⟩=V.str " ")=([32]:List Nat).contains c:=fun{c}=>by
     rw[B4h]
     by_cases h:c=32
     . rw[decide_eq_true (one_S.mpr h),(A5g c).mpr h]
     . rw[decide_eq_false (fun q=>h (one_S.mp q))]
       cases q:([32]:List Nat).contains c with
       |false=>rfl
       |true=>exact absurd ((A5g c).mp q) h
   refine⟨_,(A4 (A5 (B3 (i:=1) scLDue03.nd rfl (Or.inl rfl) A1))
     (A4 (A5 (B3 (i:=2) scLDue03.nd rfl (Or.inl rfl) (D9 C6 (by rfl) O.len_ PySem.boot_len (A0 (pv 0) A2))))
     (A4 (A5 (A4c PassesOwn.leaving (PW.pt (A9z (B5 B0f (pv 1) (pv 2) (B9 _)) (A6g (B5 U7 (J0 A1a (pv 0) (pv 1) (fun _ _=>rfl)) A6 (B9 _))))) (B0 (A5 (B3 (i:=1) scLDue03.nd rfl (Or.inl rfl) (A8 G6 (pv 1) A1))))))
     (A4 (A5 (A4c PassesOwn.leaving (PW.pt (A9z (B5 B3j (pv 2) (pv 1) (B9 _)) (A6g (B5 U7 (J0 A1a (pv 0) (A8 A0z (pv 2) A1) (fun _ _=>rfl)) A6 (B9 _))))) (B0 (A5 (B3 (i:=2) scLDue03.nd rfl (Or.inl rfl) (A8 A0z (pv 2) A1))))))
     (A4 (A5 (B3 (i:=0) scLDue03.nd rfl (Or.inl rfl) (G4 U4 (pv 0) (G0 (pv 1)) (G0 (pv 2)))))
     (A4 (A5 (G7 (B5 U7 (A9g PySem.F.plainAttrs_str PySem.F.slot_str_lower PySem.F.type_str_lower A4d (pv 0)) A6 (B9 _)) (B0 (B7 (J9 (A0 A6 (A0 A1 (A0 A1 (A0 A1 A2))))))) C8))
     (A4 (A5 (B3 (i:=3) scLDue03.nd rfl (Or.inl rfl) (J1 A0n (by rfl) O.int_ boot_int (A0 (V5 U7 (G4 U4 (pv 0) V2 (G0 A1)) A6 (B9 _)) A2))))
     (A4 (A5 (B3 (i:=0) scLDue03.nd rfl (Or.inl rfl) (G4 U4 (pv 0) (G0 (J1 A0n (by rfl) O.int_ boot_int (A0 (V5 A5a (G4 U4 (pv 0) V2 (G0 A1)) (J9 (A0 A6 (A0 A6 A2))) (by rfl)) A2))) V2)))
     (A4 (A5 (G7 (B5 U7 (A9g PySem.F.plainAttrs_str PySem.F.slot_str_lower PySem.F.type_str_lower A4d (pv 0)) A6 (B9 _)) (B0 (B7 (J9 (A0 A6 (A0 (pv 3) (A0 A1 (A0 A1 A2))))))) C8))
     (A4 (A5 (A9u (C0 dA dB hr hx (A0 (pv 0) (A0 A1 A2))) (A9x rfl (V6 (U1 (i:=4) scLDue03.nd rfl (Or.inl rfl)) (V6 (U1 (i:=5) scLDue03.nd rfl (Or.inl rfl)) A3e)))))
     (A4 (A5 (B3 (i:=6) scLDue03.nd rfl (Or.inl rfl) A6))
     (A4 (A5 (G7 (B5 U7 (G4 U4 (pv 0) (G0 (pv 5)) (G0 (A8 G6 (pv 5) A1))) A6 (B9 _)) (B0 (A5 (A9u (C0 dA dB hr hx (A0 (pv 0) (A0 (A8 G6 (pv 5) A1) A2))) (A9x rfl (V6 (U1 (i:=6) scLDue03.nd rfl (Or.inl rfl)) (V6 (U1 (i:=5) scLDue03.nd rfl (Or.inl rfl)) A3e)))))) C8))
     (A4 (A5 (B3 (i:=7) scLDue03.nd rfl (Or.inl rfl) (C0 dE dF hr hx (A0 (pv 0) (A0 (pv 5) A2)))))
     (A4 (A5 (B3 (i:=8) scLDue03.nd rfl (Or.inl rfl) (C0 dC dD hr hx (A0 (A8 B8 (pv 4) (pv 6)) A2))))
     (A4 (A5 (G7 (PW.pt (A3s (B5 C0h (pv 7) A0y (B9 _)) (A3s (B5 U7 (A8 B8 (pv 4) (pv 6)) A6 (B9 _)) (A3s (B5 B9d (pv 8) (C0 dG dH hr hx (A0 A1 A2)) (B9 _)) (A5u (Z7 (A7a A7j A7j (A5k A2d A1) (A8 A0z (pv 7) (D9 C6 (by rfl) O.len_ PySem.boot_len (A0 (pv 6) A2))) A1))))))) (B0 (B7 (J9 (A0 A6 A2)))) C8))
     (B0 (B7 (J9 (A0 A6 (A0 (pv 3) (A0 (pv 8) (A0 (A8 A0z (pv 7) (D9 C6 (by rfl) O.len_ PySem.boot_len (A0 (pv 6) A2))) A2)))))))))))))))))))))),?_⟩
   refine⟨fun σ' H'=>H'=H/\σ'=st9 (.str (S l)) (some (.int 0)) none none none none none none none,⟨rfl,rfl⟩,?_⟩
   rintro σ' H1 ⟨rfl,rfl⟩
   refine⟨fun σ' H'=>H'=H1/\σ'=st9 (.str (S l)) (some (.int 0)) (some (.int (l.length:Int))) none none none none none none,⟨_,rfl,_,rfl,A3 (by omega),rfl,by rw[<-sl];rfl⟩,?_⟩
   rintro σ' H2 ⟨rfl,rfl⟩
   have b0l:(l.takeWhile ([32]:List Nat).contains).length+(l.dropWhile ([32]:List Nat).contains).length=l.length:=by
     have h:=congrArg List.length (List.takeWhile_append_dropWhile (p:=([32]:List Nat).contains) (l:=l))
     rw[List.length_append] at h
     exact h
   refine⟨fun σ' H'=>H'=H2/\σ'=st9 (.str (S l)) (some (.int ((l.takeWhile ([32]:List Nat).contains).length:Int))) (some (.int (l.length:Int))) none none none none none none,?_,?_⟩
   . refine A3u (fun σ H6=>H6=H2/\∃m:Nat,m<=(l.takeWhile ([32]:List Nat).contains).length/\σ=st9 (.str (S l)) (some (.int (m:Int))) (some (.int (l.length:Int))) none none none none none none) (fun σ _=>match σ with| [_,some (.int g),_,_,_,_,_,_,_]=>1000-g.toNat|_=>0) ⟨rfl,0,Nat.zero_le _,rfl⟩ ?_ ?_
     . rintro σ H6 ⟨rfl,m,hm,rfl⟩
       refine⟨_,rfl,_,rfl,_,_,rfl,rfl,_,rfl,Y0 (fun h=>?_) (fun h=>?_)⟩
       . have h:(m:Int)<(l.length:Int):=h
         have hlt:m<l.length:=by omega
         have hc:l[m]?=some l[m]:=List.getElem?_eq_getElem hlt
         obtain⟨t1,t2⟩:=A3d ([32]:List Nat).contains l m _ hc hm
         generalize l[m]=c at hc t1 t2
         refine⟨_,rfl,_,rfl,S l,_,c,rfl,rfl,A3 (by omega),D8 hc,rfl,_,rfl,?_⟩
         rw[wh]
         cases hb:([32]:List Nat).contains c with
         |false=>exact U8 ⟨rfl,by rw[t2 hb]⟩
         | true=>
           refine V7 ⟨_,?_,fun _ _ h=>h⟩
           refine⟨_,rfl,_,_,rfl,rfl,⟨rfl,m+1,(t1 hb).1,rfl⟩,?_⟩
           show 1000-((m:Int)+1).toNat<1000-(m:Int).toNat
           omega
       . have h:¬(m:Int)<(l.length:Int):=h
         exact⟨rfl,by rw[show m=(l.takeWhile ([32]:List Nat).contains).length by omega]⟩
     . rintro σ H6 Q1 Q2 hQ ⟨v1,e1,v2,e2,a1,a2,f1,f2,bb,eb,q⟩
       refine⟨v1,e1,v2,e2,a1,a2,f1,f2,bb,eb,?_⟩
       cases bb with
       |false=>exact hQ _ _ q
       | true=>
         obtain⟨v3,e3,v4,e4,z4,i4,c4,g1,g2,g3,g4,x1,b2,eb2,q2⟩:=q
         exact⟨v3,e3,v4,e4,z4,i4,c4,g1,g2,g3,g4,x1,b2,eb2,hQ _ _ q2⟩
   rintro σ' H3 ⟨rfl,rfl⟩
   have hdw:l.drop (l.takeWhile ([32]:List Nat).contains).length=l.dropWhile ([32]:List Nat).contains:=V3 _ l
   have rl:((l.dropWhile ([32]:List Nat).contains).reverse.takeWhile ([32]:List Nat).contains).length<=(l.dropWhile ([32]:List Nat).contains).length:=by
     have:=(List.takeWhile_sublist (l:=(l.dropWhile ([32]:List Nat).contains).reverse) ([32]:List Nat).contains).length_le
     rw[List.length_reverse] at this
     exact this
   refine⟨fun σ' H'=>H'=H3/\σ'=st9 (.str (S l)) (some (.int ((l.takeWhile ([32]:List Nat).contains).length:Int))) (some (.int ((l.length-((l.dropWhile ([32]:List Nat).contains).reverse.takeWhile ([32]:List Nat).contains).length:Nat):Int))) none none none none none none,?_,?_⟩
   . generalize hb0:(l.takeWhile ([32]:List Nat).contains).length=b0 at*
     generalize l.dropWhile ([32]:List Nat).contains=d at*
     refine A3u (fun σ H6=>H6=H3/\∃m:Nat,m<=(d.reverse.takeWhile ([32]:List Nat).contains).length/\σ=st9 (.str (S l)) (some (.int (b0:Int))) (some (.int ((l.length-m:Nat):Int))) none none none none none none) (fun σ _=>match σ with| [_,_,some (.int g),_,_,_,_,_,_]=>g.toNat|_=>0) ⟨rfl,0,Nat.zero_le _,rfl⟩ ?_ ?_
     . rintro σ H6 ⟨rfl,m,hm,rfl⟩
       refine⟨_,rfl,_,rfl,_,_,rfl,rfl,_,rfl,Y0 (fun h=>?_) (fun h=>?_)⟩
       . have h:(b0:Int)<((l.length-m:Nat):Int):=h
         have hlt:m<d.length:=by omega
         obtain⟨c,hc⟩:∃c,l[l.length-m-1]?=some c:=⟨_,List.getElem?_eq_getElem (by omega)⟩
         have hr':d.reverse[m]?=some c:=by
           rw[List.getElem?_reverse hlt, <-hdw,List.getElem?_drop,show b0+((l.drop b0).length-1-m)=l.length-m-1 by rw[List.length_drop];omega]
           exact hc
         obtain⟨t1,t2⟩:=A3d ([32]:List Nat).contains d.reverse m _ hr' hm
         have ei:((l.length-m:Nat):Int)-1=((l.length-m-1:Nat):Int):=by omega
         refine⟨_,rfl,_,rfl,_,_,rfl,rfl,S l,_,c,rfl,rfl,A3 (by omega),by rw[ei];exact D8 hc,rfl,_,rfl,?_⟩
         rw[wh]
         cases hb:([32]:List Nat).contains c with
         |false=>exact U8 ⟨rfl,by rw[t2 hb]⟩
         | true=>
           refine V7 ⟨_,?_,fun _ _ h=>h⟩
           refine⟨_,rfl,_,_,rfl,rfl,⟨rfl,m+1,(t1 hb).1,?_⟩,?_⟩
           . show [some (V.str (S l)),some (V.int (b0:Int)),some (V.int (((l.length-m:Nat):Int)-1)),none,none,none,none,none,none]=_
             rw[ei,show l.length-m-1=l.length-(m+1) by omega]
           . show(((l.length-m:Nat):Int)-1).toNat<((l.length-m:Nat):Int).toNat
             omega
       . have h:¬(b0:Int)<((l.length-m:Nat):Int):=h
         exact⟨rfl,by rw[show m=(d.reverse.takeWhile ([32]:List Nat).contains).length by omega]⟩
     . rintro σ H6 Q1 Q2 hQ ⟨v1,e1,v2,e2,a1,a2,f1,f2,bb,eb,q⟩
       refine⟨v1,e1,v2,e2,a1,a2,f1,f2,bb,eb,?_⟩
       cases bb with
       |false=>exact hQ _ _ q
       | true=>
         obtain⟨v3,e3,v4,e4,p1,p2,p3,p4,z4,i4,c4,g1,g2,g3,g4,x1,b2,eb2,q2⟩:=q
         exact⟨v3,e3,v4,e4,p1,p2,p3,p4,z4,i4,c4,g1,g2,g3,g4,x1,b2,eb2,hQ _ _ q2⟩
   rintro σ' H4 ⟨rfl,rfl⟩
   have hcut:=A5t l (l.takeWhile ([32]:List Nat).contains).length (l.length-((l.dropWhile ([32]:List Nat).contains).reverse.takeWhile ([32]:List Nat).contains).length) (by omega)
   rw[A5f] at hcut
   have tl:(G9 l).length<=400:=by
     rw[<-A5f,List.length_drop,List.length_take]
     omega
   have tas:∀c∈G9 l,c<128:=fun c hc=>has c (A5m l c hc)
   generalize ((l.takeWhile ([32]:List Nat).contains).length:Int)=i1 at*
   generalize ((l.length-((l.dropWhile ([32]:List Nat).contains).reverse.takeWhile ([32]:List Nat).contains).length:Nat):Int)=i2 at*
   unfold A2u at k
   generalize G9 l=t at*
   have tS:=C7 t
   refine⟨fun σ' H'=>H'=H4/\σ'=st9 (.str (S t)) (some (.int i1)) (some (.int i2)) none none none none none none,⟨_,rfl,_,rfl,_,rfl,_,rfl,_,rfl,_,rfl,by rw[hcut];exact A3 (by omega),rfl,by rw[<-hcut];rfl⟩,?_⟩
   rintro σ' H5 ⟨rfl,rfl⟩
   have lwl:∀m:List Nat,m.length<=400 ->(∀c∈m,c<128) ->(Txt.lower (S m)).length<=sizeLine:=fun m h1 h2=>by
     rw[A2w h2,C7,List.length_map]
     exact A3 (by omega)
   refine⟨fun σ' H'=>H'=H5/\¬t.map lo1=B1a/\σ'=st9 (.str (S t)) (some (.int i1)) (some (.int i2)) none none none none none none,?_,?_⟩
   . refine⟨_,rfl,rfl,_,rfl,rfl,lwl t tl tas,rfl,_,rfl,?_⟩
     rw[A2w tas,B9a]
     refine Y0 (fun h=>?_) (fun h=>⟨rfl,fun q=>h (by rw[q]),rfl⟩)
     have h:=A0v (V.str.inj h)
     rw[if_pos h] at k
     exact⟨z4,fun q nq=>k q _ (Same.upd nq) A9⟩
   rintro σ' H6 ⟨rfl,hn,rfl⟩
   rw[if_neg hn] at k
   have ct:G8 (S t) none (some 1)=S (t.take 1):=B0v t 1
   have ctl:(G8 (S t) none (some 1)).length<=1000:=by
     rw[ct,C7,List.length_take]
     omega
   have h45:=A4r t 45
   have h43:=A4r t 43
   refine⟨fun σ' H'=>H'=H6/\σ'=st9 (.str (S t)) (some (.int i1)) (some (.int i2)) (some (.int (sgL t))) none none none none none,?_,?_⟩
   . refine⟨_,rfl,_,rfl,_,rfl,A3 ctl,rfl,.inr ⟨_,rfl,rfl,?_⟩⟩
     rw[ct,B1z]
     have:(if decide (V.str (S (t.take 1))=V.str (S [45]))=true then(1:Int) else 0)=sgL t:=by
       unfold sgL
       by_cases h:t.head?=some 45
       . rw[if_pos h,if_pos (decide_eq_true (congrArg V.str (h45.mpr h)))]
       . rw[if_neg h,if_neg (fun q=>h (h45.mp (V.str.inj (of_decide_eq_true q))))]
     rw[this]
     rfl
   rintro σ' H7 ⟨rfl,rfl⟩
   have sg01:sgL t=0\/sgL t=1:=by unfold sgL;split<;>simp
   have bsub:∀c∈D4 t,c<128:=fun c hc=>by
     unfold D4 at hc
     split at hc
     . exact tas c (List.mem_of_mem_tail hc)
     . exact tas c hc
   have bl:(D4 t).length<=400:=by
     unfold D4
     split
     . rw[List.length_tail];omega
     . exact tl
   have hbl:(decide (S (t.take 1)=S [43])||decide (S (t.take 1)=S [45]))=decide (t.head?=some 43\/t.head?=some 45):=by
     rw[<-Bool.decide_or]
     exact decide_eq_decide.mpr (or_congr h43 h45)
   have cb:G8 (S t) (some (if decide (t.head?=some 43\/t.head?=some 45)=true then(1:Int) else 0)) none=S (D4 t):=by
     unfold D4
     by_cases h:t.head?=some 43\/t.head?=some 45
     . rw[decide_eq_true h,if_pos rfl,if_pos h, <-List.drop_one]
       exact A0m t 1
     . rw[decide_eq_false h,if_neg Bool.false_ne_true,if_neg h]
       exact A0m t 0
   generalize sgL t=sg at*
   refine⟨fun σ' H'=>Same H7 H'/\σ'=st9 (.str (S (D4 t))) (some (.int i1)) (some (.int i2)) (some (.int sg)) none none none none none,?_,?_⟩
   . refine⟨_,rfl,_,rfl,_,rfl,_,rfl,A3 ctl,z2,fun p np=>⟨p,_,rfl,.inr (SqT.of A9),rfl,rfl,.inr ⟨_,rfl,?_⟩⟩⟩
     rw[ct,if_neg Bool.false_ne_true,B0s,hbl]
     exact⟨_,rfl,_,rfl,by rw[cb,C7];exact A3 (by omega),Same.upd np,by rw[<-cb];rfl⟩
   rintro σ' H8 ⟨s8,rfl⟩
   generalize D4 t=b at*
   have bS:=C7 b
   refine⟨fun σ' H'=>H'=H8/\¬b.map lo1=B8f/\σ'=st9 (.str (S b)) (some (.int i1)) (some (.int i2)) (some (.int sg)) none none none none none,?_,?_⟩
   . refine⟨_,rfl,rfl,_,rfl,rfl,lwl b bl bsub,rfl,_,rfl,?_⟩
     rw[A2w bsub,C3k]
     refine Y0 (fun h=>?_) (fun h=>⟨rfl,fun q=>h (by rw[q]),rfl⟩)
     have h:=A0v (V.str.inj h)
     rw[if_pos h] at k
     exact⟨_,rfl,z4,fun q nq=>k q _ (s8.trans (Same.upd nq)) A9⟩
   rintro σ' H9 ⟨rfl,hne,rfl⟩
   rw[if_neg hne] at k
   have f0:B4 b 0=b.takeWhile digS.contains:=by unfold B4;rw[List.drop_zero]
   unfold B0j at k
   rw[<-V3 digS.contains b, <-f0] at k
   have fl0:(B4 b 0).length<=b.length:=by rw[f0];exact(List.takeWhile_sublist _).length_le
   have fd0:=A1s b
   rw[<-f0] at fd0
   generalize hgen:B4 b 0=a at*
   have aS:=C7 a
   refine⟨fun σ' H'=>Same H9 H'/\σ'=st9 (.str (S b)) (some (.int i1)) (some (.int i2)) (some (.int sg)) (some (.str (S a))) (some (.int (a.length:Int))) none none none,?_,?_⟩
   . refine⟨_,rfl,b,0,rfl,bl,Nat.zero_le _,fun q H' s' eq=>?_⟩
     refine⟨q,_,rfl,SqT.of eq,rfl,_,_,rfl,_,_,rfl,rfl,s',?_⟩
     show [some (V.str (S b)),some (V.int i1),some (V.int i2),some (V.int sg),some (V.str (S (B4 b 0))),some (V.int ((0+(B4 b 0).length:Nat):Int)),none,none,none]=_
     rw[hgen,Nat.zero_add]
   rintro σ' H10 ⟨s10,rfl⟩
   refine⟨fun σ' H'=>H'=H10/\σ'=st9 (.str (S b)) (some (.int i1)) (some (.int i2)) (some (.int sg)) (some (.str (S a))) (some (.int (a.length:Int))) (some (.str (S []))) none none,⟨rfl,by rw[<-B3h];rfl⟩,?_⟩
   rintro σ' H11 ⟨rfl,rfl⟩
   have c1:G8 (S b) (some (a.length:Int)) (some ((a.length:Int)+1))=S ((b.take (a.length+1)).drop a.length):=A5t b a.length (a.length+1) (by omega)
   have c1l:(G8 (S b) (some (a.length:Int)) (some ((a.length:Int)+1))).length<=1000:=by
     rw[c1,C7,List.length_drop,List.length_take]
     omega
   have q46:=A3b b a.length 46
   refine⟨fun σ' H'=>Same H11 H'/\∃(p:List Nat) (at2:Nat),A7g (b.drop a.length)=(p,b.drop at2)/\at2<=b.length/\p.length<=400/\PySem.NumText.AllDigits p/\σ'=st9 (.str (S b)) (some (.int i1)) (some (.int i2)) (some (.int sg)) (some (.str (S a))) (some (.int (at2:Int))) (some (.str (S p))) none none,?_,?_⟩
   . refine⟨_,rfl,_,rfl,_,rfl,_,rfl,_,_,rfl,rfl,_,rfl,_,rfl,A3 c1l,rfl,_,rfl,?_⟩
     rw[c1,A9b]
     refine Y0 (fun h=>?_) (fun h=>?_)
     . have h:=q46.mp (V.str.inj h)
       obtain⟨u,eu⟩:∃u,b.drop a.length=46::u:=by
         cases e:b.drop a.length with
         |nil=>rw[e] at h;cases h
         | cons c u=>
           rw[e] at h
           exact⟨u,by rw[Option.some.inj h]⟩
       have eu2:b.drop (a.length+1)=u:=by
         rw[<-List.drop_drop,eu]
         rfl
       have ul:u.length+(a.length+1)=b.length:=by
         have e:=congrArg List.length eu
         rw[List.length_drop,List.length_cons] at e
         omega
       have fe:B4 b (a.length+1)=u.takeWhile digS.contains:=by unfold B4;rw[eu2]
       have fl1:(B4 b (a.length+1)).length<=u.length:=by rw[fe];exact(List.takeWhile_sublist _).length_le
       refine⟨_,?_,fun _ _ h=>h⟩
       refine⟨_,rfl,_,rfl,_,_,rfl,rfl,b,a.length+1,rfl,bl,by omega,fun q H' s' eq=>?_⟩
       refine⟨q,_,rfl,SqT.of eq,rfl,_,_,rfl,_,_,rfl,rfl,s',B4 b (a.length+1),a.length+1+(B4 b (a.length+1)).length,?_,by omega,by omega,by rw[fe];exact A1s u,rfl⟩
       rw[eu,A7k, <-List.drop_drop,eu2,fe,V3]
     . have h:¬(b.drop a.length).head?=some 46:=fun q=>h (congrArg V.str (q46.mpr q))
       refine⟨Same.refl _,[],a.length,?_,fl0,Nat.zero_le _,B3r,rfl⟩
       cases e:b.drop a.length with
       |nil=>rfl
       |cons c u=>exact A7s u fun q=>h (by rw[e,q];rfl)
   rintro σ' H12 ⟨s12,p,at2,ep,hat,pl,pd,rfl⟩
   rw[ep] at k
   dsimp only at k
   have pS:=C7 p
   refine⟨fun σ' H'=>Same H12 H'/\σ'=st9 (.str (S b)) (some (.int i1)) (some (.int i2)) (some (.int sg)) (some (.str (S a))) (some (.int (at2:Int))) (some (.str (S p))) (some (B2c (B1r (b.drop at2)))) none,⟨_,rfl,_,rfl,b,at2,rfl,bl,hat,fun H' s'=>⟨s',rfl⟩⟩,?_⟩
   rintro σ' H13 ⟨s13,rfl⟩
   generalize B1r (b.drop at2)=pw at*
   have lap:(S a).length+(S p).length<=sizeLine:=A3 (by omega)
   refine⟨fun σ' H'=>H'=H13/\σ'=st9 (.str (S b)) (some (.int i1)) (some (.int i2)) (some (.int sg)) (some (.str (S a))) (some (.int (at2:Int))) (some (.str (S p))) (some (B2c pw)) (some (.int ((PySem.NumText.digitsVal (a++p):Nat):Int))),⟨_,rfl,_,rfl,_,_,rfl,rfl,lap,a++p,by rw[<-A0k];rfl,A7f fd0 pd,rfl,rfl⟩,?_⟩
   rintro σ' H14 ⟨rfl,rfl⟩
   have sH:Same H7 H14:=s8.trans (s10.trans (s12.trans s13))
   have e60:((10^60:Nat):Int)=10^60:=by decide+kernel
   unfold B5g at k
   refine⟨fun σ' H'=>H'=H14/\(∃sh,pw=some sh/\¬(a++p=[]\/10^60<=PySem.NumText.digitsVal (a++p)\/¬(-200<=sh-(p.length:Int)/\sh-(p.length:Int)<=200)))/\σ'=st9 (.str (S b)) (some (.int i1)) (some (.int i2)) (some (.int sg)) (some (.str (S a))) (some (.int (at2:Int))) (some (.str (S p))) (some (B2c pw)) (some (.int ((PySem.NumText.digitsVal (a++p):Nat):Int))),?_,?_⟩
   . refine ⟨_,rfl,rfl,_,rfl,?_⟩
     cases pw with
     | none=>
       rw[decide_eq_true (show B2c none=V.non from rfl)]
       exact V7 ⟨z1,fun q nq=>k q _ (sH.trans (Same.upd nq)) A9⟩
     | some sh=>
       rw[decide_eq_false (show¬B2c (some sh)=V.non from fun q=>nomatch q)]
       have bad:(a++p=[]\/10^60<=PySem.NumText.digitsVal (a++p)\/¬(-200<=sh-(p.length:Int)/\sh-(p.length:Int)<=200)) ->∀q,H14 q=none ->Q (.ref q) (upd H14 q (.tup [.str "text"])):=fun h q nq=>by
         have k:=k q (upd H14 q (.tup [.str "text"])) (sH.trans (Same.upd nq))
         rw[show((some sh).bind fun sh=>if a++p=[]\/10^60<=PySem.NumText.digitsVal (a++p)\/¬(-200<=sh-(p.length:Int)/\sh-(p.length:Int)<=200) then none else some (((PySem.NumText.digitsVal (a++p):Nat):Int),sh-(p.length:Int)))=none from if_pos h] at k
         exact k A9
       refine U8 ⟨_,rfl,_,rfl,_,_,rfl,rfl,lap,rfl,_,rfl,?_⟩
       rw[A0k,B3h]
       refine Y0 (fun h=>⟨z1,bad (.inl (A0v (V.str.inj h)))⟩) (fun h=>?_)
       have h1:¬a++p=[]:=fun q=>h (by rw[q])
       refine⟨_,rfl,60,rfl,by decide,_,_,rfl,rfl,_,rfl,Y0 (fun h=>⟨z1,bad (.inr (.inl ?_))⟩) (fun h=>?_)⟩
       . have h:((10^60:Nat):Int)<=((PySem.NumText.digitsVal (a++p):Nat):Int):=h
         exact Int.ofNat_le.mp h
       . have h:¬((10^60:Nat):Int)<=((PySem.NumText.digitsVal (a++p):Nat):Int):=h
         have h2:¬10^60<=PySem.NumText.digitsVal (a++p):=fun q=>h (Int.ofNat_le.mpr q)
         refine⟨_,rfl,_,rfl,_,rfl,_,rfl,A3 (by omega),_,_,rfl,rfl,_,_,rfl,rfl,_,rfl,Y0 (fun g1=>?_) (fun g1=>?_)⟩
         . have g1: -200<=sh-((S p).length:Int):=g1
           refine⟨_,_,rfl,rfl,_,rfl,?_⟩
           by_cases g2:sh-((S p).length:Int)<=200
           . rw[decide_eq_true g2]
             exact U8 ⟨rfl,⟨sh,rfl,fun q=>by rcases q with q|q|q<;>first|exact h1 q|exact h2 q|exact q ⟨by omega,by omega⟩⟩,rfl⟩
           . rw[decide_eq_false g2]
             exact V7 ⟨z1,bad (.inr (.inr fun q=>g2 (by omega)))⟩
         . have g1:¬ -200<=sh-((S p).length:Int):=g1
           exact⟨_,rfl,V7 ⟨z1,bad (.inr (.inr fun q=>g1 (by omega)))⟩⟩
   rintro σ' H15 ⟨rfl,⟨sh,rfl,good⟩,rfl⟩
   rw[show((some sh).bind fun sh=>if a++p=[]\/10^60<=PySem.NumText.digitsVal (a++p)\/¬(-200<=sh-(p.length:Int)/\sh-(p.length:Int)<=200) then none else some (((PySem.NumText.digitsVal (a++p):Nat):Int),sh-(p.length:Int)))=some (((PySem.NumText.digitsVal (a++p):Nat):Int),sh-(p.length:Int)) from if_neg good] at k
   refine⟨_,rfl,_,rfl,_,rfl,_,rfl,_,rfl,A3 (by omega),_,_,rfl,rfl,z4,fun q nq=>k q _ (sH.trans (Same.upd nq)) ?_⟩
   rw[A9]
   show some (HO.tup [V.str "plain",V.int sg,V.int _,V.int (sh-((S p).length:Int))])=_
   rw[pS]
   rfl
end
noncomputable abbrev A1n:Stmt:=(top 30)
structure Caught3(K:Frag)(mg:Str ->Option Value)(CR C1 C2 C3 C4 C5:Addr):Prop where
 g:mg "ReckonError"=some (.ref CR)
 c:Clause K CR
 sub:subIn K (.ref C2) (.ref CR)=some true
 fits:Fits K C2 C1 C2 C3 C4 C5 false true false false false
noncomputable def Rd0 (K:Frag) (H:Hp) (v:V) (o:Option Nm):Prop:=(∃l,v= .str (S l)/\l.length<=400/\(∀c∈l,c<128)/\o=A2u l)\/(B4m K H v/\o=none)
section
variable{P:Program}{w:World}{K:Frag}{mg:Str ->Option Value}{base:Heap}
noncomputable def A4m (K:Frag):Sp:=fun vs H Q _=>∃v o,vs=[v]/\Rd0 K H v o/\∀t H',Same H H' ->H' t=some (.tup (C0k o)) ->Q (.ref t) H'
theorem scLRead03:FnScope ["_law_thing","_law_found","_law_caught","_law_e"] ["_law_thing"] (A7 A1n):=scK
theorem A8d{f f1 f2 f3 CN CB CR C2 C3 C4 C5:Addr}(D:Def K mg "_law_read" ["_law_thing"] A1n f fd)(dA:Def K mg "told" ["number"] B1j f1 fd1)(dB:FnOk P w K mg base (CX1 P w) 2 f1 fd1 ["number"] (B3x K CN CB))(dC:Def K mg "read" ["text"] B1g f2 fd2)(dD:FnOk P w K mg base (CX2 P w) 5 f2 fd2 ["text"] (B3s K CN C2))(dE:Def K mg "_law_word" ["_law_e"] A7r f3 fd3)(dF:FnOk P w K mg base (CX1 P w) 1 f3 fd3 ["_law_e"] (B3v K CB C2 C3 C4 C5))(C:Caught3 K mg CR CB C2 C3 C4 C5)(O:Own mg)(T:Kit K):FnOk P w K mg base (CX1 P w) 6 f fd ["_law_thing"] (A4m K):=by
 refine D.F.okE scLRead03 (fun vs H Q E h=>?_) (fun X cdv A outer s H vs Q E hX hr hx h=>?_)
 . obtain⟨v,o,rfl,_⟩:=h
   rfl
 . subst hX
   obtain⟨v,o,rfl,hv,k⟩:=h
   refine⟨_,(A4 (A5 (B3 (i:=1) scLRead03.nd rfl (Or.inl rfl) A0y))
     (A4 (A5 (B3 (i:=2) scLRead03.nd rfl (Or.inl rfl) A0y))
     (A4 (A5 (B6x ⟨rfl,rfl,rfl⟩ (by rfl) C.g C.c scLRead03.nd (i:=3) rfl rfl (fun pins Ew EHb hc=>(B0 (A5 (B3 (i:=1) scLRead03.nd rfl (Or.inl rfl) (C0 dA dB hr hc.c (A0 (B3w dC dD hr hc (A0 (pv 0) A2)) A2)))))) (fun pins a=>(B0 (A5 (B3 (i:=2) scLRead03.nd rfl (Or.inl rfl) (pv 3)))))))
     (A4 (A5 (G7 (B5 B8r (pv 2) A0y (B9 _)) (B0 (B7 (C0 dE dF hr hx (A0 (pv 2) A2)))) C8))
     (A4 (A5 (G7 (PW.pt (A3s (Z7 (U5 (A1x O.isi (pv 1) (pty O.tuple_ boot_tuple)))) (A3s (B5 B4r (D9 A1j (by rfl) O.len_ PySem.boot_len (A0 (pv 1) A2)) A1 (B9 _)) (A5u (Z7 (U5 (A1x O.isi (J0 A1c (pv 1) A1 (fun _ _=>rfl)) (pty O.str_ boot_str)))))))) (B0 (B7 (J9 (A0 A6 A2)))) C8))
     (B0 (B7 (J1 A0r (by rfl) O.tuple_ boot_tuple (A0 (B4a (N:=["_law_one"]) ⟨rfl,by decide+kernel,by decide+kernel,by decide+kernel,by decide+kernel⟩ (.inl hr.hd) (B7c (pv 1)) rfl (fun C s₀ H₀ ex pn h=>U1 (i:=0) (by decide+kernel:(["_law_one"]:List Str).Nodup) rfl (Or.inl rfl)) (fun C s₀ H₀ ex pn h=>(V9 (U5 (C2f (K:=K) rfl O.isi (pv 0) (pty O.bool_ boot_bool))) A6 (pv 0)))) A2))))))))),?_⟩
   refine⟨fun σ' H'=>H'=H/\σ'=[some v,some .non,none,none],⟨rfl,rfl⟩,?_⟩
   rintro σ' H1 ⟨rfl,rfl⟩
   refine⟨fun σ' H'=>H'=H1/\σ'=[some v,some .non,some .non,none],⟨rfl,rfl⟩,?_⟩
   rintro σ' H2 ⟨rfl,rfl⟩
   refine⟨fun σ' H'=>Same H2 H'/\((∃x t,o=some x/\H' t=some (.tup x.vs)/\σ'=[some v,some (.ref t),some .non,none])\/(o=none/\∃a t T u,H' a=some (.frz (Y2 (.ref C2) t none (.ref T)) u)/\σ'=[some v,some .non,some (.ref a),none])),?_,?_⟩
   . refine⟨fun σ' H'=>Same H2 H'/\∃x t,o=some x/\H' t=some (.tup x.vs)/\σ'=[some v,some (.ref t),some .non,none],⟨_,rfl,v,rfl,?_⟩,fun σ' H' ⟨a,b⟩=>⟨a,.inl b⟩⟩
     have go:∀{Q':VK} {E':XK},(∀x n H',o=some x ->H2 n=none ->Same H2 H' ->B4z CN H' n x ->Q' (.ref n) H') ->(∀H',o=none ->Same H2 H' ->E' (.ref C2) none H') ->Reads CN C2 H2 Q' E' o:=fun{Q' E'} h1 h2=>by
       cases o with
       |some x=>exact fun n H' nn s' num=>h1 x n H' rfl nn s' num
       |none=>exact fun H' s'=>h2 H' rfl s'
     have hgo:=fun{Q':VK} {E':XK} (h1:∀x n H',o=some x ->H2 n=none ->Same H2 H' ->B4z CN H' n x ->Q' (.ref n) H') (h2:∀H',o=none ->Same H2 H' ->E' (.ref C2) none H')=>(show(∃z,v= .str z/\z.length<=400/\(wdZ z).length<=400/\Reads CN C2 H2 Q' E' (rdO z))\/(B4m K H2 v/\Reads CN C2 H2 Q' E' none) by
       have g:=go h1 h2
       rcases hv with⟨l,rfl,hl,has,rfl⟩|⟨no,rfl⟩
       . refine .inl ⟨S l,rfl,by rw[C7];exact hl,?_,by rw[C2q has];exact g⟩
         rw[C1y has,C7,List.length_map]
         refine Nat.le_trans ?_ hl
         unfold G9
         have a:=(List.dropWhile_suffix (l:=(l.dropWhile ([32]:List Nat).contains).reverse) ([32]:List Nat).contains).length_le
         have b:=(List.dropWhile_suffix (l:=l) ([32]:List Nat).contains).length_le
         rw[List.length_reverse] at a
         rw[List.length_reverse]
         omega
       . exact .inr ⟨no,g⟩)
     refine hgo (fun x n H' ho nn s' num=>?_) (fun H' ho s'=>?_)
     . exact⟨_,rfl,.inl ⟨n,_,_,_,_,rfl,num,fun t nt=>⟨s'.trans (Same.upd nt),x,t,ho,A9,rfl⟩⟩⟩
     . refine⟨C.sub,fun a t T na=>⟨_,?_,fun _ _ h=>h⟩⟩
       exact⟨_,rfl,s'.trans (Same.upd na),.inr ⟨ho,a,t,T,_,A9,rfl⟩⟩
   rintro σ' H3 ⟨s3,⟨x,t,rfl,et,rfl⟩|⟨rfl,a,t,T',u,ea,rfl⟩⟩
   . refine⟨fun σ' H'=>H'=H3/\σ'=[some v,some (.ref t),some .non,none],⟨_,rfl,rfl,_,rfl,U8 ⟨rfl,rfl⟩⟩,?_⟩
     rintro σ' H4 ⟨rfl,rfl⟩
     refine⟨fun σ' H'=>H'=H4/\σ'=[some v,some (.ref t),some .non,none],?_,?_⟩
     . refine⟨_,rfl,_,_,_,_,true,rfl,rfl,B8z et,T.tuple_tuple,_,rfl,U8 ?_⟩
       refine⟨_,rfl,t,_,rfl,.inr (SqT.of et),rfl,_,rfl,?_⟩
       refine U8 ⟨_,rfl,t,_,_,_,rfl,rfl,SqT.of et,D8 (j:=0) rfl,_,_,_,_,true,rfl,rfl,B3n _,T.str_str,_,rfl,U8 ⟨rfl,rfl⟩⟩
     rintro σ' H5 ⟨rfl,rfl⟩
     refine⟨_,rfl,t,rfl,⟨_,SqT.of et⟩,?_⟩
     refine A4q (J:=Itt K t) (n:=4) (fun i y _=>x.vs[i]?=some y) (by decide) (fun _ _ _ _ _ _ h _ _=>h) (fun i H3 Qy hi sm hy=>?_) (fun H3 sm=>⟨_,SqT.of (sm _ _ et),Nat.le_refl 4⟩) (fun D H' ys sm nD eD hlen hR=>?_)
     . obtain⟨j,hj,ty,tyj,kj⟩:∃j:V,x.vs[i]?=some j/\∃ty,TyE K H3 j ty/\kitOne K ty (.type "bool")=some false:=by
         rcases(by omega:i=0\/i=1\/i=2\/i=3) with rfl|rfl|rfl|rfl
         . exact⟨_,rfl,_,B3n _,T.str_bool⟩
         . exact⟨_,rfl,_,A2m _,T.int_bool⟩
         . exact⟨_,rfl,_,A2m _,T.int_bool⟩
         . exact⟨_,rfl,_,A2m _,T.int_bool⟩
       refine⟨⟨_,_,SqT.of (sm _ _ et),hj⟩,fun y H4 yl=>?_⟩
       obtain⟨rfl,yl⟩:=yl
       have e:=yl _ (SqT.of (sm _ _ et))
       rw[hj] at e
       obtain rfl:=(Option.some.inj e).symm
       exact⟨_,rfl,_,_,_,_,false,rfl,rfl,tyj,kj,_,rfl,U8 ⟨_,rfl,hy _ _ (Same.refl _) hj⟩⟩
     . have ey:ys=x.vs:=by
         refine List.ext_getElem? fun i=>?_
         by_cases hi:i<4
         . obtain⟨y,hy⟩:∃y,ys[i]?=some y:=⟨_,List.getElem?_eq_getElem (by omega)⟩
           rw[hy,hR i y hy]
         . rw[List.getElem?_eq_none (by omega),List.getElem?_eq_none (by show 4<=i;omega)]
       exact⟨_,_,rfl,.inl ⟨SqL.of eD,fun l nl=>k l _ (s3.trans (sm.trans (Same.upd nl))) (by rw[A9,ey];rfl)⟩⟩
   . refine⟨fun _ _=>False,⟨_,rfl,rfl,_,rfl,?_⟩,fun _ _ h=>h.elim⟩
     rw[decide_eq_false (show¬V.ref a=V.non from fun q=>nomatch q)]
     exact V7 ⟨_,rfl,a,C2,t,T',u,false,true,false,false,false,rfl,ea,C.fits,fun l H' s' nl el=>k l H' (s3.trans s') el⟩
end
noncomputable abbrev A2z:Stmt:=(top 31)
noncomputable abbrev A1f:Stmt:=(top 33)
structure Tx(n:Nat)(z:Str):Prop where
 len:z.length<=n
 asc:∀c∈z.cps.toList,c<128
theorem Tx.mono{n m:Nat}{z:Str}(h:Tx n z)(k:n<=m):Tx m z:=⟨Nat.le_trans h.len k,h.asc⟩
theorem Tx.app{n m:Nat}{z y:Str}(h:Tx n z)(k:Tx m y):Tx (n+m) (z++y):=by
 refine⟨by rw[strLen_append];have:=h.len;have:=k.len;omega,fun c hc=>?_⟩
 rw[Str.cps_append,Array.toList_append] at hc
 exact(List.mem_append.mp hc).elim (h.asc c) (k.asc c)
theorem Tx.times{n:Nat}{z:Str}{i:Int}(h:Tx 1 z)(hi:i<=(n:Int)):Tx n (Z5 z i):=by
 refine⟨?_,fun c hc=>?_⟩
 . rw[A3p]
   have:=h.len
   have:i.toNat*z.length<=i.toNat*1:=Nat.mul_le_mul_left _ this
   omega
 . rw[A2s] at hc
   obtain⟨m,hm,hc⟩:=List.mem_flatten.mp hc
   rw[List.eq_of_mem_replicate hm] at hc
   exact h.asc c hc
theorem Tx.S{n:Nat}{z:Str}(h:Tx n z):∃l,z=S l/\l.length<=n/\∀c∈l,c<128:=⟨z.cps.toList,(A2b z).symm,by have:=h.len;rw[<-A2b z,C7] at this;exact this,h.asc⟩
theorem Tx.of{n:Nat}{l:List Nat}(h:l.length<=n)(a:∀c∈l,c<128):Tx n (L2.S l):=⟨by rw[C7];exact h,a⟩
theorem Tx.join{zs:List Str}(h:∀z∈zs,Tx 1 z):Tx zs.length (Txt.join "" zs):=by
 show Tx _ (Builtin.Str.glued "" zs)
 rw[PySem.StrLaws.glued_eq_join]
 induction zs with
 |nil=>exact⟨Nat.le_refl _,fun c hc=>nomatch hc⟩
 | cons x r ih=>
   cases r with
   |nil=>exact h x (List.mem_cons_self ..)
   | cons y r=>
     show Tx _ (x++""++Str.join "" (y::r))
     have e:Tx 0 ("":Str):=⟨by decide+kernel,by decide+kernel⟩
     exact(((h x (List.mem_cons_self ..)).app e).app (ih fun z hz=>h z (List.mem_cons_of_mem _ hz))).mono (by simp only[List.length_cons];omega)
theorem B8u{zs:List Str}(h:∀z∈zs,Tx 1 z)(hz:zs.length<=900):JoinOk "" zs=true:=by
 unfold JoinOk
 rw[PySem.StrLaws.joinTotal,show("":Str).length=0 by decide+kernel,Nat.mul_zero,Nat.add_zero]
 have:(zs.map (·.length)).sum<=zs.length:=by
   clear hz
   induction zs with
   |nil=>exact Nat.le_refl _
   | cons x r ih=>
     have a:=(h x (List.mem_cons_self ..)).len
     have b:=ih fun z hz=>h z (List.mem_cons_of_mem _ hz)
     simp only[List.map_cons,List.sum_cons,List.length_cons]
     omega
 rw[A6h (A3 (by omega))]
 rfl
theorem ixt{zs:List Str}{i:Int}(h0:0<=i)(h1:i<zs.length):∃z,z∈zs/\atI (zs.map V.str) i=some (.str z):=by
 obtain⟨j,rfl⟩:=Int.eq_ofNat_of_zero_le h0
 have hj:j<zs.length:=by omega
 exact⟨zs[j],List.getElem_mem hj,D8 (by simp[hj])⟩
theorem ixc{z:Str}{i:Int}(h0:0<=i)(h1:i<(z.length:Int)):∃c,c∈z.cps.toList/\atI z.cps.toList i=some c:=by
 obtain⟨j,rfl⟩:=Int.eq_ofNat_of_zero_le h0
 have e:z.length=z.cps.toList.length:=by rw[Array.length_toList];rfl
 have hj:j<z.cps.toList.length:=by omega
 exact⟨z.cps.toList[j],List.getElem_mem hj,D8 (by simp[hj])⟩
theorem dvI(n:Int)(h1:0<n)(h2:n<1000000):0<n/\n.natAbs.log2<9000:=by
 have e:(2:Nat)^20=1048576:=by decide
 have:n.natAbs<2^20:=by omega
 exact⟨h1,Nat.lt_trans (A3m this (by decide)) (by decide)⟩
section
variable{P:Program}{w:World}{K:Frag}{mg:Str ->Option Value}{base:Heap}
noncomputable def A7y:Sp:=fun vs H Q _=>∃c m:Int,vs=[.int c,.int m]/\0<=m/\m<=40/\∀z H',Same H H' ->Tx 79 z ->Q (.str z) H'
theorem scLRun03:FnScope ["_law_cell","_law_most","_law_many","_law_noughts"] ["_law_cell","_law_most"] (A7 A2z):=scK
theorem B2e(D:Def K mg "_law_run" ["_law_cell","_law_most"] A2z f fd)(dA:Def K mg "_law_mixed" ["_law_cell","_law_k"] A2e f1 fd1)(dB:FnOk P w K mg base (CX1 P w) 1 f1 fd1 ["_law_cell","_law_k"] A3c)(O:Own mg):FnOk P w K mg base (CX1 P w) 2 f fd ["_law_cell","_law_most"] A7y:=by
 refine D.F.okE scLRun03 (fun vs H Q E h=>?_) (fun X cdv A outer s H vs Q E hX hr hx h=>?_)
 . obtain⟨c,m,rfl,_⟩:=h
   rfl
 . subst hX
   obtain⟨c,mo,rfl,m0,m1,k⟩:=h
   have z3:3<=sizeLine:=A3 (by decide)
   have z2:2<=sizeLine:=A3 (by decide)
   refine⟨_,(A4 (A5 (B3 (i:=2) scLRun03.nd rfl (Or.inl rfl) (J0 V0 (U6 (A0 (A8 D6 (pv 0) (A8 G6 (pv 1) A1)) (A0 (A8 D6 (pv 0) A1) (A0 A1 A2)))) (A8 D6 (A8 D0 (pv 0) A1) A1) (fun _ _=>rfl))))
     (A4 (A5 (B3 (i:=3) scLRun03.nd rfl (Or.inl rfl) (A8 Z6 A6 (A8 Y4 (J0 V0 (U6 (A0 (A8 D6 (A8 D0 (pv 0) A1) A1) (A0 (A8 D6 (A8 D0 (pv 0) A1) A1) A2))) (A8 D6 (A8 D0 (pv 0) A1) A1) (fun _ _=>rfl)) (J1 A0n (by rfl) O.int_ boot_int (A0 (A8 D6 (A8 D0 (pv 0) A1) A1) A2))))))
     (B0 (B7 (A8 B8 (pv 3) (A1k PySem.F.plainAttrs_str PySem.F.slot_str_join PySem.F.type_str_join B8v A6 (A0 (B2j (N:=["_law_j"]) (F:=["_law_cell"]) (js:=[0]) (CompScopeF.of1 ⟨rfl,by decide+kernel,by decide+kernel,by decide+kernel,by decide+kernel⟩ (by rfl) (by rfl) ⟨_,by rfl⟩ (by rfl) (by rfl)) (.inl hr.hd) rfl (A4n rfl O.range_ (A0 (pv 2) A2)) rfl (fun C s₀ H₀ ex pn h=>U1 (i:=0) (by decide+kernel:(["_law_j","_law_cell"]:List Str).Nodup) rfl (Or.inl rfl)) (fun C s₀ H₀ ex pn h=>(J0 A1a A6 (A8 D6 (A8 D0 (C0u dA dB hr (A0 (pv 1) (A0 (pv 0) A2))) A1) A1) (fun _ _=>rfl)))) A2))))))),?_⟩
   have d61:=dvI 61 (by decide) (by decide)
   have d183:=dvI 183 (by decide) (by decide)
   have d7320:=dvI 7320 (by decide) (by decide)
   have d14640:=dvI 14640 (by decide) (by decide)
   have d7:=dvI 7 (by decide) (by decide)
   refine⟨fun σ' H'=>Same H H'/\∃n:Nat,n<=40/\σ'=[some (.int c),some (.int mo),some (.int (n:Int)),none],?_,?_⟩
   . refine⟨_,rfl,_,rfl,_,_,rfl,rfl,_,_,rfl,rfl,(by show 0<mo+1;omega),_,rfl,_,_,rfl,rfl,(by decide:(0:Int)<4),z3,fun l nl=>?_⟩
     obtain⟨v,hv,ix⟩:=ixs (xs:=[c % (mo+1),c % 4,1]) (i:=c/61 % 3) (Int.emod_nonneg _ (by decide)) (by show c/61 % 3<3;exact Int.emod_lt_of_pos _ (by decide))
     refine⟨_,rfl,_,_,rfl,rfl,d61,_,_,rfl,rfl,(by decide:(0:Int)<3),l,_,_,_,rfl,rfl,SqL.of A9,ix,Same.upd nl,?_⟩
     have e1:=Int.emod_nonneg c (show mo+1≠0 by omega)
     have e2:=Int.emod_lt_of_pos c (show 0<mo+1 by omega)
     have b:0<=v/\v<=40:=by
       simp only[List.mem_cons,List.not_mem_nil,or_false] at hv
       rcases hv with rfl|rfl|rfl<;>omega
     obtain⟨n,rfl⟩:=Int.eq_ofNat_of_zero_le b.1
     exact⟨n,by omega,rfl⟩
   rintro σ' H1 ⟨s1,n,hn,rfl⟩
   have n1:("0":Str).length=1:=by decide+kernel
   refine⟨fun σ' H'=>Same H1 H'/\∃z,Tx 39 z/\σ'=[some (.int c),some (.int mo),some (.int (n:Int)),some (.str z)],?_,?_⟩
   . refine⟨_,rfl,_,_,rfl,rfl,d183,_,_,rfl,rfl,(by decide:(0:Int)<4),_,rfl,_,_,rfl,rfl,d183,_,_,rfl,rfl,(by decide:(0:Int)<40),z2,fun l nl=>?_⟩
     obtain⟨v,hv,ix⟩:=ixs (xs:=[c/183 % 4,c/183 % 40]) (i:=c/7320 % 2) (Int.emod_nonneg _ (by decide)) (by show c/7320 % 2<2;exact Int.emod_lt_of_pos _ (by decide))
     have b:0<=v/\v<=39:=by
       simp only[List.mem_cons,List.not_mem_nil,or_false] at hv
       omega
     have e:=Int.emod_two_eq (c/14640)
     have b2:0<=v*(c/14640 % 2)/\v*(c/14640 % 2)<=39:=by
       rcases e with e|e<;>rw[e]<;>omega
     refine⟨_,rfl,_,_,rfl,rfl,d7320,_,_,rfl,rfl,(by decide:(0:Int)<2),l,_,_,_,rfl,rfl,SqL.of A9,ix,_,rfl,_,_,rfl,rfl,d14640,_,_,rfl,rfl,(by decide:(0:Int)<2),.inl ⟨_,rfl,_,_,rfl,rfl,?_,_,_,rfl,rfl,by omega,by omega,?_,Same.upd nl,_,Tx.times (n:=39) ⟨by decide+kernel,by decide+kernel⟩ b2.2,rfl⟩⟩
     . exact CMul.ok (.inr (by rcases e with e|e<;>rw[e]<;>exact⟨by decide,by decide⟩))
     . rw[n1];exact A3 (by omega)
   rintro σ' H2 ⟨s2,z,tz,rfl⟩
   refine⟨_,rfl,rfl,_,rfl,n,rfl,by omega,by omega,A4q (J:=Itr 0 n) (n:=n) (fun _ y _=>∃u,y= .str u/\Tx 1 u) (by omega) (fun _ _ _ _ _ _ h _ _=>h) (fun i H3 Qy hi sm hy=>⟨hi,fun x H4 yl=>?_⟩) (fun H3 sm=>Nat.le_refl n) (fun D H' ys sm nD eD hlen hR=>?_)⟩
   . obtain⟨rfl,rfl⟩:=yl
     refine⟨_,rfl,_,rfl,c,0+(i:Int),rfl,by omega,by omega,fun m _ _=>?_⟩
     obtain⟨ch,hch,ix⟩:=ixc (z:="0123456789") (i:=m/7 % 10) (Int.emod_nonneg _ (by decide)) (by rw[show("0123456789":Str).length=10 by decide+kernel];exact Int.emod_lt_of_pos _ (by decide))
     have asc:∀q∈("0123456789":Str).cps.toList,q<128:=by decide+kernel
     refine⟨_,_,rfl,rfl,d7,_,_,rfl,rfl,(by decide:(0:Int)<10),"0123456789",_,ch,rfl,rfl,A3 (by decide+kernel),ix,hy _ _ (Same.refl _) ⟨⟨#[ch]⟩,rfl,?_⟩⟩
     refine Tx.of (l:=[ch]) (Nat.le_refl 1) fun q hq=>?_
     rw[List.mem_singleton.mp hq]
     exact asc ch hch
   . obtain⟨zs,rfl,hz⟩:∃zs:List Str,ys=zs.map V.str/\∀u∈zs,Tx 1 u:=by
       clear hlen eD
       induction ys with
       |nil=>exact⟨[],rfl,fun u hu=>nomatch hu⟩
       | cons y r ih=>
         obtain⟨u,rfl,hu⟩:=hR 0 y rfl
         obtain⟨zs,rfl,hz⟩:=ih fun i y hy=>hR (i+1) y (by simpa using hy)
         exact⟨u::zs,rfl,fun v hv=>(List.mem_cons.mp hv).elim (fun q=>q▸hu) (hz v)⟩
     rw[List.length_map] at hlen
     have tj:=(Tx.join hz).mono (show zs.length<=40 by omega)
     exact⟨_,D,zs,rfl,rfl,SqL.of eD,B8u hz (by omega),_,_,rfl,rfl,A3 (by have:=tz.len;have:=tj.len;omega),k _ _ (s1.trans (s2.trans sm)) (tz.app tj)⟩
end
noncomputable abbrev A0q:Stmt:=(top 32)
noncomputable def bentS:Str:="0123456789abcdefghijklmnopqrstuvwxyz.+-_ ,E'\n\t"
section
variable{P:Program}{w:World}{K:Frag}{mg:Str ->Option Value}{base:Heap}
noncomputable def A4v:Sp:=fun vs H Q _=>∃(z:Str) (c:Int),vs=[.str z,.int c]/\Tx 399 z/\∀y H',Same H H' ->Tx 400 y ->Q (.str y) H'
theorem scLBent03:FnScope ["_law_text","_law_cell","_law_at","_law_sign"] ["_law_text","_law_cell"] (A7 A1f):=scK
theorem A9h(D:Def K mg "_law_bent" ["_law_text","_law_cell"] A1f f fd)(O:Own mg):FnOk P w K mg base (CX1 P w) 1 f fd ["_law_text","_law_cell"] A4v:=by
 refine D.F.okE scLBent03 (fun vs H Q E h=>?_) (fun X cdv A outer s H vs Q E hX hr hx h=>?_)
 . obtain⟨c,m,rfl,_⟩:=h
   rfl
 . subst hX
   obtain⟨z,c,rfl,tz,k⟩:=h
   have z3:3<=sizeLine:=A3 (by decide)
   obtain⟨l,rfl,hl,asc⟩:=tz.S
   have sl:=C7 l
   refine⟨_,(A4 (A5 (B3 (i:=2) scLBent03.nd rfl (Or.inl rfl) (A8 D6 (pv 1) (A8 G6 (D9 C6 (by rfl) O.len_ PySem.boot_len (A0 (pv 0) A2)) A1))))
     (A4 (A5 (B3 (i:=3) scLBent03.nd rfl (Or.inl rfl) (J0 A1a A6 (A8 D6 (A8 D0 (pv 1) A1) A1) (fun _ _=>rfl))))
     (B0 (B7 (J0 V0 (U6 (A0 (A8 B8 (A8 B8 (G4 U4 (pv 0) V2 (G0 (pv 2))) (pv 3)) (G4 U4 (pv 0) (G0 (pv 2)) V2)) (A0 (A8 B8 (G4 U4 (pv 0) V2 (G0 (pv 2))) (G4 U4 (pv 0) (G0 (A8 G6 (pv 2) A1)) V2)) (A0 (A8 B8 (A8 B8 (G4 U4 (pv 0) V2 (G0 (pv 2))) (pv 3)) (G4 U4 (pv 0) (G0 (A8 G6 (pv 2) A1)) V2)) A2)))) (A8 D6 (A8 D0 (pv 1) A1) A1) (fun _ _=>rfl)))))),?_⟩
   have e1:=Int.emod_nonneg c (show((S l).length:Int)+1≠0 by omega)
   have e2:=Int.emod_lt_of_pos c (show(0:Int)<((S l).length:Int)+1 by omega)
   refine⟨fun σ' H'=>H'=H/\∃a:Nat,a<=l.length/\σ'=[some (.str (S l)),some (.int c),some (.int (a:Int)),none],?_,?_⟩
   . refine⟨_,rfl,_,rfl,_,rfl,A3 (by omega),_,_,rfl,rfl,_,_,rfl,rfl,(by show(0:Int)<((S l).length:Int)+1;omega),rfl,?_⟩
     obtain⟨a,ea⟩:=Int.eq_ofNat_of_zero_le e1
     exact⟨a,by omega,by rw[<-ea];rfl⟩
   rintro σ' H1 ⟨rfl,a,ha,rfl⟩
   have n46:bentS.length=46:=by decide+kernel
   have asb:∀q∈bentS.cps.toList,q<128:=by decide+kernel
   refine⟨fun σ' H'=>H'=H1/\∃y,Tx 1 y/\σ'=[some (.str (S l)),some (.int c),some (.int (a:Int)),some (.str y)],?_,?_⟩
   . obtain⟨ch,hch,ix⟩:=ixc (z:=bentS) (i:=c/200 % 46) (Int.emod_nonneg _ (by decide)) (by rw[n46];exact Int.emod_lt_of_pos _ (by decide))
     refine⟨_,rfl,_,_,rfl,rfl,dvI 200 (by decide) (by decide),_,_,rfl,rfl,(by decide:(0:Int)<46),bentS,_,ch,rfl,rfl,by rw[n46];exact A3 (by decide),ix,rfl,⟨#[ch]⟩,?_,rfl⟩
     refine Tx.of (l:=[ch]) (Nat.le_refl 1) fun q hq=>?_
     rw[List.mem_singleton.mp hq]
     exact asb ch hch
   rintro σ' H2 ⟨rfl,y,ty,rfl⟩
   have yl:=ty.len
   have c1:=B0v l a
   have c2:=A0m l a
   have c3:G8 (S l) (some ((a:Int)+1)) none=S (l.drop (a+1)):=A0m l (a+1)
   have t1:Tx a (G8 (S l) none (some (a:Int))):=by
     rw[c1]
     exact Tx.of (by rw[List.length_take];omega) fun q hq=>asc q (List.mem_of_mem_take hq)
   have t2:Tx (l.length-a) (G8 (S l) (some (a:Int)) none):=by
     rw[c2]
     exact Tx.of (by rw[List.length_drop];omega) fun q hq=>asc q (List.mem_of_mem_drop hq)
   have t3:Tx (l.length-a) (G8 (S l) (some ((a:Int)+1)) none):=by
     rw[c3]
     exact Tx.of (by rw[List.length_drop];omega) fun q hq=>asc q (List.mem_of_mem_drop hq)
   have w1:=t1.len
   have w2:=t2.len
   have w3:=t3.len
   have a1:=(t1.app ty).app t2
   have a2:=t1.app t3
   have a3:=(t1.app ty).app t3
   have l1:(G8 (S l) none (some (a:Int))).length+y.length<=sizeLine:=A3 (by omega)
   have l2:((G8 (S l) none (some (a:Int)))++y).length+(G8 (S l) (some (a:Int)) none).length<=sizeLine:=A3 (by rw[strLen_append];omega)
   have l3:((G8 (S l) none (some (a:Int)))++y).length+(G8 (S l) (some ((a:Int)+1)) none).length<=sizeLine:=A3 (by rw[strLen_append];omega)
   have l4:(G8 (S l) none (some (a:Int))).length+(G8 (S l) (some ((a:Int)+1)) none).length<=sizeLine:=A3 (by omega)
   have s1:(G8 (S l) none (some (a:Int))).length<=sizeLine:=A3 (by omega)
   have s2:(G8 (S l) (some (a:Int)) none).length<=sizeLine:=A3 (by omega)
   have s3:(G8 (S l) (some ((a:Int)+1)) none).length<=sizeLine:=A3 (by omega)
   refine⟨_,rfl,_,rfl,_,rfl,_,rfl,s1,_,rfl,_,_,rfl,rfl,l1,_,rfl,_,rfl,_,rfl,_,rfl,s2,_,_,rfl,rfl,l2,?_⟩
   refine⟨_,rfl,_,rfl,_,rfl,_,rfl,s1,_,rfl,_,rfl,_,_,rfl,rfl,_,rfl,_,rfl,s3,_,_,rfl,rfl,l4,?_⟩
   refine⟨_,rfl,_,rfl,_,rfl,_,rfl,s1,_,rfl,_,_,rfl,rfl,l1,_,rfl,_,rfl,_,_,rfl,rfl,_,rfl,_,rfl,s3,_,_,rfl,rfl,l3,z3,fun p np=>?_⟩
   obtain⟨v,hv,ix⟩:=ixt (zs:=[G8 (S l) none (some (a:Int))++y++G8 (S l) (some (a:Int)) none,G8 (S l) none (some (a:Int))++G8 (S l) (some ((a:Int)+1)) none,G8 (S l) none (some (a:Int))++y++G8 (S l) (some ((a:Int)+1)) none]) (i:=c/9600 % 3) (Int.emod_nonneg _ (by decide)) (by show c/9600 % 3<3;exact Int.emod_lt_of_pos _ (by decide))
   refine⟨_,rfl,_,_,rfl,rfl,dvI 9600 (by decide) (by decide),_,_,rfl,rfl,(by decide:(0:Int)<3),p,_,_,_,rfl,rfl,SqL.of A9,ix,k _ _ (Same.upd np) ?_⟩
   simp only[List.mem_cons,List.not_mem_nil,or_false] at hv
   rcases hv with rfl|rfl|rfl
   . exact a1.mono (by omega)
   . exact a2.mono (by omega)
   . exact a3.mono (by omega)
end
section
variable{P:Program}{w:World}{K:Frag}{mg:Str ->Option Value}{base:Heap}
noncomputable abbrev st8 (sc:Addr) (x1 x2 x3 x4 x5 x6 x7 x8:Option V):L2.St:=[some (.ref sc),x1,x2,x3,x4,x5,x6,x7,x8]
noncomputable def A3q (K:Frag):Sp:=fun vs H Q _=>∃(sc:Addr) (ns:List Int),vs=[.ref sc]/\ns.length<=63/\SqL K H sc (ns.map V.int)/\∀z H',Same H H' ->Tx 399 z ->Q (.str z) H'
theorem scLBuilt03:FnScope ["_law_script","_law_cell","_law_word_here","_law_sign","_law_ahead","_law_behind","_law_point","_law_power_here","_law_figures"] ["_law_script"] (A7 A0q):=scK
theorem A6u(D:Def K mg "_law_built" ["_law_script"] A0q f fd)(dA:Def K mg "_law_cell_at" ["_law_script","_law_k"] A6s f1 fd1)(dB:FnOk P w K mg base (CX1 P w) 1 f1 fd1 ["_law_script","_law_k"] (A8p K))(dC:Def K mg "_law_mixed" ["_law_cell","_law_k"] A2e f2 fd2)(dD:FnOk P w K mg base (CX1 P w) 1 f2 fd2 ["_law_cell","_law_k"] A3c)(dE:Def K mg "_law_run" ["_law_cell","_law_most"] A2z f3 fd3)(dF:FnOk P w K mg base (CX1 P w) 2 f3 fd3 ["_law_cell","_law_most"] A7y)(O:Own mg):FnOk P w K mg base (CX1 P w) 3 f fd ["_law_script"] (A3q K):=by
 refine D.F.okE scLBuilt03 (fun vs H Q E h=>?_) (fun X cdv A outer s H vs Q E hX hr hx h=>?_)
 . obtain⟨c,m,rfl,_⟩:=h
   rfl
 . subst hX
   obtain⟨sc,ns,rfl,n63,hS,k⟩:=h
   have z2:2<=sizeLine:=A3 (by decide)
   have z3:3<=sizeLine:=A3 (by decide)
   have z8:8<=sizeLine:=A3 (by decide)
   have em:∀(a b:Int),0<b ->0<=a % b/\a % b<b:=fun a b h=>⟨Int.emod_nonneg _ (by omega),Int.emod_lt_of_pos _ h⟩
   have t0:∀n,Tx n "":=fun n=>Tx.mono (n:=0) ⟨by decide+kernel,by decide+kernel⟩ (Nat.zero_le _)
   refine⟨_,(A4 (A5 (B3 (i:=1) scLBuilt03.nd rfl (Or.inl rfl) (C0 dC dD hr hx (A0 (C0 dA dB hr hx (A0 (pv 0) (A0 A1 A2))) (A0 A1 A2)))))
     (A4 (A5 (B3 (i:=2) scLBuilt03.nd rfl (Or.inl rfl) (J0 V0 (U6 (A0 A6 (A0 A6 (A0 A6 (A0 A6 (A0 A6 (A0 A6 (A0 A6 (A0 A6 A2))))))))) (A8 D6 (pv 1) A1) (fun _ _=>rfl))))
     (A4 (A5 (B3 (i:=3) scLBuilt03.nd rfl (Or.inl rfl) (J0 V0 (U6 (A0 A6 (A0 A6 (A0 A6 A2)))) (A8 D6 (A8 D0 (pv 1) A1) A1) (fun _ _=>rfl))))
     (A4 (A5 (B3 (i:=4) scLBuilt03.nd rfl (Or.inl rfl) (C0 dE dF hr hx (A0 (C0 dC dD hr hx (A0 (C0 dA dB hr hx (A0 (pv 0) (A0 A1 A2))) (A0 A1 A2))) (A0 A1 A2)))))
     (A4 (A5 (B3 (i:=5) scLBuilt03.nd rfl (Or.inl rfl) (C0 dE dF hr hx (A0 (C0 dC dD hr hx (A0 (C0 dA dB hr hx (A0 (pv 0) (A0 A1 A2))) (A0 A1 A2))) (A0 A1 A2)))))
     (A4 (A5 (G7 (B5 U7 (A8 D6 (A8 D0 (pv 1) A1) A1) A1 (B9 _)) (B0 (A5 (B3 (i:=4) scLBuilt03.nd rfl (Or.inl rfl) (A8 Z6 A6 (A8 A0z (A8 G6 A1 (A8 D6 (A8 D0 (pv 1) A1) A1)) (D9 C6 (by rfl) O.len_ PySem.boot_len (A0 (pv 5) A2))))))) C8))
     (A4 (A5 (B3 (i:=6) scLBuilt03.nd rfl (Or.inl rfl) (J0 V0 (U6 (A0 A6 (A0 A6 A2))) (A8 D6 (A8 D0 (pv 1) A1) A1) (fun _ _=>rfl))))
     (A4 (A5 (G7 (B5 U7 (pv 6) A6 (B9 _)) (B0 (A5 (B3 (i:=5) scLBuilt03.nd rfl (Or.inl rfl) A6))) C8))
     (A4 (A5 (B3 (i:=7) scLBuilt03.nd rfl (Or.inl rfl) (J0 V0 (U6 (A0 A6 (A0 A6 (A0 A6 A2)))) (A8 D6 (A8 D0 (pv 1) A1) A1) (fun _ _=>rfl))))
     (A4 (A5 (G7 (B5 B4r (pv 7) A6 (B9 _)) (A4 (A5 (B3 (i:=8) scLBuilt03.nd rfl (Or.inl rfl) (C0 dE dF hr hx (A0 (C0 dC dD hr hx (A0 (C0 dA dB hr hx (A0 (pv 0) (A0 A1 A2))) (A0 A1 A2))) (A0 A1 A2)))))
     (A4 (A5 (G7 (B5 U7 (A8 D6 (A8 D0 (pv 1) A1) A1) A1 (B9 _)) (B0 (A5 (B3 (i:=8) scLBuilt03.nd rfl (Or.inl rfl) (J1 A6c (by rfl) O.str_ boot_str (A0 (A8 G6 (A8 G6 A1 (A8 D6 (A8 D0 (pv 1) A1) A1)) (J0 V0 (U6 (A0 (D9 C6 (by rfl) O.len_ PySem.boot_len (A0 (pv 5) A2)) (A0 (A5k A2d (D9 C6 (by rfl) O.len_ PySem.boot_len (A0 (pv 5) A2))) A2))) (A8 D6 (A8 D6 (A8 D0 (pv 1) A1) A1) A1) (fun _ _=>rfl))) A2))))) C8))
     (B0 (A5 (B3 (i:=7) scLBuilt03.nd rfl (Or.inl rfl) (A8 B8 (A8 B8 (pv 7) (J0 V0 (U6 (A0 A6 (A0 A6 (A0 A6 A2)))) (A8 D6 (A8 D0 (pv 1) A1) A1) (fun _ _=>rfl))) (pv 8))))))) C8))
     (A4 (A5 (G7 (B5 U7 (pv 2) A6 (B9 _)) (B0 (A5 (B3 (i:=2) scLBuilt03.nd rfl (Or.inl rfl) (A8 B8 (A8 B8 (A8 B8 (pv 4) (pv 6)) (pv 5)) (pv 7))))) C8))
     (B0 (B7 (A8 B8 (A8 B8 (A8 B8 (A8 Z6 A6 (A8 D6 (A8 D0 (pv 1) A1) A1)) (pv 3)) (pv 2)) (A8 Z6 A6 (A8 D6 (A8 D0 (pv 1) A1) A1)))))))))))))))),?_⟩
   refine⟨fun σ' H'=>∃c:Int,H'=H/\σ'=st8 sc (some (.int c)) none none none none none none none,⟨_,rfl,sc,ns,_,rfl,hS,by omega,fun c=>⟨c,0,rfl,by decide,by decide,fun m m0 m1=>⟨m,rfl,rfl⟩⟩⟩,?_⟩
   rintro σ' H1 ⟨c,rfl,rfl⟩
   refine⟨fun σ' H'=>Same H1 H'/\∃x2,Tx 240 x2/\σ'=st8 sc (some (.int c)) (some (.str x2)) none none none none none none,?_,?_⟩
   . refine⟨z8,fun l nl=>?_⟩
     obtain⟨v,hv,ix⟩:=ixt (zs:=["","","","","","end","none","END"]) (i:=c % 8) (em _ _ (by decide)).1 (by show c % 8<8;exact(em _ _ (by decide)).2)
     have all:∀v∈(["","","","","","end","none","END"]:List Str),v.length<=4/\∀q∈v.cps.toList,q<128:=by decide+kernel
     exact⟨_,rfl,_,_,rfl,rfl,(by decide:(0:Int)<8),l,_,_,_,rfl,rfl,SqL.of A9,ix,Same.upd nl,v,Tx.mono ⟨(all v hv).1,(all v hv).2⟩ (by decide),rfl⟩
   rintro σ' H2 ⟨s2,x2,t2,rfl⟩
   refine⟨fun σ' H'=>Same H1 H'/\∃x3,Tx 1 x3/\σ'=st8 sc (some (.int c)) (some (.str x2)) (some (.str x3)) none none none none none,?_,?_⟩
   . refine⟨z3,fun l nl=>?_⟩
     obtain⟨v,hv,ix⟩:=ixt (zs:=["","-","+"]) (i:=c/8 % 3) (em _ _ (by decide)).1 (by show c/8 % 3<3;exact(em _ _ (by decide)).2)
     have all:∀v∈(["","-","+"]:List Str),v.length<=1/\∀q∈v.cps.toList,q<128:=by decide+kernel
     exact⟨_,rfl,_,_,rfl,rfl,dvI 8 (by decide) (by decide),_,_,rfl,rfl,(by decide:(0:Int)<3),l,_,_,_,rfl,rfl,SqL.of A9,ix,s2.trans (Same.upd nl),v,⟨(all v hv).1,(all v hv).2⟩,rfl⟩
   rintro σ' H3 ⟨s3,x3,t3,rfl⟩
   refine⟨fun σ' H'=>Same H1 H'/\∃x4,Tx 79 x4/\σ'=st8 sc (some (.int c)) (some (.str x2)) (some (.str x3)) (some (.str x4)) none none none none,⟨_,rfl,sc,ns,_,rfl,s3.seq hS,by omega,fun c'=>⟨c',1,rfl,by decide,by decide,fun m m0 m1=>⟨m,40,rfl,by decide,by decide,fun z H' s' tz=>⟨s3.trans s',z,tz,rfl⟩⟩⟩⟩,?_⟩
   rintro σ' H4 ⟨s4,x4,t4,rfl⟩
   refine⟨fun σ' H'=>Same H1 H'/\∃x5,Tx 79 x5/\σ'=st8 sc (some (.int c)) (some (.str x2)) (some (.str x3)) (some (.str x4)) (some (.str x5)) none none none,⟨_,rfl,sc,ns,_,rfl,s4.seq hS,by omega,fun c'=>⟨c',2,rfl,by decide,by decide,fun m m0 m1=>⟨m,40,rfl,by decide,by decide,fun z H' s' tz=>⟨s4.trans s',z,tz,rfl⟩⟩⟩⟩,?_⟩
   rintro σ' H5 ⟨s5,x5,t5,rfl⟩
   have l5:=t5.len
   refine⟨fun σ' H'=>Same H1 H'/\∃x4,Tx 79 x4/\σ'=st8 sc (some (.int c)) (some (.str x2)) (some (.str x3)) (some (.str x4)) (some (.str x5)) none none none,?_,?_⟩
   . refine⟨_,rfl,_,_,rfl,rfl,dvI 3888 (by decide) (by decide),_,_,rfl,rfl,(by decide:(0:Int)<4),rfl,_,rfl,Y0 (fun h=>?_) (fun h=>⟨s5,x4,t4,rfl⟩)⟩
     have b:=em (c/15552) 3 (by decide)
     have n1:("9":Str).length=1:=by decide+kernel
     refine⟨_,?_,fun _ _ h=>h⟩
     exact⟨_,rfl,_,_,rfl,rfl,dvI 15552 (by decide) (by decide),_,_,rfl,rfl,(by decide:(0:Int)<3),_,_,rfl,rfl,_,rfl,_,rfl,A3 (by omega),_,_,rfl,rfl,_,_,rfl,rfl,by omega,by omega,by rw[n1];exact A3 (by omega),s5,_,Tx.times (n:=79) ⟨by decide+kernel,by decide+kernel⟩ (by omega),rfl⟩
   clear t4 x4
   rintro σ' H6 ⟨s6,x4,t4,rfl⟩
   refine⟨fun σ' H'=>Same H1 H'/\∃x6,Tx 1 x6/\σ'=st8 sc (some (.int c)) (some (.str x2)) (some (.str x3)) (some (.str x4)) (some (.str x5)) (some (.str x6)) none none,?_,?_⟩
   . refine⟨z2,fun l nl=>?_⟩
     obtain⟨v,hv,ix⟩:=ixt (zs:=["","."]) (i:=c/24 % 2) (em _ _ (by decide)).1 (by show c/24 % 2<2;exact(em _ _ (by decide)).2)
     have all:∀v∈(["","."]:List Str),v.length<=1/\∀q∈v.cps.toList,q<128:=by decide+kernel
     exact⟨_,rfl,_,_,rfl,rfl,dvI 24 (by decide) (by decide),_,_,rfl,rfl,(by decide:(0:Int)<2),l,_,_,_,rfl,rfl,SqL.of A9,ix,s6.trans (Same.upd nl),v,⟨(all v hv).1,(all v hv).2⟩,rfl⟩
   rintro σ' H7 ⟨s7,x6,t6,rfl⟩
   refine⟨fun σ' H'=>Same H1 H'/\∃x5,Tx 79 x5/\σ'=st8 sc (some (.int c)) (some (.str x2)) (some (.str x3)) (some (.str x4)) (some (.str x5)) (some (.str x6)) none none,?_,?_⟩
   . refine⟨_,rfl,rfl,_,rfl,Y0 (fun h=>⟨_,?_,fun _ _ h=>h⟩) (fun h=>⟨s7,x5,t5,rfl⟩)⟩
     exact⟨s7,"",t0 _,rfl⟩
   clear t5 l5 x5
   rintro σ' H8 ⟨s8,x5,t5,rfl⟩
   have l5:=t5.len
   refine⟨fun σ' H'=>Same H1 H'/\∃x7,Tx 1 x7/\σ'=st8 sc (some (.int c)) (some (.str x2)) (some (.str x3)) (some (.str x4)) (some (.str x5)) (some (.str x6)) (some (.str x7)) none,?_,?_⟩
   . refine⟨z3,fun l nl=>?_⟩
     obtain⟨v,hv,ix⟩:=ixt (zs:=["","e","E"]) (i:=c/48 % 3) (em _ _ (by decide)).1 (by show c/48 % 3<3;exact(em _ _ (by decide)).2)
     have all:∀v∈(["","e","E"]:List Str),v.length<=1/\∀q∈v.cps.toList,q<128:=by decide+kernel
     exact⟨_,rfl,_,_,rfl,rfl,dvI 48 (by decide) (by decide),_,_,rfl,rfl,(by decide:(0:Int)<3),l,_,_,_,rfl,rfl,SqL.of A9,ix,s8.trans (Same.upd nl),v,⟨(all v hv).1,(all v hv).2⟩,rfl⟩
   rintro σ' H9 ⟨s9,x7,t7,rfl⟩
   refine⟨fun σ' H'=>Same H1 H'/\∃x7 v8,Tx 81 x7/\σ'=st8 sc (some (.int c)) (some (.str x2)) (some (.str x3)) (some (.str x4)) (some (.str x5)) (some (.str x6)) (some (.str x7)) v8,?_,?_⟩
   . refine⟨_,rfl,rfl,_,rfl,?_⟩
     cases hb: !decide (V.str x7=V.str "") with
     |false=>exact U8 ⟨s9,x7,none,t7.mono (by decide),rfl⟩
     | true=>
       refine V7 ?_
       refine⟨fun σ' H'=>Same H1 H'/\∃x8,Tx 79 x8/\σ'=st8 sc (some (.int c)) (some (.str x2)) (some (.str x3)) (some (.str x4)) (some (.str x5)) (some (.str x6)) (some (.str x7)) (some (.str x8)),⟨_,rfl,sc,ns,_,rfl,s9.seq hS,by omega,fun c'=>⟨c',3,rfl,by decide,by decide,fun m m0 m1=>⟨m,2,rfl,by decide,by decide,fun z H' s' tz=>⟨s9.trans s',z,tz,rfl⟩⟩⟩⟩,?_⟩
       rintro σ' H10 ⟨s10,x8,t8,rfl⟩
       refine⟨fun σ' H'=>Same H1 H'/\∃x8,Tx 79 x8/\σ'=st8 sc (some (.int c)) (some (.str x2)) (some (.str x3)) (some (.str x4)) (some (.str x5)) (some (.str x6)) (some (.str x7)) (some (.str x8)),?_,?_⟩
       . refine⟨_,rfl,_,_,rfl,rfl,dvI 46656 (by decide) (by decide),_,_,rfl,rfl,(by decide:(0:Int)<3),rfl,_,rfl,Y0 (fun h=>⟨_,?_,fun _ _ h=>h⟩) (fun h=>⟨s10,x8,t8,rfl⟩)⟩
         have b:=em (c/139968) 5 (by decide)
         obtain⟨v,hv,ix⟩:=ixs (xs:=[(x5.length:Int), -(x5.length:Int)]) (i:=c/144 % 3 % 2) (em _ _ (by decide)).1 (by show c/144 % 3 % 2<2;exact(em _ _ (by decide)).2)
         have hv: -79<=v/\v<=79:=by
           simp only[List.mem_cons,List.not_mem_nil,or_false] at hv
           omega
         refine⟨_,rfl,_,_,rfl,rfl,dvI 139968 (by decide) (by decide),_,_,rfl,rfl,(by decide:(0:Int)<5),_,_,rfl,rfl,_,rfl,_,rfl,A3 (by omega),_,rfl,_,rfl,A3 (by omega),_,rfl,z2,fun l nl=>?_⟩
         refine⟨_,rfl,_,_,rfl,rfl,dvI 144 (by decide) (by decide),_,_,rfl,rfl,(by decide:(0:Int)<3),_,_,rfl,rfl,(by decide:(0:Int)<2),l,_,_,_,rfl,rfl,SqL.of A9,ix,_,_,rfl,rfl,?_⟩
         obtain⟨n,en⟩:=Int.eq_ofNat_of_zero_le (show 0<=198+c/139968 % 5+v by omega)
         have n3:=B7t (n:=n) (k:=3) (by omega) (by decide)
         have nd:=B8j n
         have tn:Tx 79 (Str.ofString (toString (198+c/139968 % 5+v))):=by
           rw[en,C0j n]
           exact Tx.of (by omega) fun q hq=>by have:=nd q hq;omega
         have e20:(2:Nat)^20=1048576:=by decide
         have lg:(198+c/139968 % 5+v).natAbs<2^20:=by omega
         exact⟨_,rfl,Nat.lt_trans (A3m lg (by decide)) (by decide),s10.trans (Same.upd nl),_,tn,rfl⟩
       clear t8 x8
       rintro σ' H11 ⟨s11,x8,t8,rfl⟩
       refine⟨_,?_,fun _ _ h=>h⟩
       refine⟨_,rfl,z3,fun l nl=>?_⟩
       obtain⟨v,hv,ix⟩:=ixt (zs:=["","-","+"]) (i:=c/144 % 3) (em _ _ (by decide)).1 (by show c/144 % 3<3;exact(em _ _ (by decide)).2)
       have all:∀v∈(["","-","+"]:List Str),v.length<=1/\∀q∈v.cps.toList,q<128:=by decide+kernel
       have tv:Tx 1 v:=⟨(all v hv).1,(all v hv).2⟩
       have l7:=t7.len
       have l8:=t8.len
       have lv:=tv.len
       exact⟨_,rfl,_,_,rfl,rfl,dvI 144 (by decide) (by decide),_,_,rfl,rfl,(by decide:(0:Int)<3),l,_,_,_,rfl,rfl,SqL.of A9,ix,_,_,rfl,rfl,A3 (by omega),_,rfl,_,_,rfl,rfl,A3 (by rw[strLen_append];omega),s11.trans (Same.upd nl),_,_,(t7.app tv).app t8,rfl⟩
   clear t7 x7
   rintro σ' H12 ⟨s12,x7,v8,t7,rfl⟩
   have l4:=t4.len
   have l6:=t6.len
   have l7:=t7.len
   refine⟨fun σ' H'=>Same H1 H'/\∃x2,Tx 240 x2/\σ'=st8 sc (some (.int c)) (some (.str x2)) (some (.str x3)) (some (.str x4)) (some (.str x5)) (some (.str x6)) (some (.str x7)) v8,?_,?_⟩
   . refine⟨_,rfl,rfl,_,rfl,Y0 (fun h=>⟨_,?_,fun _ _ h=>h⟩) (fun h=>⟨s12,x2,t2,rfl⟩)⟩
     exact⟨_,rfl,_,rfl,_,_,rfl,rfl,A3 (by omega),_,rfl,_,_,rfl,rfl,A3 (by rw[strLen_append];omega),_,rfl,_,_,rfl,rfl,A3 (by rw[strLen_append,strLen_append];omega),s12,_,((t4.app t6).app t5).app t7,rfl⟩
   clear t2 x2
   rintro σ' H13 ⟨s13,x2,t2,rfl⟩
   have l2:=t2.len
   have l3:=t3.len
   have n1:(" ":Str).length=1:=by decide+kernel
   have b1:=em (c/432) 3 (by decide)
   have b2:=em (c/1296) 3 (by decide)
   have tb1:Tx 2 (Z5 " " (c/432 % 3)):=Tx.times (n:=2) ⟨by decide+kernel,by decide+kernel⟩ (by omega)
   have tb2:Tx 2 (Z5 " " (c/1296 % 3)):=Tx.times (n:=2) ⟨by decide+kernel,by decide+kernel⟩ (by omega)
   have lb1:=tb1.len
   have lb2:=tb2.len
   exact⟨_,rfl,_,_,rfl,rfl,dvI 432 (by decide) (by decide),_,_,rfl,rfl,(by decide:(0:Int)<3),_,_,rfl,rfl,by omega,by omega,by rw[n1];exact A3 (by omega),_,rfl,_,_,rfl,rfl,A3 (by omega),_,rfl,_,_,rfl,rfl,A3 (by rw[strLen_append];omega),_,rfl,_,_,rfl,rfl,dvI 1296 (by decide) (by decide),_,_,rfl,rfl,(by decide:(0:Int)<3),_,_,rfl,rfl,by omega,by omega,by rw[n1];exact A3 (by omega),_,_,rfl,rfl,A3 (by rw[strLen_append,strLen_append];omega),k _ _ s13 ((((tb1.app t3).app t2).app tb2).mono (by decide))⟩
end
noncomputable abbrev A6p:Stmt:=(top 38)
noncomputable def A7w:PyData:= .tuple [.str "text"]
noncomputable def A4g:Option Nm ->PyData
 |none=>A7w
 |some x=>A8k x.k.str x.s x.f x.p
theorem shO(o:Option Nm):SeqAt.shaped (A4g o)=true:=by
 cases o with
 |none=>show SeqAt.shaped A7w=true;decide+kernel
 |some x=>exact shD _ _ _ (okK _)
theorem eqO(o:Option Nm):PyData.eqv (A4g o) (A4g o)=true:=by
 cases o with
 |none=>show PyData.eqv A7w A7w=true;decide+kernel
 |some x=>exact eqD _ _ _ _
theorem A7e{K:Frag}{H:Hp}{d:Addr}{o:Option Nm}(h:H d=some (.tup (C0k o))):RdD K H (.ref d) (A4g o):=by
 cases o with
 |none=>exact .tup (SqT.of h) (.cons (.str _) .nil)
 |some x=>exact rdD h
section
variable{P:Program}{w:World}{K:Frag}{mg:Str ->Option Value}{base:Heap}
noncomputable abbrev st4 (sc:Addr) (x1 x2 x3:Option V):L2.St:=[some (.ref sc),x1,x2,x3]
noncomputable def B1h (K:Frag):Sp:=fun vs H Q _=>∃a ns,vs=[.ref a]/\(ns:List Int).length<=63/\SqL K H a (ns.map V.int)/\∀H',Q (.bl true) H'
theorem scLaw:FnScope ["_law_script","_law_text","_law_more","_law_odd"] ["_law_script"] (A7 A6p):=scK
theorem C0g(D:Def K mg "law" ["_law_script"] A6p f fd)
   (dE:Def K mg "_law_cell_at" ["_law_script","_law_k"] A6s f1 fd1) (dF:FnOk P w K mg base (CX1 P w) 1 f1 fd1 ["_law_script","_law_k"] (A8p K)) (dG:Def K mg "_law_mixed" ["_law_cell","_law_k"] A2e f2 fd2) (dH:FnOk P w K mg base (CX1 P w) 1 f2 fd2 ["_law_cell","_law_k"] A3c)
   (dJ:Def K mg "_law_built" ["_law_script"] A0q f3 fd3) (dL:FnOk P w K mg base (CX1 P w) 3 f3 fd3 ["_law_script"] (A3q K)) (dM:Def K mg "_law_bent" ["_law_text","_law_cell"] A1f f4 fd4) (dN:FnOk P w K mg base (CX1 P w) 1 f4 fd4 ["_law_text","_law_cell"] A4v)
   (dA:Def K mg "_law_read" ["_law_thing"] A1n f5 fd5) (dB:FnOk P w K mg base (CX1 P w) 6 f5 fd5 ["_law_thing"] (A4m K)) (dC:Def K mg "_law_due" ["_law_text"] A2v f6 fd6) (dD:FnOk P w K mg base (CX1 P w) 3 f6 fd6 ["_law_text"] A7m) (T:Kit K):
   FnOk P w K mg base (CX1 P w) 7 f fd ["_law_script"] (B1h K):=by
 refine D.F.okE scLaw (fun vs H Q E h=>?_) (fun X cdv A outer s H vs Q E hX hr hx h=>?_)
 . obtain⟨a,ns,rfl,_⟩:=h
   rfl
 . subst hX
   obtain⟨sc,ns,rfl,n63,hS,kk⟩:=h
   have hu:=hr.units
   have z0:0<=sizeLine:=Nat.zero_le _
   have z1:1<=sizeLine:=A3 (by decide)
   have z8:8<=sizeLine:=A3 (by decide)
   refine⟨_,(A4 (A5 (B3 (i:=1) scLaw.nd rfl (Or.inl rfl) (C0 dJ dL hr hx (A0 (pv 0) A2))))
     (A4 (A5 (G7 (B5 (B4g hr.units) (C0 dA dB hr hx (A0 (pv 1) A2)) (C0 dC dD hr hx (A0 (pv 1) A2)) (B9 _)) (B0 (B7 B1d)) C8))
     (A4 (A5 (B3 (i:=2) scLaw.nd rfl (Or.inl rfl) (C0 dG dH hr hx (A0 (C0 dE dF hr hx (A0 (pv 0) (A0 A1 A2))) (A0 A1 A2)))))
     (A4 (A5 (G7 (B5 U7 (A8 D6 (pv 2) A1) A1 (B9 _)) (B0 (A5 (B3 (i:=1) scLaw.nd rfl (Or.inl rfl) (C0 dM dN hr hx (A0 (pv 1) (A0 (A8 D0 (pv 2) A1) A2)))))) C8))
     (A4 (A5 (G7 (B5 (B4g hr.units) (C0 dA dB hr hx (A0 (pv 1) A2)) (C0 dC dD hr hx (A0 (pv 1) A2)) (B9 _)) (B0 (B7 B1d)) C8))
     (A4 (A5 (B3 (i:=3) scLaw.nd rfl (Or.inl rfl) (J0 V0 (U6 (A0 A0y (A0 A1 (A0 (U6 (A0 A6 A2)) (A0 B1d (A0 (J9 (A0 A6 A2)) (A0 (A5k A2d A1) (A0 B4n (A0 A6 A2))))))))) (A8 D6 (A8 D0 (pv 2) A1) A1) (fun _ _=>rfl))))
     (B0 (B7 (A9n (V5 (B3k hr.units) (C0 dA dB hr hx (A0 (pv 3) A2)) (J9 (A0 A6 A2)) (B9 _)) (A8y (V5 (B3k hr.units) (C0 dA dB hr hx (A0 (pv 1) A2)) (C0 dC dD hr hx (A0 (pv 1) A2)) (B9 _)))))))))))),?_⟩
   refine⟨fun σ' H'=>∃z,Tx 399 z/\Same H H'/\σ'=st4 sc (some (.str z)) none none,⟨_,rfl,sc,ns,rfl,n63,hS,fun z H' s' tz=>⟨z,tz,s',rfl⟩⟩,?_⟩
   rintro σ' H1 ⟨z,tz,s1,rfl⟩
   have rd:∀{z n H'},Tx n z ->n<=400 ->∃l,z=S l/\l.length<=400/\(∀c∈l,c<128)/\Rd0 K H' (.str z) (A2u l):=fun{z n H'} t hn=>by
     obtain⟨l,e,hl,ha⟩:=t.S
     exact⟨l,e,by omega,ha,.inl ⟨l,by rw[e],by omega,ha,rfl⟩⟩
   refine⟨fun σ' H'=>Same H H'/\σ'=st4 sc (some (.str z)) none none,?_,?_⟩
   . obtain⟨l,e,hl,ha,r⟩:=rd (H':=H1) tz (by decide)
     refine⟨_,rfl,_,_,rfl,r,fun t H' s' et=>⟨_,rfl,l,by rw[e];rfl,hl,ha,fun t2 H'' s'' et2=>?_⟩⟩
     refine⟨A4g (A2u l),A4g (A2u l),A7e (s'' _ _ et),A7e et2,shO _,shO _,_,rfl,?_⟩
     rw[if_pos rfl,eqO]
     exact U8 ⟨s1.trans (s'.trans s''),rfl⟩
   rintro σ' H2 ⟨s2,rfl⟩
   refine⟨fun σ' H'=>∃mo:Int,H'=H2/\σ'=st4 sc (some (.str z)) (some (.int mo)) none,⟨_,rfl,sc,ns,_,rfl,s2.seq hS,by omega,fun c=>⟨c,4,rfl,by decide,by decide,fun m m0 m1=>⟨m,rfl,rfl⟩⟩⟩,?_⟩
   rintro σ' H3 ⟨mo,rfl,rfl⟩
   refine⟨fun σ' H'=>∃z,Tx 400 z/\Same H H'/\σ'=st4 sc (some (.str z)) (some (.int mo)) none,?_,?_⟩
   . refine⟨_,rfl,_,_,rfl,rfl,(by decide:(0:Int)<2),rfl,_,rfl,Y0 (fun h=>⟨_,?_,fun _ _ h=>h⟩) (fun h=>⟨z,tz.mono (by decide),s2,rfl⟩)⟩
     exact⟨_,rfl,_,rfl,_,_,rfl,rfl,dvI 2 (by decide) (by decide),z,_,rfl,tz,fun y H' s' ty=>⟨y,ty,s2.trans s',rfl⟩⟩
   clear tz s1 z
   rintro σ' H4 ⟨z,tz,s4,rfl⟩
   refine⟨fun σ' H'=>Same H H'/\σ'=st4 sc (some (.str z)) (some (.int mo)) none,?_,?_⟩
   . obtain⟨l,e,hl,ha,r⟩:=rd (H':=H4) tz (by decide)
     refine⟨_,rfl,_,_,rfl,r,fun t H' s' et=>⟨_,rfl,l,by rw[e];rfl,hl,ha,fun t2 H'' s'' et2=>?_⟩⟩
     refine⟨A4g (A2u l),A4g (A2u l),A7e (s'' _ _ et),A7e et2,shO _,shO _,_,rfl,?_⟩
     rw[if_pos rfl,eqO]
     exact U8 ⟨s4.trans (s'.trans s''),rfl⟩
   rintro σ' H5 ⟨s5,rfl⟩
   refine⟨fun σ' H'=>∃v o,Same H H'/\Rd0 K H' v o/\o=none/\σ'=st4 sc (some (.str z)) (some (.int mo)) (some v),?_,?_⟩
   . refine⟨z1,fun q1 n1=>⟨z1,fun q2 n2=>⟨_,rfl,fun q3 n3=>⟨z8,fun q4 n4=>?_⟩⟩⟩⟩
     have u1:=Same.upd (o:= .lst [.str "1"]) n1
     have u2:=Same.upd (o:= .tup [.str "1"]) n2
     have u3:=Same.upd (o:= .dK []) n3
     have u4:=Same.upd (o:= .lst [.non,.int 5,.ref q1,.bl true,.ref q2,.int (-1),.ref q3,.str ""]) n4
     obtain⟨v,hv,ix⟩:=ixv (xs:=[.non,.int 5,.ref q1,.bl true,.ref q2,.int (-1),.ref q3,.str ""]) (i:=mo/20000 % 8) (Int.emod_nonneg _ (by decide)) (by show mo/20000 % 8<8;exact Int.emod_lt_of_pos _ (by decide))
     refine⟨_,rfl,_,_,rfl,rfl,dvI 20000 (by decide) (by decide),_,_,rfl,rfl,(by decide:(0:Int)<8),q4,_,_,_,rfl,rfl,SqL.of A9,ix,v,none,s5.trans (u1.trans (u2.trans (u3.trans u4))),?_,rfl,rfl⟩
     simp only[List.mem_cons,List.not_mem_nil,or_false] at hv
     rcases hv with rfl|rfl|rfl|rfl|rfl|rfl|rfl|rfl
     . exact .inr ⟨⟨_,C3j,T.NoneType_str⟩,rfl⟩
     . exact .inr ⟨⟨_,A2m _,T.int_str⟩,rfl⟩
     . exact .inr ⟨⟨_,C2r ((u2.trans (u3.trans u4)) _ _ A9),T.list_str⟩,rfl⟩
     . exact .inr ⟨⟨_,C4f _,T.bool_str⟩,rfl⟩
     . exact .inr ⟨⟨_,B8z ((u3.trans u4) _ _ A9),T.tuple_str⟩,rfl⟩
     . exact .inr ⟨⟨_,A2m _,T.int_str⟩,rfl⟩
     . exact .inr ⟨⟨_,C2c (u4 _ _ A9),T.dict_str⟩,rfl⟩
     . exact .inl ⟨[],by rw[<-B3h],Nat.zero_le _,(fun c hc=>nomatch hc),by decide+kernel⟩
   rintro σ' H6 ⟨v,o,s6,r,rfl,rfl⟩
   refine⟨_,rfl,v,none,rfl,r,fun t H' s' et=>⟨z1,fun q nq=>?_⟩⟩
   have u:=Same.upd (o:= .tup [.str "text"]) nq
   refine⟨A7w,A7w,A7e (o:=none) (u _ _ et),A7e (o:=none) A9,shO none,shO none,?_⟩
   rw[if_neg Bool.false_ne_true,show PyData.eqv A7w A7w=true from eqO none]
   refine⟨_,rfl,V7 ?_⟩
   obtain⟨l,e,hl,ha,r⟩:=rd (H':=upd H' q (.tup [.str "text"])) tz (by decide)
   refine⟨_,rfl,_,_,rfl,r,fun t H' s' et=>⟨_,rfl,l,by rw[e];rfl,hl,ha,fun t2 H'' s'' et2=>?_⟩⟩
   refine⟨A4g (A2u l),A4g (A2u l),A7e (s'' _ _ et),A7e et2,shO _,shO _,?_⟩
   rw[if_neg Bool.false_ne_true,eqO]
   exact kk _
end
noncomputable def Fa (K:Frag) (x:Str) (st:Stmt):Prop:=∃(f:Addr) (oc:Value) (od:Option Addr) (osl:Array (Option Value)) (kV doc pm:Value) (an:Option Addr) (cdv ct:Value),nsIn K mainGlobals x=some (some (.ref f))/\K.lookup f=some ⟨oc,od,.func (fnOf x x (G2 st) (D7 st) (A7 st) .none kV doc pm an cdv ct),osl⟩/\codeIn K cdv x=true/\keepIn K (.ref f)=true
theorem Fa.mk{K:Frag}{x:Str}{st:Stmt}{oc:Value}{od an:Option Addr}{osl:Array (Option Value)}{kV doc pm cdv ct:Value}(a:nsIn K mainGlobals x=some (some (.ref f)))(l:K.lookup f=some ⟨oc,od,.func (fnOf x x (G2 st) (D7 st) (A7 st) .none kV doc pm an cdv ct),osl⟩)(c:codeIn K cdv x=true)(k:keepIn K (.ref f)=true):Fa K x st:=
 ⟨_,_,_,_,_,_,_,_,_,_,a,l,c,k⟩
noncomputable def Fb (K:Frag) (C:Addr) (m q:Str) (st:Stmt):Prop:=∃(f:Addr) (oc:Value) (od:Option Addr) (osl:Array (Option Value)) (kV doc pm:Value) (an:Option Addr) (cdv ct:Value),findIn K (.ref C) m=some (some (.ref f))/\isFn K (.ref f)=true/\K.lookup f=some ⟨oc,od,.func (fnOf m q (G2 st) (D7 st) (A7 st) .none kV doc pm an cdv ct),osl⟩/\codeIn K cdv q=true/\keepIn K (.ref f)=true
theorem Fb.mk{K:Frag}{C:Addr}{m q:Str}{st:Stmt}{oc:Value}{od an:Option Addr}{osl:Array (Option Value)}{kV doc pm cdv ct:Value}(a:findIn K (.ref C) m=some (some (.ref f)))(i:isFn K (.ref f)=true)(l:K.lookup f=some ⟨oc,od,.func (fnOf m q (G2 st) (D7 st) (A7 st) .none kV doc pm an cdv ct),osl⟩)(c:codeIn K cdv q=true)(k:keepIn K (.ref f)=true):Fb K C m q st:=
 ⟨_,_,_,_,_,_,_,_,_,_,a,i,l,c,k⟩
theorem Fa.go0{K:Frag}{h:Heap}{mg:Str ->Option Value}{x:Str}{st:Stmt}(u:Fa K x st)(X:K.In h)(G:h.Ns mainGlobals mg)
   (hb:∀(kV doc pm:Value) (an:Option Addr) (cdv ct:Value),bindArgs (fnOf x x (G2 st) (D7 st) (A7 st) .none kV doc pm an cdv ct) ⟨[],[]⟩=pure ([].zip []):=by intros;rfl):∃f fd,Def K mg x [] st f fd:=by
 obtain⟨_,_,_,_,_,_,_,_,_,_,a,l,c,k⟩:=u
 exact⟨_,_,A3y X G a l c k fun kV d p an cd ct us hl=>match us,hl with| [],_=>hb kV d p an cd ct⟩
theorem Fa.go1{K:Frag}{h:Heap}{mg:Str ->Option Value}{x:Str}{p0:Str}{st:Stmt}(u:Fa K x st)(X:K.In h)(G:h.Ns mainGlobals mg)
   (hb:∀(kV doc pm:Value) (an:Option Addr) (cdv ct:Value) (u0:Value),bindArgs (fnOf x x (G2 st) (D7 st) (A7 st) .none kV doc pm an cdv ct) ⟨[u0],[]⟩=pure ([p0].zip [u0]):=by intros;rfl):∃f fd,Def K mg x [p0] st f fd:=by
 obtain⟨_,_,_,_,_,_,_,_,_,_,a,l,c,k⟩:=u
 exact⟨_,_,A3y X G a l c k fun kV d p an cd ct us hl=>match us,hl with| [_],_=>hb kV d p an cd ct _⟩
theorem Fa.go2{K:Frag}{h:Heap}{mg:Str ->Option Value}{x:Str}{p0 p1:Str}{st:Stmt}(u:Fa K x st)(X:K.In h)(G:h.Ns mainGlobals mg)
   (hb:∀(kV doc pm:Value) (an:Option Addr) (cdv ct:Value) (u0 u1:Value),bindArgs (fnOf x x (G2 st) (D7 st) (A7 st) .none kV doc pm an cdv ct) ⟨[u0,u1],[]⟩=pure ([p0,p1].zip [u0,u1]):=by intros;rfl):∃f fd,Def K mg x [p0,p1] st f fd:=by
 obtain⟨_,_,_,_,_,_,_,_,_,_,a,l,c,k⟩:=u
 exact⟨_,_,A3y X G a l c k fun kV d p an cd ct us hl=>match us,hl with| [_,_],_=>hb kV d p an cd ct _ _⟩
theorem Fa.go3{K:Frag}{h:Heap}{mg:Str ->Option Value}{x:Str}{p0 p1 p2:Str}{st:Stmt}(u:Fa K x st)(X:K.In h)(G:h.Ns mainGlobals mg)
   (hb:∀(kV doc pm:Value) (an:Option Addr) (cdv ct:Value) (u0 u1 u2:Value),bindArgs (fnOf x x (G2 st) (D7 st) (A7 st) .none kV doc pm an cdv ct) ⟨[u0,u1,u2],[]⟩=pure ([p0,p1,p2].zip [u0,u1,u2]):=by intros;rfl):∃f fd,Def K mg x [p0,p1,p2] st f fd:=by
 obtain⟨_,_,_,_,_,_,_,_,_,_,a,l,c,k⟩:=u
 exact⟨_,_,A3y X G a l c k fun kV d p an cd ct us hl=>match us,hl with| [_,_,_],_=>hb kV d p an cd ct _ _ _⟩
end TR
namespace TR
open PySem L2 PySem.W PyProof.Rows
theorem all_mk{l:OpenLaw}{w:World}{K:Frag}{h:Heap}{mg:Str ->Option Value}{fa CN A5n C1 C2 C3 C4 C5 CR B5r:Addr}(X:K.In h)(G:h.Ns mainGlobals mg)(hfa:mg "law"=some (.ref fa))
   (bw:Fa K "plain" A6q)
   (cu:Fa K "end" B8k)
   (az:Fa K "nothing" A1t)
   (c6:Fa K "told" B1j)
   (bx:Fa K "need_number" A6e)
   (cx:Fa K "is_between" B2m)
   (a_:Fa K "need_between" A0j)
   (c7:Fa K "read" B1g)
   (bg:Fa K "sign_of" A1u)
   (bh:Fa K "without_sign" A1p)
   (aq:Fa K "plain_read" Z3)
   (b6:Fa K "figures_read" A1q)
   (ar:Fa K "shift_read" Z1)
   (b7:Fa K "need_figures" A0d)
   (bi:Fa K "are_figures" A2y)
   (c8:Fa K "_law_cell_at" A6s)
   (bz:Fa K "_law_mixed" A2e)
   (c9:Fa K "_law_ten" B7j)
   (b_:Fa K "_law_word" A7r)
   (c0:Fa K "_law_read" A1n)
   (cf:Fa K "_law_run" A2z)
   (bj:Fa K "_law_built" A0q)
   (c5:Fa K "_law_bent" A1f)
   (cg:Fa K "_law_number" A1e)
   (bn:Fa K "_law_worth" Y9)
   (ci:Fa K "_law_power" A2x)
   (cj:Fa K "_law_due" A2v)
   {C1h B5p:Option Addr} {C1n:Array (Option Value)} {C1f B5y B5z B6g B0b B5n:Value}
   (B1m:nsIn K mainGlobals "law"=some (some (.ref B5r))) (B5u:K.lookup B5r=some ⟨C1f,C1h,.func (fnOf "law" "law" (G2 A6p) (D7 A6p) (A7 A6p) .none B5y B5z B6g B5p B0b B5n),C1n⟩) (B5t:codeIn K B0b "law"=true) (B5q:keepIn K (.ref B5r)=true)
   (cy:OwnK K)
   (T:Kit K)
   (sn:specialIn K (.builtin "object.__class__") "__get__"=some (some (.builtin "getset_descriptor.__get__")))
   (tk:takesIn K (.builtin "object.__class__")=some true)
   (C1d:nsIn K mainGlobals "Number"=some (some (.ref CN)))
   (B6f:Cls K CN)
   (B6e:makesIn K CN=true)
   (B5x:keepIn K (.ref CN)=true)
   (B6j:findIn K (.ref CN) "__class__"=some (some (.builtin "object.__class__")))
   (B6h:mroIn K CN (.type "object")=some true)
   (A2h:findIn K (.ref CN) "kind"=some none)
   (A2j:findIn K (.ref CN) "sign"=some none)
   (Z9:findIn K (.ref CN) "figures"=some none)
   (A1d:findIn K (.ref CN) "power"=some none)
   (B6a:findIn K (.ref CN) "__init__"=some (some (.ref A5n)))
   (B6c:isFn K (.ref A5n)=true)
   {C1c C1p:Option Addr} {C1b:Array (Option Value)} {C0z C1v C1u C1g B5w C1j:Value} (B6b:K.lookup A5n=some ⟨C0z,C1c,.func (fnOf "__init__" "Number.__init__" (G2 A4h) (D7 A4h) (A7 A4h) .none C1v C1u C1g C1p B5w C1j),C1b⟩)
   (B6d:codeIn K B5w "Number.__init__"=true)
   (B5s:keepIn K (.ref A5n)=true)
   (A6r:kitOne K (.ref CN) (.ref CN)=some true)
   (B5v:nsIn K mainGlobals "BadNumber"=some (some (.ref C1)))
   (B8x:nsIn K mainGlobals "NoText"=some (some (.ref C2)))
   (C1m:nsIn K mainGlobals "BadContext"=some (some (.ref C3)))
   (C1r:nsIn K mainGlobals "BadCount"=some (some (.ref C4)))
   (C1e:nsIn K mainGlobals "Trapped"=some (some (.ref C5)))
   (C1s:nsIn K mainGlobals "ReckonError"=some (some (.ref CR)))
   (cty:typeIn K (.ref CR)=some (.type "type"))
   {dR:ClassData} (ccl:clsIn K CR=some dR)
   (cex:subIn K (.ref CR) (.type "BaseException")=some true)
   (q2:excIn K C2 [.type "ValueError",.type "Exception",.type "BaseException",.type "object"] "ValueError.__new__"=true)
   (sub2:subIn K (.ref C2) (.ref CR)=some true)
   (xga2:findIn K (.ref C2) "__getattribute__"=some (some (.builtin "BaseException.__getattribute__")))
   (xgh2:findIn K (.ref C2) "__getattr__"=some none)
   (xca2:findIn K (.ref C2) "__class__"=some (some (.builtin "object.__class__")))
   (xob2:mroIn K C2 (.type "object")=some true)
   (xbe2:subIn K (.ref C2) (.type "BaseException")=some true)
   {d2:ClassData} (xcl2:clsIn K C2=some d2)
   (C1t:kitOne K (.ref C2) (.ref C1)=some false)
   (C1k:kitOne K (.ref C2) (.ref C2)=some true)
   (C1q:kitOne K (.ref C2) (.ref C3)=some false)
   (C1a:kitOne K (.ref C2) (.ref C4)=some false)
   (C0y:kitOne K (.ref C2) (.ref C5)=some false)
   (hv2:kitOne K (.ref C2) (.type "ValueError")=some true)
   (q1:excIn K C1 [.type "ValueError",.type "Exception",.type "BaseException",.type "object"] "ValueError.__new__"=true)
   (cty1:typeIn K (.ref C1)=some (.type "type"))
   {dR1:ClassData} (ccl1:clsIn K C1=some dR1)
   (cex1:subIn K (.ref C1) (.type "BaseException")=some true)
   (self1:subIn K (.ref C1) (.ref C1)=some true):
   ∃fd:FuncData,(∀(s:Shared) (v:Value),BindsTo s fd ⟨[v],[]⟩ [("_law_script",v)])/\∀base:Heap,K.In base ->base.Ns mainGlobals mg ->FnOk l.prog w K mg base (CX1 l.prog w) 7 fa fd ["_law_script"] (B1h K):=by
 have e:=hfa.symm.trans (mg_of X G B1m)
 cases e
 obtain⟨dq,_,au⟩:=bw.go3 X G
 obtain⟨eh,_,br⟩:=cu.go1 X G
 obtain⟨d3,_,aj⟩:=az.go0 X G
 obtain⟨dz,_,b8⟩:=c6.go1 X G
 obtain⟨dr,_,av⟩:=bx.go1 X G
 obtain⟨ek,_,bt⟩:=cx.go3 X G
 obtain⟨d4,_,ak⟩:=a_.go3 X G
 obtain⟨d_,_,b9⟩:=c7.go1 X G
 obtain⟨db,_,ag⟩:=bg.go1 X G
 obtain⟨dc,_,ah⟩:=bh.go1 X G
 obtain⟨cq,_,ae⟩:=aq.go2 X G
 obtain⟨d8,_,al⟩:=b6.go1 X G
 obtain⟨cr,_,af⟩:=ar.go1 X G
 obtain⟨d9,_,aa⟩:=b7.go1 X G
 obtain⟨de,_,bo⟩:=bi.go1 X G
 obtain⟨e5,_,am⟩:=c8.go2 X G
 obtain⟨du,_,ac⟩:=bz.go2 X G
 obtain⟨e6,_,ba⟩:=c9.go1 X G
 obtain⟨dv,_,aw⟩:=b_.go1 X G
 obtain⟨dw,_,ax⟩:=c0.go1 X G
 obtain⟨e8,_,bc⟩:=cf.go2 X G
 obtain⟨df,_,ao⟩:=bj.go1 X G
 obtain⟨dy,_,ay⟩:=c5.go2 X G
 obtain⟨e9,_,ap⟩:=cg.go2 X G
 obtain⟨dg,_,ai⟩:=bn.go1 X G
 obtain⟨ec,_,bd⟩:=ci.go2 X G
 obtain⟨ef,_,bf⟩:=cj.go1 X G
 have C3q:=A3y (ps:=["_law_script"]) (st:=A6p) X G B1m B5u B5t B5q fun _ _ _ _ _ _ us hl=>match us,hl with| [_],_=>rfl
 have O:Own mg:=cy.go X G
 have bu:=A9k (st:=A4h) B6b B6d B5s
 have C3r:=bu.binds (ps:=["self","kind","sign","figures","power"]) fun _ _ _ _ _ _ us hl=>match us,hl with| [_,_,_,_,_],_=>rfl
 have C4v:Mk K CN A5n:=⟨B6e,B6a,B6c,B5x⟩
 have N:Num K mg CN:=⟨mg_of X G C1d,B6f,A2h,A2j,Z9,A1d,B6j,sn,tk,B6h,A6r⟩
 have xk2:ExcK K C2:=⟨xga2,xgh2,xca2,sn,tk,xob2,xbe2,by rw[xcl2];rfl⟩
 have B:Err K mg "BadNumber" C1:=⟨mg_of X G B5v,q1⟩
 have B2:Err K mg "NoText" C2:=⟨mg_of X G B8x,q2⟩
 have ES:ErrsN mg C1 C2 C3 C4 C5:=⟨mg_of X G B5v,mg_of X G B8x,mg_of X G C1m,mg_of X G C1r,mg_of X G C1e⟩
 have C:Caught3 K mg CR C1 C2 C3 C4 C5:=⟨mg_of X G C1s,⟨cty,by rw[ccl];rfl,cex⟩,sub2,⟨xk2,C1t,C1k,C1q,C1a,C0y,hv2⟩⟩
 have TN:Turned K mg C1:=⟨mg_of X G B5v,⟨cty1,by rw[ccl1];rfl,cex1⟩,self1⟩
 refine⟨fnOf "law" "law" (G2 A6p) (D7 A6p) (A7 A6p) .none B5y B5z B6g B5p B0b B5n,fun s v=> .of_eq rfl,fun base _ _=>?_⟩
 have M:MakeN l.prog w K mg base CN A5n _:=⟨C4v,B6r bu N,C3r⟩
 have eg:=A7x (P:=l.prog) (w:=w) (base:=base) av O T B N
 have cz:=B7b (P:=l.prog) (w:=w) (base:=base) b8 av O T B N
 have cm:=B5h (P:=l.prog) (w:=w) (base:=base) au ak bt O T B N M
 have dh:=C0a (P:=l.prog) (w:=w) (base:=base) br ak bt O T B N M
 have bp:=A8t (P:=l.prog) (w:=w) (base:=base) aj N M
 have Gsg:=B1v (P:=l.prog) (w:=w) (base:=base) ag
 have Gns:=B1p (P:=l.prog) (w:=w) (base:=base) ah
 have Gnf:=A9t (P:=l.prog) (w:=w) (base:=base) aa bo B2
 have Gfr:=A8u (P:=l.prog) (w:=w) (base:=base) al aa Gnf B2 O
 have Gsh:=A6m (P:=l.prog) (w:=w) (base:=base) af aa Gnf ah Gns ag Gsg B2 O
 have Gpr:=A5x (P:=l.prog) (w:=w) (base:=base) ae al Gfr af Gsh au cm TN B2 O T
 have Grd:=B6p (P:=l.prog) (w:=w) (base:=base) b9 aj bp ah Gns ag Gsg br dh ae Gpr B2 O T
 have bv:=B6y (P:=l.prog) (w:=w) (base:=base) am O
 have bq:=B3y (P:=l.prog) (w:=w) (base:=base) ac
 have dj:=B9v (P:=l.prog) (w:=w) (base:=base) ba O
 have c_:=B7g (P:=l.prog) (w:=w) (base:=base) aw O T ES
 have cn:=B3c (P:=l.prog) (w:=w) (base:=base) ap O
 have Gwo:=A7t (P:=l.prog) (w:=w) (base:=base) ai
 have dk:=B1n (P:=l.prog) (w:=w) (base:=base) bd ap cn ai Gwo O
 have dm:=B2k (P:=l.prog) (w:=w) (base:=base) bf ap cn ai Gwo bd dk ba dj O
 have Gre:=A8d (P:=l.prog) (w:=w) (base:=base) ax b8 cz b9 Grd aw c_ C O T
 have dn:=B2e (P:=l.prog) (w:=w) (base:=base) bc ac bq O
 have d0:=A9h (P:=l.prog) (w:=w) (base:=base) ay O
 have Gbu:=A6u (P:=l.prog) (w:=w) (base:=base) ao am bv ac bq bc dn O
 exact C0g C3q am bv ac bq ao Gbu ay d0 ax Gre bf dm T
theorem walk{l:OpenLaw}{q:Program}{loose:List Str}{XP:(Str ->Option Value) ->Heap ->Prop}{YP:World ->Heap ->Prop}{d:DefRec}{K:Params ->Frag}(hn:l.most=some 63)(hdf:d.params.defaults=[])
   (hY:∀(w:World) (h:Heap),YP w h ->(K w.params).In h)
   (F:∀(w:World) (mg:Str ->Option Value) (fa:Addr) (h:Heap),(K w.params).In h ->h.Ns mainGlobals mg ->mg d.name=some (.ref fa) ->
     ∃fd:FuncData,(∀(s:Shared) (u:Value),BindsTo s fd ⟨[u],[]⟩ [("_law_script",u)])/\∀base:Heap,(K w.params).In base ->base.Ns mainGlobals mg ->FnOk l.prog w (K w.params) mg base (CX1 l.prog w) 7 fa fd ["_law_script"] ((B1h (K w.params)))):
   WalkO q loose XP YP l.row.toRowW d [] (fun f vs=>PySem.call f vs):=
 L2.walk_of (n:=63) (k:=7) (x:="_law_script") (CX:=fun w=>CX1 l.prog w) (sp:=fun w=>(B1h (K w.params))) hn (by decide) hdf ⟨rfl,by decide,by decide⟩ hY F (fun _ _ a ns hl _ hS=>⟨a,ns,rfl,hl,hS,fun _=>rfl⟩) fun _ _ _ _ _ z=>by
   obtain⟨_,_,_,_,_,_,_,_,_,_,z,_⟩:=z
   exact z
end TR
open PySem PySem.W PyProof.Rows
set_option maxRecDepth 100000 in
set_option maxHeartbeats 0 in
theorem PySem.Challenge.cw_tenreckon_k03_texts_read_holds : PySem.Challenge.rw_tenreckon_k03_texts_read.Holds := by
 w_on; o_law; k_head; (case hw => w_witness2)
 k_fill
 refine TR.walk (l := PySem.Challenge.rw_tenreckon_k03_texts_read) rfl rfl (fun w h Y => PySem.W.kIn_of Y) ?F
 case F =>
   intro w mg fa h KX G hmg
   refine' TR.all_mk KX G hmg ?Zbw ?Zcu ?Zaz ?Zc6 ?Zbx ?Zcx ?Za_ ?Zc7 ?Zbg ?Zbh ?Zaq ?Zb6 ?Zar ?Zb7 ?Zbi ?Zc8 ?Zbz ?Zc9 ?Zb_ ?Zc0 ?Zcf ?Zbj ?Zc5 ?Zcg ?Zbn ?Zci ?Zcj ?ZB1m ?ZB5u ?ZB5t ?ZB5q ?Zcy ?ZT ?Zsn ?Ztk ?ZC1d ?ZB6f ?ZB6e ?ZB5x ?ZB6j ?ZB6h ?ZA2h ?ZA2j ?ZZ9 ?ZA1d ?ZB6a ?ZB6c ?ZB6b ?ZB6d ?ZB5s ?ZA6r ?ZB5v ?ZB8x ?ZC1m ?ZC1r ?ZC1e ?ZC1s ?Zcty ?Zccl ?Zcex ?Zq2 ?Zsub2 ?Zxga2 ?Zxgh2 ?Zxca2 ?Zxob2 ?Zxbe2 ?Zxcl2 ?ZC1t ?ZC1k ?ZC1q ?ZC1a ?ZC0y ?Zhv2 ?Zq1 ?Zcty1 ?Zccl1 ?Zcex1 ?Zself1
   case Zbw|Zcu|Zaz|Zc6|Zbx|Zcx|Za_|Zc7|Zbg|Zbh|Zaq|Zb6|Zar|Zb7|Zbi|Zc8|Zbz|Zc9|Zb_|Zc0|Zcf|Zbj|Zc5|Zcg|Zbn|Zci|Zcj => (refine' TR.Fa.mk ?a ?l ?c ?k; (case a => k_is); (case l => k_is); (case c => k_is); (case k => k_is))
   case ZB1m|ZB5u|ZB5t|ZB5q => k_is
   case Zcy => constructor <;> k_is
   case ZT => constructor <;> kit_is
   case Zsn|Ztk|ZC1d => k_is
   case ZB6f => constructor <;> k_is
   case ZB6e|ZB5x|ZB6j|ZB6h|ZA2h|ZA2j|ZZ9|ZA1d|ZB6a|ZB6c|ZB6b|ZB6d|ZB5s => k_is
   case ZA6r => kit_is
   case ZB5v|ZB8x|ZC1m|ZC1r|ZC1e|ZC1s|Zcty|Zccl|Zcex => k_is
   case Zq2 => k_exc
   case Zsub2|Zxga2|Zxgh2|Zxca2|Zxob2|Zxbe2|Zxcl2 => k_is
   case ZC1t|ZC1k|ZC1q|ZC1a|ZC0y|Zhv2 => kit_is
   case Zq1 => k_exc
   case Zcty1|Zccl1|Zcex1|Zself1 => k_is

