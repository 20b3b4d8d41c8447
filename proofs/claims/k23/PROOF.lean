import PyProof.Rows.All
import Wide.All
import OpenK.KLine
import OpenK.KOwn
import KE.RegKIsAll
import KE.KItem
import KE.LcSums
import KE.KPairTest
import Wide.FinOn
import Lean
import PyProof.EqAt
import PyProof.EqKinds
import PyProof.TupleCall
import PyProof.Rows.Catch
import PyProof.Rows.TupIter
import PyProof.TupleIter
import PyProof.Seq
import PyProof.ExcInit
import PyProof.ExcClass2
import KE.KIntText
import PyProof.StrOps2
import PyProof.ConsumeWalk
import PyProof.Rows.RuleM_int
import PyProof.ZipIter
import PyProof.EnumMake
import PyProof.Rows.TupAssign
import PyProof.Rows.Range3
import PyProof.DictWalks
import PyProof.DictUpdate
import PyProof.P3In
import PySem.Challenge.RW_tenreckon_k23_roots
set_option Elab.async false
set_option linter.all false
set_option maxRecDepth 100000
theorem L2.hideG{α β:Type}{I Z:α ->β ->Prop}(h:∀Z',Z'=Z ->∀a b,I a b ->Z' a b):∀a b,I a b ->Z a b:=h Z rfl
namespace L2
open PySem PySem.Spec PyProof.Rows
noncomputable abbrev Key:=Sum Int Str
noncomputable def B2u:Key ->Value ->Bool
 | .inl k,v=>Value.isInt k v
 | .inr x,v=>Value.isStrOf x v
noncomputable def G9b (w:World):Key ->Int
 | .inl k=>hashInt k
 | .inr x=>hashStr w x
theorem Y9:∀{k:Key} {v:Value},B2u k v=true ->(∃i t,k=Sum.inl i/\v=Value.int i t)\/(∃x t,k=Sum.inr x/\v=Value.str x t)
 | .inl i,v,h=>by
   obtain⟨t,e⟩:=Value.isInt_shape (k:=i) (v:=v) h
   exact .inl ⟨i,t,rfl,e⟩
 | .inr x,v,h=>by
   obtain⟨t,e⟩:=Value.isStrOf_shape (x:=x) (v:=v) h
   exact .inr ⟨x,t,rfl,e⟩
theorem C4s(i:Int)(t:Tok):B2u (.inl i) (.int i t)=true:=by simp[B2u,Value.isInt]
theorem C5d(x:Str)(t:Tok):B2u (.inr x) (.str x t)=true:=by simp[B2u,Value.isStrOf]
theorem G1d(a b:Int):decide ((Sum.inl a:Key)=Sum.inl b)=(a==b):=by
 by_cases e:a=b
 . subst e;simp
 have h:¬(Sum.inl a:Key)=Sum.inl b:=fun q=>e (Sum.inl.inj q)
 rw[decide_eq_false h]
 exact(beq_eq_false_iff_ne.mpr e).symm
theorem G0j(a b:Str):decide ((Sum.inr a:Key)=Sum.inr b)=decide (a=b):=by
 by_cases e:a=b
 . subst e;simp
 have h:¬(Sum.inr a:Key)=Sum.inr b:=fun q=>e (Sum.inr.inj q)
 rw[decide_eq_false h,decide_eq_false e]
theorem G1h(a:Int)(b:Str):decide ((Sum.inl a:Key)=Sum.inr b)=false:=decide_eq_false (fun q=>nomatch q)
theorem G1r(a:Str)(b:Int):decide ((Sum.inr a:Key)=Sum.inl b)=false:=decide_eq_false (fun q=>nomatch q)
noncomputable def A0c (prog:Program) (w:World):PySem.KeyKind prog w Key where
 is:=B2u
 hash:=G9b w
 inj :=fun v a b ha hb=>by
   rcases Y9 ha with⟨i,t,rfl,rfl⟩|⟨x,t,rfl,rfl⟩
   . rcases Y9 hb with⟨j,u,rfl,e⟩|⟨y,u,rfl,e⟩
     . injection e with e1 _;rw[e1]
     . exact nomatch e
   . rcases Y9 hb with⟨j,u,rfl,e⟩|⟨y,u,rfl,e⟩
     . exact nomatch e
     . injection e with e1 _;rw[e1]
 byValue:=fun k v h=>by
   rcases Y9 h with⟨i,t,rfl,rfl⟩|⟨x,t,rfl,rfl⟩<;>rfl
 pyHash:=fun hv h=>by
   rcases Y9 hv with⟨i,t,rfl,rfl⟩|⟨x,t,rfl,rfl⟩
   . exact wpAny_pyHash_int h
   . exact wpAny_pyHash_str h
 eqBool:=fun hu hv h=>by
   rcases Y9 hu with⟨i,t,rfl,rfl⟩|⟨x,t,rfl,rfl⟩
   . rcases Y9 hv with⟨j,u,rfl,rfl⟩|⟨y,u,rfl,rfl⟩
     . rw[G1d] at h;exact wpAny_eqBool_int h
     . rw[G1h] at h;exact SeqAt.EqAt.int_str i t y u _ _ _ _ h
   . rcases Y9 hv with⟨j,u,rfl,rfl⟩|⟨y,u,rfl,rfl⟩
     . rw[G1r] at h;exact SeqAt.EqAt.str_int x t j u _ _ _ _ h
     . rw[G0j] at h;exact wpAny_eqBool_str h
 «strs» := fun k x t v h => by
   rcases Y9 h with⟨i,u,rfl,e⟩|⟨y,u,rfl,e⟩
   . exact nomatch e
   . injection e with e1 _
     subst e1
     cases v<;>rfl
theorem B6s(prog:Program)(w:World)(i:Int)(t:Tok):(A0c prog w).is (.inl i) (.int i t)=true:=C4s i t
theorem B6z(prog:Program)(w:World)(x:Str)(t:Tok):(A0c prog w).is (.inr x) (.str x t)=true:=C5d x t
inductive V where
 |non|bl (b:Bool)|int (i:Int)|str (x:Str)|byt (b:Array UInt8)|flt (b:UInt64)|ref (a:Addr)|ty (n:String)
 deriving DecidableEq
noncomputable def V0:V ->Value ->Prop
 | .non,u=>u=Value.none
 | .bl b,u=>u=Value.bool b
 | .int i,u=>∃t,u=Value.int i t
 | .str x,u=>∃t,u=Value.str x t
 | .byt b,u=>∃t,u=Value.bytes b t
 | .flt b,u=>∃t,u=Value.float b t
 | .ref a,u=>u=Value.ref a
 | .ty n,u=>u=Value.type n
noncomputable abbrev G7:List V ->List Value ->Prop:=Paired V0
theorem G7.length{xs:List V}{us:List Value}(r:G7 xs us):xs.length=us.length:=Paired.length r
theorem G7.get:∀{xs:List V} {us:List Value} {i:Nat} {x:V},G7 xs us ->xs[i]?=some x ->∃u,us[i]?=some u/\V0 x u
 |_,_,_,_,.nil,e=>by simp at e
 |_,_,0,_,.cons r _,e=>by simp at e;subst e;exact⟨_,rfl,r⟩
 | _,_,i+1,x,.cons _ t,e=>by
   obtain⟨u,h1,h2⟩:=G7.get (i:=i) (x:=x) t (by simpa using e)
   exact⟨u,by simpa using h1,h2⟩
theorem G7.append:∀{xs ys:List V} {us ws:List Value},G7 xs us ->G7 ys ws ->G7 (xs++ys) (us++ws)
 |_,_,_,_,.nil,s=>s
 |_,_,_,_,.cons r t,s=> .cons r (G7.append t s)
theorem G7.take:∀{xs:List V} {us:List Value} (n:Nat),G7 xs us ->G7 (xs.take n) (us.take n)
 |_,_,0,_=> .nil
 |_,_,_+1,.nil=> .nil
 |_,_,n+1,.cons r t=> .cons r (G7.take n t)
theorem G7.drop:∀{xs:List V} {us:List Value} (n:Nat),G7 xs us ->G7 (xs.drop n) (us.drop n)
 |_,_,0,r=>r
 |_,_,_+1,.nil=> .nil
 |_,_,n+1,.cons _ t=>G7.drop n t
noncomputable def A4b:Option V ->Option Value ->Prop
 |some v,some u=>V0 v u
 |none,none=>True
 |_,_=>False
noncomputable def KV {κ:Type}:List (κ×V) ->List (κ×Value) ->Prop:=Paired fun(p:κ×V) (q:κ×Value)=>p.1=q.1/\V0 p.2 q.2
noncomputable def kV:Key ->V
 | .inl i=> .int i
 | .inr x=> .str x
inductive HO where
 |lst (xs:List V)
 |tup (xs:List V)
 |dK (kvs:List (Key×V))|dT (kvs:List (List Key×V))
 |set (S:Int ->Bool) (n:Nat)
 |ins (C dx:Addr) (fs:List (Str×V))
 |own (x:Addr)
 |xd (fs:List (Str×V))
 |met (f x:Addr)
 |rng (lo hi:Int)
 |frz (o:Obj) (u:HO)
 |tbl (ps:Array Value)
 |ext (φ:Heap ->Prop)
noncomputable abbrev Hp:=Addr ->Option HO
noncomputable def upd (H:Hp) (a:Addr) (o:HO):Hp:=fun b=>if b=a then some o else H b
theorem A6{H:Hp}{a:Addr}{o:HO}:upd H a o a=some o:=by unfold upd;rw[if_pos rfl]
theorem C7{H:Hp}{a b:Addr}{o:HO}(h:b≠a):upd H a o b=H b:=by unfold upd;rw[if_neg h]
theorem D6b{H:Hp}{a:Addr}{o u:HO}:upd (upd H a o) a u=upd H a u:=by
 funext b;unfold upd;split<;>rfl
theorem U4{H:Hp}{a b:Addr}{o u:HO}(h:H a=some o)(h':H b=some u)(d:o≠u):a≠b:=by
 intro e;subst e;rw[h] at h';exact d (Option.some.inj h')
theorem D9{H:Hp}{a b:Addr}{o:HO}(h:H a=some o)(h':H b=none):a≠b:=by
 intro e;subst e;rw[h] at h';cases h'
section
variable(P:Program)(w:World)
noncomputable def Y7 (H:Hp) (h:Heap) (a:Addr):HO ->Prop
 | .lst xs=>xs.length<=sizeLine/\∃(its:List Value) (n:Nat),G7 xs its/\h.get? a=some {cls:= .type "list",data:= .seq its.toArray n}
 | .tup xs=>xs.length<=sizeLine/\∃its:List Value,G7 xs its/\IsTup h a its.toArray
 | .dK kvs=>kvs.length<=sizeLine/\(a==sysModules)=false/\∃vs,KV kvs vs/\h.DictOf (A0c P w) a vs
 | .dT kvs=>kvs.length<=sizeLine/\(a==sysModules)=false/\∃xs:List (List Key×Addr×Value),
     Paired (fun(p:List Key×V) (q:List Key×Addr×Value)=>p.1=q.1/\H q.2.1=some (.tup (p.1.map kV))/\V0 p.2 q.2.2) kvs xs/\
     ∃o es ep,h.get? a=some o/\o.ExactDict/\o.data= .dict es ep/\es.toList=xs.map (entryOfKey (tupleKind (A0c P w)))/\(xs.map (·.1)).Nodup
 | .set S n=>h.SetOf (intKind P w) a S n
 | .ins C dx fs=>H dx=some (.own a)/\fs.length<=1000/\dx≠a/\h.get? a=some (PySem.W.instObj C dx)/\
     ∃mA,h.Ns1 dx mA/\(∀f,A4b (fs.lookup f) (mA f))/\PySem.Within mA (fs.map (·.1))
 | .own _=>∃o,h.get? a=some o
 | .xd fs=>∃mA,h.Ns1 a mA/\∀f,A4b (fs.lookup f) (mA f)
 | .rng lo hi=>∃t u v,h.get? a=some {cls:= .type "range",data:= .fields #[.int lo t,.int hi u,.int 1 v]}
 | .frz o u=>h.get? a=some o/\Y7 H h a u
 | .tbl ps=>h.get? a=some {cls:= .none,data:= .fields ps}
 | .met f x=>h.get? a=some (PySem.W.methodObj (.ref f) (.ref x))
 | .ext φ=>φ h/\(∃o,h.get? a=some o)/\∀h1 h2:Heap,φ h1 ->(∀o,h1.get? a=some o ->h2.get? a=some o) ->φ h2
noncomputable def HOk (H:Hp) (h:Heap):Prop:=∀a o,H a=some o ->Y7 P w H h a o
end
section
variable{P:Program}{w:World}{H H':Hp}{h h':Heap}{a:Addr}{o:HO}
theorem Y7.lt(x:Y7 P w H h a o):a<h.objs.size:=by
 cases o with
 |lst xs=>obtain⟨_,_,_,_,e⟩:=x;exact Heap.lt_size e
 |tup xs=>obtain⟨_,_,_,p⟩:=x;exact p.lt
 |dK kvs=>obtain⟨_,_,_,_,o,_,_,e,_⟩:=x;exact Heap.lt_size e
 |dT kvs=>obtain⟨_,_,_,_,o,_,_,e,_⟩:=x;exact Heap.lt_size e
 |set S n=>obtain⟨o,_,_,_,e,_⟩:=x;exact Heap.lt_size e
 |ins C dx fs=>obtain⟨_,_,_,e,_⟩:=x;exact Heap.lt_size e
 |own y=>obtain⟨_,e⟩:=x;exact Heap.lt_size e
 |xd fs=>obtain⟨_,⟨_,_,_,e,_⟩,_⟩:=x;exact Heap.lt_size e
 |rng lo hi=>obtain⟨_,_,_,e⟩:=x;exact Heap.lt_size e
 |frz ob u=>obtain⟨e,_⟩:=x;exact Heap.lt_size e
 |tbl ps=>exact Heap.lt_size (show h.get? a=some _ from x)
 |met f y=>exact Heap.lt_size (show h.get? a=some _ from x)
 |ext φ=>obtain⟨_,⟨_,e⟩,_⟩:=x;exact Heap.lt_size e
theorem Paired.mapP{α β:Type}{F G:α ->β ->Prop}:∀{l₁:List α} {l₂:List β},Paired F l₁ l₂ ->(∀a b,F a b ->G a b) ->Paired G l₁ l₂
 |_,_,.nil,_=> .nil
 |_,_,.cons r t,f=> .cons (f _ _ r) (Paired.mapP t f)
theorem Y7.stay(x:Y7 P w H h a o)(k:∀b u,(b=a\/H b=some (.own a)) ->h.get? b=some u ->h'.get? b=some u)
   (ho:∀b,H b=some (.own a) ->H' b=some (.own a)) (ht:∀b xs,H b=some (.tup xs) ->H' b=some (.tup xs)):Y7 P w H' h' a o:=by
 induction o with
 |lst xs=>obtain⟨z,its,n,r,e⟩:=x;exact⟨z,its,n,r,k _ _ (.inl rfl) e⟩
 |tup xs=>obtain⟨z,its,r,ob,e,c⟩:=x;exact⟨z,its,r,ob,k _ _ (.inl rfl) e,c⟩
 |dK kvs=>obtain⟨z,y,vs,r,ob,es,ep,e,c⟩:=x;exact⟨z,y,vs,r,ob,es,ep,k _ _ (.inl rfl) e,c⟩
 | dT kvs=>
   obtain⟨z,y,xs,r,ob,es,ep,e,c⟩:=x
   exact⟨z,y,xs,Paired.mapP r fun p q z=>⟨z.1,ht _ _ z.2.1,z.2.2⟩,ob,es,ep,k _ _ (.inl rfl) e,c⟩
 |set S n=>obtain⟨ob,es,ep,t,e,c⟩:=x;exact⟨ob,es,ep,t,k _ _ (.inl rfl) e,c⟩
 | ins C dx fs=>
   obtain⟨d,z,ne,e,mA,⟨od,es,ep,e2,c⟩,r⟩:=x
   exact⟨ho _ d,z,ne,k _ _ (.inl rfl) e,mA,⟨od,es,ep,k _ _ (.inr d) e2,c⟩,r⟩
 |own y=>obtain⟨ob,e⟩:=x;exact⟨ob,k _ _ (.inl rfl) e⟩
 |xd fs=>obtain⟨mA,⟨od,es,ep,e,c⟩,r⟩:=x;exact⟨mA,⟨od,es,ep,k _ _ (.inl rfl) e,c⟩,r⟩
 |rng lo hi=>obtain⟨t,u,v,e⟩:=x;exact⟨t,u,v,k _ _ (.inl rfl) e⟩
 |frz ob u ih=>obtain⟨e,q⟩:=x;exact⟨k _ _ (.inl rfl) e,ih q⟩
 | tbl ps=>
   have e:h.get? a=some {cls:= .none,data:= .fields ps}:=x
   show h'.get? a=some {cls:= .none,data:= .fields ps}
   exact k a _ (.inl rfl) e
 | met f y=>
   have e:h.get? a=some (PySem.W.methodObj (.ref f) (.ref y)):=x
   show h'.get? a=some (PySem.W.methodObj (.ref f) (.ref y))
   exact k a _ (.inl rfl) e
 |ext φ=>obtain⟨p,⟨o,e⟩,st⟩:=x;exact⟨st _ _ p fun o q=>k _ _ (.inl rfl) q,⟨o,k _ _ (.inl rfl) e⟩,st⟩
theorem HOk.lt(x:HOk P w H h)(e:H a=some o):a<h.objs.size:=(x a o e).lt
theorem HOk.fresh(x:HOk P w H h)(e:h.objs.size<=a):H a=none:=by
 cases q:H a with
 |none=>rfl
 |some u=>exact absurd (Nat.lt_of_lt_of_le (x.lt q) e) (Nat.lt_irrefl _)
theorem HOk.kept(x:HOk P w H h)(k:∀b u,h.get? b=some u ->h'.get? b=some u):HOk P w H h':=fun a o e=>
 (x a o e).stay (fun b u _ q=>k b u q) (fun _ q=>q) fun _ _ q=>q
theorem HOk.laid(x:HOk P w H h)(k:∀b u,h.get? b=some u ->h'.get? b=some u)(hp:h.objs.size<=a)(new:Y7 P w (upd H a o) h' a o):HOk P w (upd H a o) h':=fun b u e=>by
 have hn:=x.fresh hp
 by_cases hb:b=a
 . subst hb;rw[A6] at e;cases e;exact new
 . rw[C7 hb] at e
   exact(x b u e).stay (fun c v _ q=>k c v q) (fun c q=>by rw[C7 (D9 q hn)];exact q) fun c xs q=>by rw[C7 (D9 q hn)];exact q
end
noncomputable def Rd (H:Hp) (a:Addr) (u:HO):Prop:=H a=some u\/∃o,H a=some (.frz o u)
theorem Rd.ok{P:Program}{w:World}{H:Hp}{h:Heap}{a:Addr}{u:HO}(r:Rd H a u)(x:HOk P w H h):Y7 P w H h a u:=by
 rcases r with r|⟨o,r⟩
 . exact x a u r
 obtain⟨_,q⟩:=x a _ r
 exact q
noncomputable def Mut:Option HO ->Prop
 |some (.lst _)=>True
 |some (.dK _)=>True
 |some (.dT _)=>True
 |some (.set _ _)=>True
 |some (.ins _ _ _)=>True
 |some (.ext _)=>True
 |_=>False
section
variable{P:Program}{w:World}{H:Hp}{h h':Heap}{x e:Addr}{o':HO}
theorem HOk.write(ok:HOk P w H h)(mu:Mut (H x))(he:e=x\/H e=some (.own x))(k:∀b u,b≠e ->h.get? b=some u ->h'.get? b=some u)(heo:∃u,h'.get? e=some u)
   (new:Y7 P w (upd H x o') h' x o'):HOk P w (upd H x o') h':=fun b u q=>by
 have nown:∀c y,H c=some (.own y) ->c≠x:=fun c y r z=>by subst z;rw[r] at mu;exact mu
 have ntup:∀c xs,H c=some (.tup xs) ->c≠x:=fun c xs r z=>by subst z;rw[r] at mu;exact mu
 by_cases hb:b=x
 . subst hb;rw[A6] at q;cases q;exact new
 . rw[C7 hb] at q
   by_cases hbe:b=e
   . have q':H b=some (.own x):=by
       rcases he with z|z
       . exact absurd (hbe.trans z) hb
       . rw[hbe];exact z
     rw[q] at q';cases q'
     obtain⟨v,hv⟩:=heo
     exact⟨v,by rw[hbe];exact hv⟩
   . refine(ok b u q).stay (fun c v hc r=>k c v ?_ r) (fun c r=>by rw[C7 (nown c b r)];exact r) fun c xs r=>by rw[C7 (ntup c xs r)];exact r
     rcases hc with rfl|hc
     . exact hbe
     . rintro rfl
       rcases he with z|z
       . exact nown c b hc z
       . rw[hc] at z;cases z;exact hb rfl
end
structure Un(fs ex:List Addr)(H H':Hp)(h h':Heap):Prop where
 keep:∀b o,h.get? b=some o ->H b=none ->b ∉ fs ->b ∉ ex ->h'.get? b=some o
 slot:∀b o,h.get? b=some o ->H b=none ->b∈fs ->b ∉ ex ->∃sl,h'.get? b=some {o with slots:=sl}
 free:∀b o,h.get? b=some o ->H b=none ->b ∉ ex ->H' b=none
 there:∀b o,h.get? b=some o ->b ∉ ex ->∃o',h'.get? b=some o'
 tups:∀b xs,H b=some (.tup xs) ->H' b=some (.tup xs)
 frzs:∀b o u,H b=some (.frz o u) ->H' b=some (.frz o u)
 tbls:∀b ps,H b=some (.tbl ps) ->∃more,H' b=some (.tbl (ps++more))
section
variable{fs fs' ex ex':List Addr}{H H1 H2:Hp}{h h1 h2 h':Heap}{a x e:Addr}{o:HO}
theorem Un.any(u:Un fs ex H H1 h h1){b:Addr}{ob:Obj}(q:h.get? b=some ob)(n:H b=none)(hx:b ∉ ex):∃sl,h1.get? b=some {ob with slots:=sl}:=by
 by_cases hb:b∈fs
 . exact u.slot b ob q n hb hx
 exact⟨ob.slots,u.keep b ob q n hb hx⟩
theorem Un.kept(k:∀b u,h.get? b=some u ->h'.get? b=some u):Un fs ex H H h h':=
 ⟨fun b ob q _ _ _=>k b ob q,fun b ob q _ _ _=>⟨ob.slots,k b ob q⟩,fun _ _ _ n _=>n,fun b ob q _=>⟨ob,k b ob q⟩,fun _ _ q=>q,fun _ _ _ q=>q,fun _ ps q=>⟨#[],by rw[q];simp⟩⟩
theorem Un.refl:Un fs ex H H h h:=Un.kept fun _ _ q=>q
theorem Un.laid(k:∀b u,h.get? b=some u ->h'.get? b=some u)(hp:h.objs.size<=a)(hn:H a=none):Un fs ex H (upd H a o) h h' where
 keep:=fun b u q _ _ _=>k b u q
 slot:=fun b u q _ _ _=>⟨u.slots,k b u q⟩
 free:=fun b u q n _=>by rw[C7 (Nat.ne_of_lt (Nat.lt_of_lt_of_le (Heap.lt_size q) hp))];exact n
 there:=fun b u q _=>⟨u,k b u q⟩
 tups:=fun b xs q=>by rw[C7 (D9 q hn)];exact q
 frzs:=fun b u xs q=>by rw[C7 (D9 q hn)];exact q
 tbls:=fun b ps q=>⟨#[],by rw[C7 (D9 q hn),q];simp⟩
theorem Un.write(mu:Mut (H x))(he:e=x\/H e=some (.own x))(k:∀b u,b≠e ->h.get? b=some u ->h'.get? b=some u)(heo:∃u,h'.get? e=some u):Un fs ex H (upd H x o) h h':=by
 have hx:∀b,H b=none ->b≠x:=fun b n z=>by subst z;rw[n] at mu;exact mu
 have hb:∀b,H b=none ->b≠e:=fun b n z=>by
   subst z
   rcases he with r|r
   . exact hx b n r
   . rw[n] at r;cases r
 have hm:∀b u,H b=some u ->¬Mut (some u) ->b≠x:=fun b u q nm z=>by subst z;rw[q] at mu;exact nm mu
 refine⟨fun b u q n _ _=>k b u (hb b n) q,fun b u q n _ _=>⟨u.slots,k b u (hb b n) q⟩,fun b u q n _=>by rw[C7 (hx b n)];exact n,fun b u q _=>?_,
   fun b xs q=>by rw[C7 (hm b _ q fun z=>z)];exact q,fun b u xs q=>by rw[C7 (hm b _ q fun z=>z)];exact q,fun b ps q=>⟨#[],by rw[C7 (hm b _ q fun z=>z),q];simp⟩⟩
 by_cases hbe:b=e
 . subst hbe;exact heo
 exact⟨u,k b u hbe q⟩
end
noncomputable def trk (h:Heap) (H:Hp):List Addr:=(List.range h.objs.size).filter fun a=>(H a).isSome
noncomputable def B4j (h:Heap) (H:Hp):Heap:=PySem.W.hideAll h (trk h H)
theorem C4d(h:Heap)(H:Hp):(B4j h H).objs.size=h.objs.size:=PySem.W.hideAll_size _ _
theorem C7t{h:Heap}{H:Hp}{b:Addr}{o:Obj}(e:h.get? b=some o)(n:H b=none):(B4j h H).get? b=some o:=
 PySem.W.hideAll_get _ e fun hm=>by
   have q:(H b).isSome=true:=(List.mem_filter.mp hm).2
   rw[n] at q;simp at q
theorem D8d{h:Heap}{H:Hp}{b:Addr}{o:Obj}(e:(B4j h H).get? b=some o):h.get? b=some o/\H b=none:=by
 have e':h.get? b=some o:=PySem.W.of_hideAll (trk h H) e
 refine⟨e',?_⟩
 cases q:H b with
 |none=>rfl
 | some x=>
   have hm:b∈trk h H:=List.mem_filter.mpr ⟨List.mem_range.mpr (Heap.lt_size e'),by simp[q]⟩
   have z:(B4j h H).get? b=none:=PySem.W.hideAll_none (trk h H) hm
   rw[z] at e;cases e
structure Mod(K:PySem.W.Frag)(mg:Str ->Option Value)(base:Heap):Prop where
 kin:K.In base
 glob:base.Ns mainGlobals mg
 blt:∃mb,base.Ns builtinsNs mb/\∀x:Str,x≠"__name__" ->mb x=bootBuiltins x
 nolimit:base.NoLimit
structure Cx where
 prog:Program
 w:World
 K:PySem.W.Frag
 mg:Str ->Option Value
 base:Heap
 A:Around
 N:List Str
 s₀:Shared
 H₀:Hp
 env:Env
 outer:List Env
 stack:List Env
 ex:List Addr
 fn:Str ->Bool
 calm:Bool
 pn:List (Addr×Obj)
 xe:Value ->Shared ->Prop
noncomputable def frs (l:List Env):List Addr:=l.filterMap (·.frame)
noncomputable abbrev Cx.fs (X:Cx):List Addr:=frs X.outer
noncomputable def Vis (sc:Scope) (x:Str):Prop:=sc.names.lookup x=some .local\/sc.names.lookup x=some .cell\/sc.names.lookup x=some .free
noncomputable def Loc (sc:Scope) (x:Str):Prop:=sc.names.lookup x=some .local\/sc.names.lookup x=some .cell
noncomputable def G5c (env:Env) (h:Heap) (m:Str ->Option Value) (x:Str) (u:Value):Prop:=
 (env.kindOf x=some .local/\m x=some u)\/((env.kindOf x=some .cell\/env.kindOf x=some .free)/\∃c,env.cells.lookup x=some c/\h.IsCell c (some u))
structure Cx.Ok(X:Cx):Prop where
 mod:Mod X.K X.mg X.base
 kind:X.env.scope.kind= .function
 glob:X.env.globals=mainGlobals
 blt:X.env.builtins=builtinsNs
 above:X.s₀.heap.objs.size<=X.env.locals
 inj:∀x y c,X.env.cells.lookup x=some c ->X.env.cells.lookup y=some c ->x=y
 has:∀x,(X.env.kindOf x=some .cell\/X.env.kindOf x=some .free) ->∃c,X.env.cells.lookup x=some c
 cab:∀x c,X.fn x=true ->X.env.cells.lookup x=some c ->X.s₀.heap.objs.size<=c
 hd:X.calm=true ->X.A.handled=none
 frames:X.A.frames=some X.stack
 stk:X.stack=X.outer\/(X.stack=X.env::X.outer/\X.env.frame=some X.env.locals)
 exf:∀b∈X.ex,b≠X.env.locals/\∀x c,X.env.cells.lookup x=some c ->c≠b
 bs:∀b o,X.base.get? b=some o ->X.s₀.heap.get? b=some o/\X.H₀ b=none
 bsz:X.base.objs.size<=X.s₀.heap.objs.size
 noex:∀b o,X.base.get? b=some o ->b ∉ X.ex
 exfs:∀b∈X.ex,b ∉ X.fs
 funs:X.s₀.heap.FunFrames X.base X.outer
 frf:∀b∈X.fs,X.H₀ b=none
structure Inv(X:Cx)(pins:List (Addr×Obj))(σ:List (Option V))(H:Hp)(s:Shared):Prop where
 ok:X.Ok
 os:s.os=X.s₀.os
 bare:AllBare s.gens
 base:Un X.fs X.ex X.H₀ H X.s₀.heap s.heap
 loc:∃m,s.heap.Ns X.env.locals m/\∀(i:Nat) (x:Str) (v:V),X.N[i]?=some x ->σ[i]?=some (some v) ->Vis X.env.scope x ->∃u,V0 v u/\G5c X.env s.heap m x u
 cell:∀x c,X.env.cells.lookup x=some c ->∃v,s.heap.IsCell c v
 free:H X.env.locals=none
 freeC:∀x c,X.env.cells.lookup x=some c ->H c=none
 pin:∀p∈X.pn++pins,s.heap.get? p.1=some p.2/\H p.1=none/\p.1≠X.env.locals/\p.1 ∉ X.fs/\∀v,p.2.data≠ .cell v
 hok:HOk X.prog X.w H s.heap
 len:σ.length=X.N.length
section
variable{X:Cx}{pins:List (Addr×Obj)}{σ:List (Option V)}{H H':Hp}{s:Shared}{h':Heap}
theorem Cx.Ok.nofr(ok:X.Ok){b:Addr}{o:Obj}(e:X.base.get? b=some o):b ∉ X.fs:=fun hb=>by
 have:=(ok.funs.mem hb).1
 rw[e] at this;cases this
theorem Inv.bs(I:Inv X pins σ H s):∀b o,X.base.get? b=some o ->s.heap.get? b=some o/\H b=none:=fun b o e=>
 ⟨I.base.keep b o (I.ok.bs b o e).1 (I.ok.bs b o e).2 (I.ok.nofr e) (I.ok.noex b o e),I.base.free b o (I.ok.bs b o e).1 (I.ok.bs b o e).2 (I.ok.noex b o e)⟩
theorem Inv.bk(I:Inv X pins σ H s):∀b o,X.base.get? b=some o ->s.heap.get? b=some o:=fun b o e=>(I.bs b o e).1
theorem Inv.mod(I:Inv X pins σ H s):Mod X.K X.mg X.base:=I.ok.mod
theorem Inv.kIn(I:Inv X pins σ H s):X.K.In s.heap:=I.ok.mod.kin.keeps I.bk
theorem Inv.lt(I:Inv X pins σ H s):X.env.locals<s.heap.objs.size:=let⟨_,hn,_⟩:=I.loc;hn.lt
theorem Inv.sz(I:Inv X pins σ H s):X.s₀.heap.objs.size<=s.heap.objs.size:=Nat.le_trans I.ok.above (Nat.le_of_lt I.lt)
theorem Inv.nofs(I:Inv X pins σ H s){a:Addr}(h:s.heap.objs.size<=a):a ∉ X.fs:=fun hb=>by
 obtain⟨_,o,ho,_⟩:=I.ok.funs.mem hb
 exact absurd (Nat.lt_of_lt_of_le (Heap.lt_size ho) (Nat.le_trans I.sz h)) (Nat.lt_irrefl _)
theorem Inv.cne(I:Inv X pins σ H s):∀x c,X.env.cells.lookup x=some c ->c≠X.env.locals:=fun x c e z=>by
 obtain⟨v,o,ho,hd⟩:=I.cell x c e
 obtain⟨m,⟨o',es,ep,ho',hd',_⟩,_⟩:=I.loc
 rw[z,ho'] at ho;cases ho;rw[hd'] at hd;cases hd
theorem Inv.funs(I:Inv X pins σ H s):s.heap.FunFrames X.base X.outer:=by
 have all:∀(l:List Env),(∀b∈frs l,b∈X.fs) ->X.s₀.heap.FunFrames X.base l ->s.heap.FunFrames X.base l:=by
   intro l
   induction l with
   |nil=>intro _ _;trivial
   | cons env r ih=>
     intro hs hl
     obtain⟨hk,⟨L,o,hf,hn,ho,hd⟩,hr⟩:=hl
     have hL:L∈X.fs:=hs L (by unfold frs;rw[List.filterMap_cons,hf];exact List.mem_cons_self)
     obtain⟨sl,e⟩:=I.base.slot L o ho (I.ok.frf L hL) hL fun z=>I.ok.exfs L z hL
     exact⟨hk,⟨L,_,hf,hn,e,hd⟩,ih (fun b hb=>hs b (by unfold frs;rw[List.filterMap_cons,hf];exact List.mem_cons_of_mem _ hb)) hr⟩
 exact all X.outer (fun _ hb=>hb) I.ok.funs
theorem Inv.stack(I:Inv X pins σ H s):s.heap.FunFrames X.base X.stack:=by
 rcases I.ok.stk with e|⟨e,hf⟩
 . rw[e];exact I.funs
 rw[e]
 obtain⟨m,hn,_⟩:=I.loc
 refine .cons (by rw[I.ok.kind];decide) hf hn ?_ I.funs
 exact Heap.get?_none_of_le (Nat.le_trans I.ok.bsz I.ok.above)
theorem Inv.stkSub(I:Inv X pins σ H s):∀b∈frs X.stack,b∈X.env.locals::X.fs:=fun b hb=>by
 rcases I.ok.stk with e|⟨e,hf⟩
 . rw[e] at hb;exact List.mem_cons_of_mem _ hb
 . rw[e] at hb
   unfold frs at hb
   rw[List.filterMap_cons,hf] at hb
   exact hb
theorem Inv.stkFree(I:Inv X pins σ H s):∀b∈frs X.stack,H b=none:=fun b hb=>by
 rcases List.mem_cons.mp (I.stkSub b hb) with e|hb
 . rw[e];exact I.free
 . obtain⟨_,o,ho,_⟩:=I.ok.funs.mem hb
   exact I.base.free b o ho (I.ok.frf b hb) fun z=>I.ok.exfs b z hb
theorem Inv.step{g':Array GenState}{t':Nat}{d':Drawn}{ch:List Addr}(I:Inv X pins σ H s)
   (hch:∀b∈ch,(b∈X.ex\/X.s₀.heap.objs.size<=b)/\b≠X.env.locals/\(∀x c,X.env.cells.lookup x=some c ->c≠b)/\∀p∈X.pn++pins,p.1≠b)
   (keep:∀b o,b≠X.env.locals ->b ∉ X.fs ->b ∉ ch ->s.heap.get? b=some o ->H b=none ->h'.get? b=some o)
   (slot:∀b o,b≠X.env.locals ->b∈X.fs ->b ∉ ch ->s.heap.get? b=some o ->H b=none ->∃sl,h'.get? b=some {o with slots:=sl}) (free:∀b o,b ∉ ch ->s.heap.get? b=some o ->H b=none ->H' b=none)
   (there:∀b o,b ∉ ch ->s.heap.get? b=some o ->∃o',h'.get? b=some o')
   (tups:∀b xs,H b=some (.tup xs) ->H' b=some (.tup xs)) (frzs:∀b o u,H b=some (.frz o u) ->H' b=some (.frz o u)) (tbls:∀b ps,H b=some (.tbl ps) ->∃more,H' b=some (.tbl (ps++more)))
   (ns:∀m,s.heap.Ns X.env.locals m ->h'.Ns X.env.locals m) (hok:HOk X.prog X.w H' h') (hg:AllBare g'):
   Inv X pins σ H' {s with heap:=h',gens:=g',drawn:=d',toks:=t'}:=by
 have neL:∀b o,X.s₀.heap.get? b=some o ->b≠X.env.locals:=fun b o e=>Nat.ne_of_lt (Nat.lt_of_lt_of_le (Heap.lt_size e) I.ok.above)
 have neC:∀b o,X.s₀.heap.get? b=some o ->b ∉ X.ex ->b ∉ ch:=fun b o e hx hb=>by
   rcases(hch b hb).1 with z|z
   . exact hx z
   . exact absurd (Nat.lt_of_lt_of_le (Heap.lt_size e) z) (Nat.lt_irrefl _)
 have cellK:∀x c,X.env.cells.lookup x=some c ->∀v,s.heap.IsCell c v ->h'.IsCell c v:=fun x c e v ⟨o,ho,hd⟩=>by
   have nch:c ∉ ch:=fun z=>(hch c z).2.2.1 x c e rfl
   by_cases hc:c∈X.fs
   . obtain⟨sl,q⟩:=slot c o (I.cne x c e) hc nch ho (I.freeC x c e)
     exact⟨_,q,hd⟩
   . exact⟨o,keep c o (I.cne x c e) hc nch ho (I.freeC x c e),hd⟩
 refine⟨I.ok,I.os,hg,⟨fun b o e n hb hx=>?_,fun b o e n hb hx=>?_,fun b o e n hx=>?_,fun b o e hx=>?_,fun b xs e=>tups b xs (I.base.tups b xs e),fun b o xs e=>frzs b o xs (I.base.frzs b o xs e),fun b ps e=>?_⟩,?_,fun x c e=>?_,?_,fun x c e=>?_,fun p hp=>?_,hok,I.len⟩
 . exact keep b o (neL b o e) hb (neC b o e hx) (I.base.keep b o e n hb hx) (I.base.free b o e n hx)
 . obtain⟨sl,e1⟩:=I.base.slot b o e n hb hx
   obtain⟨sl',e2⟩:=slot b _ (neL b o e) hb (neC b o e hx) e1 (I.base.free b o e n hx)
   exact⟨sl',e2⟩
 . obtain⟨o',e1⟩:=I.base.there b o e hx
   exact free b o' (neC b o e hx) e1 (I.base.free b o e n hx)
 . obtain⟨o',e1⟩:=I.base.there b o e hx
   exact there b o' (neC b o e hx) e1
 . obtain⟨m1,e1⟩:=I.base.tbls b ps e
   obtain⟨m2,e2⟩:=tbls b _ e1
   exact⟨m1++m2,by rw[e2,Array.append_assoc]⟩
 . obtain⟨m,hn,hl⟩:=I.loc
   refine⟨m,ns m hn,fun i x v e1 e2 e3=>?_⟩
   obtain⟨u,r,l⟩:=hl i x v e1 e2 e3
   refine⟨u,r,?_⟩
   rcases l with l|⟨k,c,e,z⟩
   . exact .inl l
   . exact .inr ⟨k,c,e,cellK x c e _ z⟩
 . obtain⟨v,z⟩:=I.cell x c e
   exact⟨v,cellK x c e v z⟩
 . obtain⟨m,⟨o,_,_,ho,_⟩,_⟩:=I.loc
   exact free _ o (fun z=>(hch _ z).2.1 rfl) ho I.free
 . obtain⟨v,o,ho,hd⟩:=I.cell x c e
   exact free c o (fun z=>(hch c z).2.2.1 x c e rfl) ho (I.freeC x c e)
 obtain⟨e,n,ne,nf,d⟩:=I.pin p hp
 have nch:p.1 ∉ ch:=fun z=>(hch p.1 z).2.2.2 p hp rfl
 exact⟨keep p.1 p.2 ne nf nch e n,free p.1 p.2 nch e n,ne,nf,d⟩
theorem Inv.un{t':Nat}(I:Inv X pins σ H s)(u:Un X.fs [] H H' s.heap h')(hok:HOk X.prog X.w H' h'):Inv X pins σ H' {s with heap:=h',toks:=t'}:=by
 obtain⟨m,⟨o,es,ep,ho,r⟩,_⟩:=id I.loc
 obtain⟨sl,hL⟩:=u.any ho I.free (by simp)
 exact I.step (g':=s.gens) (d':=s.drawn) (ch:=[]) (fun _ z=>nomatch z) (fun b o _ hb _ e n=>u.keep b o e n hb (by simp)) (fun b o _ hb _ e n=>u.slot b o e n hb (by simp)) (fun b o _ e n=>u.free b o e n (by simp)) (fun b o _ e=>u.there b o e (by simp)) u.tups u.frzs u.tbls (fun m' hm=>by
   obtain⟨o',es',ep',ho',r'⟩:=hm
   rw[ho] at ho';cases ho'
   exact⟨_,es',ep',hL,r'⟩) hok I.bare
theorem Inv.call{g':Array GenState}{t':Nat}{d':Drawn}{ch:List Addr}(I:Inv X pins σ H s)(u:Un (frs X.stack) ch H H' s.heap h')(hok:HOk X.prog X.w H' h')(hg:AllBare g')
   (hch:∀b∈ch,(b∈X.ex\/X.s₀.heap.objs.size<=b)/\b≠X.env.locals/\(∀x c,X.env.cells.lookup x=some c ->c≠b)/\∀p∈X.pn++pins,p.1≠b):
   Inv X pins σ H' {s with heap:=h',gens:=g',drawn:=d',toks:=t'}:=by
 obtain⟨m,⟨o,es,ep,ho,r⟩,_⟩:=id I.loc
 obtain⟨sl,hL⟩:=u.any ho I.free fun z=>(hch _ z).2.1 rfl
 exact I.step (ch:=ch) hch (fun b o hL hb hc e n=>u.keep b o e n (fun z=>(List.mem_cons.mp (I.stkSub b z)).elim hL hb) hc) (fun b o _ _ hc e n=>u.any e n hc) (fun b o hc e n=>u.free b o e n hc) (fun b o hc e=>u.there b o e hc) u.tups u.frzs u.tbls (fun m' hm=>by
   obtain⟨o',es',ep',ho',r'⟩:=hm
   rw[ho] at ho';cases ho'
   exact⟨_,es',ep',hL,r'⟩) hok hg
theorem Inv.turned{t':Nat}{it:Addr}(I:Inv X pins σ H s)(k:∀b o,b≠it ->s.heap.get? b=some o ->h'.get? b=some o)(hn:H it=none)(hL:it≠X.env.locals)
   (h1:it∈X.ex\/X.s₀.heap.objs.size<=it) (h2:∀x c,X.env.cells.lookup x=some c ->c≠it) (h3:∀p∈X.pn++pins,p.1≠it):Inv X pins σ H {s with heap:=h',toks:=t'}:=by
 have nit:∀b u,H b=some u ->b≠it:=fun b u e z=>by rw[z,hn] at e;cases e
 refine I.step (g':=s.gens) (d':=s.drawn) (ch:=[it]) (fun b hb=>?_) (fun b o _ _ hc e _=>k b o (fun z=>hc (by simp[z])) e) (fun b o _ _ hc e _=>⟨o.slots,k b o (fun z=>hc (by simp[z])) e⟩) (fun _ _ _ _ n=>n)
   (fun b o hc e=>⟨o,k b o (fun z=>hc (by simp[z])) e⟩) (fun _ _ e=>e) (fun _ _ _ e=>e) (fun b ps e=>⟨#[],by rw[e];simp⟩) (fun m hm=>?_) (fun b u e=>?_) I.bare
 . have e:b=it:=by simpa using hb
   subst e
   exact⟨h1,hL,h2,h3⟩
 . obtain⟨o,es,ep,ho,r⟩:=hm
   exact⟨o,es,ep,k _ o (Ne.symm hL) ho,r⟩
 refine(I.hok b u e).stay (fun c v hc q=>k c v ?_ q) (fun _ q=>q) fun _ _ q=>q
 rcases hc with z|z
 . rw[z];exact nit b u e
 exact nit c _ z
theorem Inv.tok(I:Inv X pins σ H s)(t:Nat):Inv X pins σ H {s with toks:=t}:=I.un (h':=s.heap) (t':=t) Un.refl I.hok
theorem Inv.kept{t':Nat}(I:Inv X pins σ H s)(k:∀b u,s.heap.get? b=some u ->h'.get? b=some u):Inv X pins σ H {s with heap:=h',toks:=t'}:=I.un (Un.kept k) (I.hok.kept k)
theorem Inv.laid{a:Addr}{o:HO}{t':Nat}(I:Inv X pins σ H s)(k:∀b u,s.heap.get? b=some u ->h'.get? b=some u)(hp:s.heap.objs.size<=a)(new:Y7 X.prog X.w (upd H a o) h' a o):
   Inv X pins σ (upd H a o) {s with heap:=h',toks:=t'}:=I.un (Un.laid k hp (I.hok.fresh hp)) (I.hok.laid k hp new)
theorem Inv.write{x e:Addr}{o:HO}{t':Nat}(I:Inv X pins σ H s)(mu:Mut (H x))(he:e=x\/H e=some (.own x))(k:∀b u,b≠e ->s.heap.get? b=some u ->h'.get? b=some u)(heo:∃u,h'.get? e=some u)
   (new:Y7 X.prog X.w (upd H x o) h' x o):Inv X pins σ (upd H x o) {s with heap:=h',toks:=t'}:=I.un (Un.write mu he k heo) (I.hok.write mu he k heo new)
theorem Inv.weak{σ':List (Option V)}(I:Inv X pins σ H s)(hl:σ'.length=σ.length)(w:∀(i:Nat) v,σ'[i]?=some (some v) ->σ[i]?=some (some v)):Inv X pins σ' H s:=
 ⟨I.ok,I.os,I.bare,I.base,let⟨m,hn,hl'⟩:=I.loc;⟨m,hn,fun i x v e1 e2 e3=>hl' i x v e1 (w i v e2) e3⟩,I.cell,I.free,I.freeC,I.pin,I.hok,hl.trans I.len⟩
theorem Inv.pins_of{pins':List (Addr×Obj)}(I:Inv X pins σ H s)(h:∀p∈pins',s.heap.get? p.1=some p.2/\H p.1=none/\p.1≠X.env.locals/\p.1 ∉ X.fs/\∀v,p.2.data≠ .cell v):Inv X pins' σ H s:=
 ⟨I.ok,I.os,I.bare,I.base,I.loc,I.cell,I.free,I.freeC,fun p hp=>(List.mem_append.mp hp).elim (fun z=>I.pin p (List.mem_append_left _ z)) (h p),I.hok,I.len⟩
theorem B0x{N:List Str}(hN:N.Nodup){i j:Nat}{x:Str}(a:N[i]?=some x)(b:N[j]?=some x):i=j:=by
 obtain⟨h1,e1⟩:=List.getElem?_eq_some_iff.mp a
 obtain⟨h2,e2⟩:=List.getElem?_eq_some_iff.mp b
 exact(List.getElem_inj hN).mp (e1.trans e2.symm)
theorem A7a{M:Model}{A:Around}{E:Value ->Shared ->Prop}{i:Nat}{x:Str}{v:V}{u:Value}{Q:Unit ->Shared ->Prop}(I:Inv X pins σ H s)(hN:X.N.Nodup)(hi:X.N[i]?=some x)(hx:Loc X.env.scope x)(r:V0 v u)
   (h:∀s',Inv X pins (σ.set i (some v)) H s' ->(∃a,Heap.SameBut a s.heap s'.heap/\(a=X.env.locals\/X.env.cells.lookup x=some a)) ->Q () s') (hf:X.fn x=true\/X.env.scope.names.lookup x=some .local:=by first|exact .inl rfl|exact .inr rfl|assumption):wpAny M A (storeName X.env x u) Q E s:=by
 obtain⟨m,hn,hl⟩:=id I.loc
 have hcls:(X.env.scope.kind== .class||(X.env.scope.kind== .module&&X.env.locals !=X.env.globals))=false:=by rw[I.ok.kind];rfl
 have hiσ:i<σ.length:=by rw[I.len];exact(List.getElem?_eq_some_iff.mp hi).1
 have cne:=I.cne
 have tracked:∀{a:Addr} {h':Heap},(∃o,s.heap.get? a=some o/\H a=none) ->Heap.SameBut a s.heap h' ->HOk X.prog X.w H h':=fun{a h'} ha hs b ob e=>by
   obtain⟨_,_,hfree⟩:=ha
   refine(I.hok b ob e).stay (fun c w' hc q=>(hs.2 c ?_).trans q) (fun _ q=>q) fun _ _ q=>q
   rintro rfl
   rcases hc with rfl|hc
   . rw[hfree] at e;cases e
   . rw[hfree] at hc;cases hc
 rcases hx with hk|hk
 . refine wpAny_storeName_local hk hn (fun h' hn' hs=>?_) hcls
   obtain⟨oL,_,_,hoL,_⟩:=id hn
   refine h _ ⟨I.ok,I.os,I.bare,⟨fun b o e n hb hx=>?_,fun b o e n hb hx=>?_,I.base.free,fun b o e hx=>?_,I.base.tups,I.base.frzs,I.base.tbls⟩,⟨_,hn',fun j y v' e1 e2 e3=>?_⟩,fun y c e=>?_,I.free,I.freeC,fun p hp=>?_,tracked ⟨oL,hoL,I.free⟩ hs,by simpa using I.len⟩ ⟨_,hs,.inl rfl⟩
   . exact(hs.2 b (Nat.ne_of_lt (Nat.lt_of_lt_of_le (Heap.lt_size e) I.ok.above))).trans (I.base.keep b o e n hb hx)
   . obtain⟨sl,e1⟩:=I.base.slot b o e n hb hx
     exact⟨sl,(hs.2 b (Nat.ne_of_lt (Nat.lt_of_lt_of_le (Heap.lt_size e) I.ok.above))).trans e1⟩
   . obtain⟨o',e1⟩:=I.base.there b o e hx
     exact⟨o',(hs.2 b (Nat.ne_of_lt (Nat.lt_of_lt_of_le (Heap.lt_size e) I.ok.above))).trans e1⟩
   . by_cases hj:j=i
     . subst hj
       rw[hi] at e1;cases e1
       rw[List.getElem?_set_self hiσ] at e2
       cases e2
       exact⟨u,r,.inl ⟨hk,by simp⟩⟩
     . rw[List.getElem?_set_ne (Ne.symm hj)] at e2
       obtain⟨u',r',q⟩:=hl j y v' e1 e2 e3
       refine⟨u',r',?_⟩
       rcases q with⟨k,e⟩|⟨k,c,e,z⟩
       . refine .inl ⟨k,?_⟩
         have:y≠x:=fun e=>hj (B0x hN e1 (e▸hi))
         simp[this,e]
       . exact .inr ⟨k,c,e,z.sameBut hs (cne y c e)⟩
   . obtain⟨w',z⟩:=I.cell y c e
     exact⟨w',z.sameBut hs (cne y c e)⟩
   . obtain⟨e,n,ne,nf,d⟩:=I.pin p hp
     exact⟨(hs.2 p.1 ne).trans e,n,ne,nf,d⟩
 have hfn:X.fn x=true:=by
   rcases hf with z|z
   . exact z
   . rw[z] at hk;cases hk
 obtain⟨c,hc⟩:=I.ok.has x (.inl hk)
 obtain⟨w',z⟩:=I.cell x c hc
 refine wpAny_storeName_cell I.ok.kind hk hc z (fun h' hc' hs=>?_)
 obtain⟨oc,hoc,hocd⟩:=id z
 refine h {s with heap:=h'} ⟨I.ok,I.os,I.bare,⟨fun b o e n hb hx=>?_,fun b o e n hb hx=>?_,I.base.free,fun b o e hx=>?_,I.base.tups,I.base.frzs,I.base.tbls⟩,⟨m,hn.sameBut hs (Ne.symm (cne x c hc)),fun j y v' e1 e2 e3=>?_⟩,fun y c' e=>?_,I.free,I.freeC,fun p hp=>?_,tracked ⟨oc,hoc,I.freeC x c hc⟩ hs,by simpa using I.len⟩ ⟨c,hs,.inr hc⟩
 . exact(hs.2 b (Nat.ne_of_lt (Nat.lt_of_lt_of_le (Heap.lt_size e) (I.ok.cab x c hfn hc)))).trans (I.base.keep b o e n hb hx)
 . obtain⟨sl,e1⟩:=I.base.slot b o e n hb hx
   exact⟨sl,(hs.2 b (Nat.ne_of_lt (Nat.lt_of_lt_of_le (Heap.lt_size e) (I.ok.cab x c hfn hc)))).trans e1⟩
 . obtain⟨o',e1⟩:=I.base.there b o e hx
   exact⟨o',(hs.2 b (Nat.ne_of_lt (Nat.lt_of_lt_of_le (Heap.lt_size e) (I.ok.cab x c hfn hc)))).trans e1⟩
 . by_cases hj:j=i
   . subst hj
     rw[hi] at e1;cases e1
     rw[List.getElem?_set_self hiσ] at e2
     cases e2
     exact⟨u,r,.inr ⟨.inl hk,c,hc,hc'⟩⟩
   . rw[List.getElem?_set_ne (Ne.symm hj)] at e2
     obtain⟨u',r',q⟩:=hl j y v' e1 e2 e3
     refine⟨u',r',?_⟩
     rcases q with q|⟨k,c',e,z'⟩
     . exact .inl q
     . refine .inr ⟨k,c',e,z'.sameBut hs ?_⟩
       rintro rfl
       exact hj (B0x hN e1 (I.ok.inj _ _ _ e hc▸hi))
 . by_cases hcc:c'=c
   . subst hcc;exact⟨_,hc'⟩
   . obtain⟨w2,z2⟩:=I.cell y c' e
     exact⟨w2,z2.sameBut hs hcc⟩
 obtain⟨e,n,ne,nf,d⟩:=I.pin p hp
 refine⟨(hs.2 p.1 ?_).trans e,n,ne,nf,d⟩
 intro q
 rw[q,hoc] at e
 have q':oc=p.2:=Option.some.inj e
 exact d w' (by rw[<-q'];exact hocd)
theorem A2d{M:Model}{A:Around}{E:Value ->Shared ->Prop}{i:Nat}{x:Str}{v:V}{u:Value}{Q:Unit ->Shared ->Prop}(I:Inv X pins σ H s)(hN:X.N.Nodup)(hi:X.N[i]?=some x)(hx:Loc X.env.scope x)(r:V0 v u)
   (h:∀s',Inv X pins (σ.set i (some v)) H s' ->Q () s') (hf:X.fn x=true\/X.env.scope.names.lookup x=some .local:=by first|exact .inl rfl|exact .inr rfl|assumption):wpAny M A (storeName X.env x u) Q E s:=
 A7a I hN hi hx r (fun s' I' _=>h s' I') hf
theorem Inv.call'{s':Shared}{ch:List Addr}(I:Inv X pins σ H s)(ho:s'.os=s.os)(u:Un (frs X.stack) ch H H' s.heap s'.heap)(hok:HOk X.prog X.w H' s'.heap)(hg:AllBare s'.gens)
   (hch:∀b∈ch,(b∈X.ex\/X.s₀.heap.objs.size<=b)/\b≠X.env.locals/\(∀x c,X.env.cells.lookup x=some c ->c≠b)/\∀p∈X.pn++pins,p.1≠b):Inv X pins σ H' s':=by
 obtain⟨h',g',d',t',o'⟩:=s'
 have e:o'=s.os:=ho
 subst e
 exact I.call (g':=g') (t':=t') (d':=d') u hok hg hch
end
noncomputable abbrev XK:=Value ->Option Addr ->Hp ->Prop
noncomputable abbrev St:=List (Option V)
noncomputable abbrev VK:=V ->Hp ->Prop
noncomputable abbrev TE:=St ->Hp ->VK ->Prop
noncomputable abbrev TT:=St ->Hp ->(Bool ->Hp ->Prop) ->Prop
noncomputable abbrev TA:=St ->Hp ->(List V ->Hp ->Prop) ->Prop
structure B2n where
 nx:St ->Hp ->Prop
 rt:VK
 bk:St ->Hp ->Prop:=fun _ _=>False
 ct:St ->Hp ->Prop:=fun _ _=>False
noncomputable abbrev TS:=B2n ->St ->Hp ->Prop
noncomputable def EP (X:Cx) (pins:List (Addr×Obj)) (σ:St) (Q:VK) (u:Value) (s':Shared):Prop:=∃v H',Inv X pins σ H' s'/\V0 v u/\Q v H'
noncomputable def TP (X:Cx) (pins:List (Addr×Obj)) (σ:St) (Q:Bool ->Hp ->Prop) (b:Bool) (s':Shared):Prop:=∃H',Inv X pins σ H' s'/\Q b H'
noncomputable def AP (X:Cx) (pins:List (Addr×Obj)) (σ:St) (Q:List V ->Hp ->Prop) (us:List Value) (s':Shared):Prop:=∃vs H',Inv X pins σ H' s'/\G7 vs us/\Q vs H'
noncomputable def SP (X:Cx) (pins:List (Addr×Obj)) (D:B2n) (f:Flow) (s':Shared):Prop:=
 match f with
 | .next=>∃σ' H',Inv X pins σ' H' s'/\D.nx σ' H'
 | .brk=>∃σ' H',Inv X pins σ' H' s'/\D.bk σ' H'
 | .cont=>∃σ' H',Inv X pins σ' H' s'/\D.ct σ' H'
 | .ret u=>∃v σ' H',Inv X pins σ' H' s'/\V0 v u/\D.rt v H'
noncomputable def PE (X:Cx) (e:Expr) (t:TE):Prop:=
 ∀(pins:List (Addr×Obj)) (s:Shared) (σ:St) (H:Hp) (Q:VK),Inv X pins σ H s ->t σ H Q ->wpAny (model X.prog X.w) X.A (eval e X.env) (EP X pins σ Q) X.xe s
noncomputable def PT (X:Cx) (e:Expr) (t:TT):Prop:=
 ∀(pins:List (Addr×Obj)) (s:Shared) (σ:St) (H:Hp) (Q:Bool ->Hp ->Prop),Inv X pins σ H s ->t σ H Q ->wpAny (model X.prog X.w) X.A (isTrue e X.env (eval e X.env)) (TP X pins σ Q) X.xe s
noncomputable def PW (X:Cx) (e:Expr) (t:TT):Prop:=
 ∀(whole:Sem Value) (pins:List (Addr×Obj)) (s:Shared) (σ:St) (H:Hp) (Q:Bool ->Hp ->Prop),Inv X pins σ H s ->t σ H Q ->wpAny (model X.prog X.w) X.A (isTrue e X.env whole) (TP X pins σ Q) X.xe s
theorem PW.pt{X:Cx}{e:Expr}{t:TT}(h:PW X e t):PT X e t:=h _
noncomputable def PA (X:Cx) (es:List Expr) (t:TA):Prop:=
 ∀(pos:Pos) (pins:List (Addr×Obj)) (s:Shared) (σ:St) (H:Hp) (Q:List V ->Hp ->Prop),Inv X pins σ H s ->t σ H Q ->wpAny (model X.prog X.w) X.A (spliced (backTo pos (starEach es X.env))) (AP X pins σ Q) X.xe s
noncomputable def PS (X:Cx) (st:Stmt) (t:TS):Prop:=
 ∀(pins:List (Addr×Obj)) (s:Shared) (σ:St) (H:Hp) (D:B2n),Inv X pins σ H s ->t D σ H ->wpAny (model X.prog X.w) X.A (exec st X.env) (SP X pins D) X.xe s
noncomputable def PSs (X:Cx) (st:List Stmt) (t:TS):Prop:=
 ∀(pins:List (Addr×Obj)) (s:Shared) (σ:St) (H:Hp) (D:B2n),Inv X pins σ H s ->t D σ H ->wpAny (model X.prog X.w) X.A (execs st X.env) (SP X pins D) X.xe s
theorem thn{α:Type}{t:Sem α}{Q Q':α ->Shared ->Prop}{M:Model}{A:Around}{E:Value ->Shared ->Prop}{s:Shared}(h:wpAny M A t Q E s)(hQ:∀a s,Q a s ->Q' a s):wpAny M A t Q' E s:=wpAny_mono h hQ fun _ _ x=>x
section
variable{X:Cx}
noncomputable def G5q (i:Nat):TE:=fun σ H Q=>∃v,σ[i]?=some (some v)/\Q v H
noncomputable def tC (v:V):TE:=fun _ H Q=>Q v H
theorem G1w{i:Nat}{x:Str}{pos:Pos}(hN:X.N[i]?=some x)(hv:Vis X.env.scope x)(hd:(x==("__debug__":Str))=false:=by decide)(hcd:(x==("__classdict__":Str))=false:=by decide):PE X (.Name x pos) (G5q i):=by
 intro pins s σ H Q I h
 obtain⟨v,e,h⟩:=h
 obtain⟨m,hn,hl⟩:=I.loc
 obtain⟨u,r,l⟩:=hl i x v hN e hv
 have fin:EP X pins σ Q u s:=⟨v,H,I,r,h⟩
 rcases l with⟨hk,hm⟩|⟨hk,c,hc,hcell⟩
 . exact wpAny_Name (wpAny_loadName_local I.ok.kind hk hn hm fin) hd
 rcases hk with hk|hk
 . exact wpAny_Name (wpAny_loadName_cell I.ok.kind hk hc hcell fin) hd
 exact wpAny_Name (wpAny_loadName_free I.ok.kind hk hc hcell fin hcd) hd
theorem A2{i j pos}:PE X (.Constant (.int i) j pos) (tC (.int i)):=fun _ _ _ H _ I h=>wpAny_Constant_int ⟨.int i,H,I.tok _,⟨_,rfl⟩,h⟩
theorem A1f{b j pos}:PE X (.Constant (.bool b) j pos) (tC (.bl b)):=fun _ _ _ H _ I h=>Constant_bool ⟨.bl b,H,I,rfl,h⟩
theorem C7z{j pos}:PE X (.Constant .none j pos) (tC .non):=fun _ _ _ H _ I h=>Constant_none ⟨.non,H,I,rfl,h⟩
theorem C9{x j pos}:PE X (.Constant (.str x) j pos) (tC (.str x)):=fun _ _ _ H _ I h=>Calls.Constant_str ⟨.str x,H,I.tok _,⟨_,rfl⟩,h⟩
noncomputable def Gl (X:Cx) (x:Str):Prop:=X.env.kindOf x=some .globalImplicit
theorem Z1{E:Value ->Shared ->Prop}{pins:List (Addr×Obj)}{s:Shared}{σ:St}{H:Hp}{x:Str}{u:Value}{pos:Pos}{Q:Value ->Shared ->Prop}(I:Inv X pins σ H s)(hg:Gl X x)(hm:X.mg x=some u)(h:Q u s)
   (hd:(x==("__debug__":Str))=false:=by decide):wpAny (model X.prog X.w) X.A (eval (.Name x pos) X.env) Q E s:=
 Calls.Name_function_global I.ok.kind hg (Calls.loadGlobal_global (by rw[I.ok.glob];exact I.mod.glob.keeps I.bk) hm h) hd
theorem A7g{E:Value ->Shared ->Prop}{pins:List (Addr×Obj)}{s:Shared}{σ:St}{H:Hp}{x:Str}{u:Value}{pos:Pos}{Q:Value ->Shared ->Prop}(I:Inv X pins σ H s)(hg:Gl X x)(hm:X.mg x=none)(hv:bootBuiltins x=some u)(h:Q u s)
   (hn:x≠"__name__":=by decide) (hd:(x==("__debug__":Str))=false:=by decide):wpAny (model X.prog X.w) X.A (eval (.Name x pos) X.env) Q E s:=by
 obtain⟨mb,h1,h2⟩:=I.mod.blt
 exact Calls.Name_function_global I.ok.kind hg (Calls.loadGlobal_builtin (by rw[I.ok.glob];exact I.mod.glob.keeps I.bk) hm (by rw[I.ok.blt];exact h1.keeps I.bk) ((h2 x hn).trans hv) h) hd
theorem D8e{x:Str}{v:V}{u:Value}{pos:Pos}(hg:Gl X x)(hm:X.mg x=some u)(r:V0 v u)(hd:(x==("__debug__":Str))=false:=by decide):PE X (.Name x pos) (tC v):=
 fun _ _ _ H _ I h=>Z1 I hg hm ⟨v,H,I,r,h⟩ hd
theorem D7d{x:Str}{v:V}{u:Value}{pos:Pos}(hg:Gl X x)(hm:X.mg x=none)(hv:bootBuiltins x=some u)(r:V0 v u)(hn:x≠"__name__":=by decide)(hd:(x==("__debug__":Str))=false:=by decide):PE X (.Name x pos) (tC v):=
 fun _ _ _ H _ I h=>A7g I hg hm hv ⟨v,H,I,r,h⟩ hn hd
variable{a b:Expr}{ta tb:TE}{pos:Pos}
noncomputable def PC (X:Cx) (op:CmpOp) (a b:Expr) (t:TE):Prop:=
 ∀ (pins:List (Addr×Obj)) (s:Shared) (σ:St) (H:Hp) (Q:VK),Inv X pins σ H s ->t σ H Q ->
   wpAny (model X.prog X.w) X.A (eval a X.env) (fun v s₁=>wpAny (model X.prog X.w) X.A (eval b X.env) (fun u s₂=>wpAny (model X.prog X.w) X.A (compareOp op v u) (EP X pins σ Q) X.xe s₂) X.xe s₁) X.xe s
noncomputable def tB (t:TE):TT:=fun σ H Q=>t σ H fun x H1=>∃c,x= .bl c/\Q c H1
theorem C8e{op:CmpOp}{t:TE}(h:PC X op a b t)(h1:behindInMarks op b=false:=by first|exact nobehind _ (by decide) (by decide)|rfl):PT X (.Compare a [op] [b] pos) (tB t):=by
 intro pins s σ H Q I hw
 refine wpAny_isTrue_Compare1 (thn (h pins s σ H _ I hw) fun v s1 h1=>thn h1 fun u s2 h2=>thn h2 fun c s3 hh_=>?_) h1
 obtain⟨x,H1,I1,r1,q1⟩:=hh_
 obtain⟨d,rfl,q⟩:=q1
 cases r1
 exact wpAny_truthy_bool ⟨H1,I1,q⟩
theorem A0q{e:Expr}{t:TE}(h:PE X e t)(he:∀whole,isTrue e X.env whole=(do let v<-whole;standAt e.pos;holding [v] (truthy v)):=by intro _;rfl):PT X e (tB t):=by
 intro pins s σ H Q I hw
 refine isTrue_plain (thn (h pins s σ H _ I hw) fun v s1 hh_=>?_) (he _)
 obtain⟨x,H1,I1,r1,q1⟩:=hh_
 obtain⟨d,rfl,q⟩:=q1
 cases r1
 exact wpAny_truthy_bool ⟨H1,I1,q⟩
variable{tA tB':TT}{rest:List Expr}
noncomputable def G9z (t u:TT):TT:=fun σ H Q=>t σ H fun c H1=>if c=true then u σ H1 Q else Q false H1
noncomputable def tOr (t u:TT):TT:=fun σ H Q=>t σ H fun c H1=>if c=true then Q true H1 else u σ H1 Q
noncomputable def G9e (t:TT):TT:=fun σ H Q=>t σ H fun c H1=>Q (!c) H1
theorem A1c(ha:PT X a tA):PW X (.BoolOp .And [a] pos) tA:=by
 intro wh pins s σ H Q I h
 refine isTrue_and (thn (ha pins s σ H Q I h) fun c s1 e=>?_)
 cases c with
 |true=>exact isTrue_and_nil e
 |false=>exact e
theorem B0m(ha:PT X a tA):PW X (.BoolOp .Or [a] pos) tA:=by
 intro wh pins s σ H Q I h
 refine isTrue_or (thn (ha pins s σ H Q I h) fun c s1 e=>?_)
 cases c with
 |false=>exact isTrue_or_nil e
 |true=>exact e
theorem A2t(ha:PT X a tA)(hb:PW X (.BoolOp .And (b::rest) pos) tB'):PW X (.BoolOp .And (a::b::rest) pos) (G9z tA tB'):=by
 intro wh pins s σ H Q I h
 refine isTrue_and (thn (ha pins s σ H _ I h) fun c s1 ⟨H1,I1,q1⟩=>?_)
 cases c with
 |true=>exact hb wh pins s1 σ H1 Q I1 q1
 |false=>exact⟨H1,I1,q1⟩
theorem A6x(ha:PT X a tA)(hb:PW X (.BoolOp .Or (b::rest) pos) tB'):PW X (.BoolOp .Or (a::b::rest) pos) (tOr tA tB'):=by
 intro wh pins s σ H Q I h
 refine isTrue_or (thn (ha pins s σ H _ I h) fun c s1 ⟨H1,I1,q1⟩=>?_)
 cases c with
 |true=>exact⟨H1,I1,q1⟩
 |false=>exact hb wh pins s1 σ H1 Q I1 q1
theorem A2a(ha:PT X a tA):PT X (.UnaryOp .Not a pos) (G9e tA):=by
 intro pins s σ H Q I h
 exact isTrue_not (ha pins s σ H (fun c H1=>Q (!c) H1) I h)
noncomputable def G5e (ta tb:TE):TE:=fun σ H Q=>ta σ H fun x H1=>∃c,x= .bl c/\if c=true then tb σ H1 Q else Q (.bl false) H1
noncomputable def J0g (ta tb:TE):TE:=fun σ H Q=>ta σ H fun x H1=>∃c,x= .bl c/\if c=true then Q (.bl true) H1 else tb σ H1 Q
noncomputable def G6b (ta:TE):TE:=fun σ H Q=>ta σ H fun x H1=>∃c,x= .bl c/\Q (.bl (!c)) H1
theorem Z8{op}{t:TE}(h:PE X a t):PE X (.BoolOp op [a] pos) t:=fun pins s σ H Q I hw=>BoolOp_one (h pins s σ H Q I hw)
theorem A0e(ha:PE X a ta)(hb:PE X (.BoolOp .And (b::rest) pos) tb):PE X (.BoolOp .And (a::b::rest) pos) (G5e ta tb):=by
 intro pins s σ H Q I h
 refine BoolOp_and (thn (ha pins s σ H _ I h) fun v s1 hh_=>?_)
 obtain⟨x,H1,I1,r1,q1⟩:=hh_
 obtain⟨c,rfl,q1⟩:=q1
 cases r1
 refine wpAny_truthy_bool ?_
 cases c with
 |true=>exact hb pins s1 σ H1 Q I1 q1
 |false=>exact⟨.bl false,H1,I1,rfl,q1⟩
theorem B3h(ha:PE X a ta)(hb:PE X (.BoolOp .Or (b::rest) pos) tb):PE X (.BoolOp .Or (a::b::rest) pos) (J0g ta tb):=by
 intro pins s σ H Q I h
 refine BoolOp_or (thn (ha pins s σ H _ I h) fun v s1 hh_=>?_)
 obtain⟨x,H1,I1,r1,q1⟩:=hh_
 obtain⟨c,rfl,q1⟩:=q1
 cases r1
 refine wpAny_truthy_bool ?_
 cases c with
 |false=>exact hb pins s1 σ H1 Q I1 q1
 |true=>exact⟨.bl true,H1,I1,rfl,q1⟩
theorem G2b(ha:PE X a ta):PE X (.UnaryOp .Not a pos) (G6b ta):=by
 intro pins s σ H Q I h
 refine UnaryOp_ (thn (ha pins s σ H _ I h) fun v s1 hh_=>?_)
 obtain⟨x,H1,I1,r1,q1⟩:=hh_
 obtain⟨c,rfl,q1⟩:=q1
 cases r1
 exact not_of (wpAny_truthy_bool ⟨.bl (!c),H1,I1,rfl,q1⟩)
noncomputable def tIf (t:TT) (ta tb:TE):TE:=fun σ H Q=>t σ H fun c H1=>if c=true then ta σ H1 Q else tb σ H1 Q
theorem A4f{c:Expr}(hc:PT X c tA)(ha:PE X a ta)(hb:PE X b tb):PE X (.IfExp c a b pos) (tIf tA ta tb):=by
 intro pins s σ H Q I h
 refine wpAny_IfExp (thn (hc pins s σ H _ I h) fun d s1 ⟨H1,I1,q1⟩=>?_)
 cases d with
 |true=>exact ha pins s1 σ H1 Q I1 q1
 |false=>exact hb pins s1 σ H1 Q I1 q1
end
noncomputable def SqL (K:PySem.W.Frag) (H:Hp) (a:Addr) (xs:List V):Prop:=
 Rd H a (.lst xs)\/
   ∃(o:Obj) (its:Array Value) (n:Nat),K.lookup a=some o/\o.cls= .type "list"/\o.dict=none/\o.data= .seq its n/\its.size<=sizeLine/\G7 xs its.toList
noncomputable def SqT (K:PySem.W.Frag) (H:Hp) (a:Addr) (xs:List V):Prop:=
 Rd H a (.tup xs)\/
   ∃(o:Obj) (its:Array Value) (n:Nat),K.lookup a=some o/\o.cls= .type "tuple"/\o.data= .seq its n/\its.size<=sizeLine/\G7 xs its.toList
noncomputable def G9u:Value ->Option V
 | .none=>some .non
 | .bool b=>some (.bl b)
 | .int i _=>some (.int i)
 | .str x _=>some (.str x)
 | .bytes b _=>some (.byt b)
 | .float b _=>some (.flt b)
 | .ref a=>some (.ref a)
 | .type n=>some (.ty n)
 |_=>none
theorem V0.abs{x:V}{u:Value}(r:V0 x u):G9u u=some x:=by
 cases x with
 |non=>cases r;rfl
 |bl _=>cases r;rfl
 |int _=>obtain⟨t,rfl⟩:=r;rfl
 |str _=>obtain⟨t,rfl⟩:=r;rfl
 |byt _=>obtain⟨t,rfl⟩:=r;rfl
 |flt _=>obtain⟨t,rfl⟩:=r;rfl
 |ref _=>cases r;rfl
 |ty _=>cases r;rfl
theorem V0.inj{x y:V}{u:Value}(r:V0 x u)(q:V0 y u):x=y:=Option.some.inj (r.abs.symm.trans q.abs)
theorem G7.inj:∀{xs ys:List V} {us:List Value},G7 xs us ->G7 ys us ->xs=ys
 |_,_,_,.nil,.nil=>rfl
 |_,_,_,.cons r t,.cons r' t'=>by rw[r.inj r',G7.inj t t']
section
variable{X:Cx}{pins:List (Addr×Obj)}{σ:St}{H:Hp}{s:Shared}{a:Addr}{xs ys:List V}
theorem SqL.of{K:PySem.W.Frag}(h:H a=some (.lst xs)):SqL K H a xs:= .inl (.inl h)
theorem SqT.of{K:PySem.W.Frag}(h:H a=some (.tup xs)):SqT K H a xs:= .inl (.inl h)
theorem Inv.list(I:Inv X pins σ H s)(h:SqL X.K H a xs):∃its:List Value,G7 xs its/\PlainL s.heap a its.toArray/\xs.length<=sizeLine:=by
 rcases h with h|⟨o,its,n,hk,hc,hd,hs,hz,r⟩
 . obtain⟨z,its,n,r,e⟩:=h.ok I.hok
   exact⟨its,r,⟨_,n,e,rfl,rfl,rfl⟩,z⟩
 refine⟨its.toList,r,⟨o,n,I.kIn a o hk,hc,hd,by simpa using hs⟩,?_⟩
 have e:=r.length
 simp only[Array.length_toList] at e
 omega
theorem Inv.tuple(I:Inv X pins σ H s)(h:SqT X.K H a xs):∃its:List Value,G7 xs its/\IsTup s.heap a its.toArray/\xs.length<=sizeLine:=by
 rcases h with h|⟨o,its,n,hk,hc,hs,hz,r⟩
 . obtain⟨z,its,r,p⟩:=h.ok I.hok
   exact⟨its,r,p,z⟩
 refine⟨its.toList,r,⟨o,I.kIn a o hk,hc,n,by simpa using hs⟩,?_⟩
 have e:=r.length
 simp only[Array.length_toList] at e
 omega
theorem Inv.list_inj(I:Inv X pins σ H s)(h:SqL X.K H a xs)(h':SqL X.K H a ys):xs=ys:=by
 obtain⟨its,r,⟨o,n,e,_,_,d⟩,_⟩:=I.list h
 obtain⟨its',r',⟨o',n',e',_,_,d'⟩,_⟩:=I.list h'
 rw[e] at e';cases e'
 rw[d] at d'
 injection d' with d1 _
 have:its=its':=by simpa using congrArg Array.toList d1
 subst this
 exact r.inj r'
theorem Inv.tuple_inj(I:Inv X pins σ H s)(h:SqT X.K H a xs)(h':SqT X.K H a ys):xs=ys:=by
 obtain⟨its,r,⟨o,e,_,n,d⟩,_⟩:=I.tuple h
 obtain⟨its',r',⟨o',e',_,n',d'⟩,_⟩:=I.tuple h'
 rw[e] at e';cases e'
 rw[d] at d'
 injection d' with d1 _
 have:its=its':=by simpa using congrArg Array.toList d1
 subst this
 exact r.inj r'
end
noncomputable abbrev Cx.wish (X:Cx) (E:Value ->Shared ->Prop):Cx:={X with xe:=E}
noncomputable abbrev Cx.nox (X:Cx):Cx:=X.wish fun _ _=>False
theorem Cx.Ok.wish{X:Cx}(ok:X.Ok)(E:Value ->Shared ->Prop):(X.wish E).Ok:=
 ⟨ok.mod,ok.kind,ok.glob,ok.blt,ok.above,ok.inj,ok.has,ok.cab,ok.hd,ok.frames,ok.stk,ok.exf,ok.bs,ok.bsz,ok.noex,ok.exfs,ok.funs,ok.frf⟩
theorem Cx.Ok.unwish{X:Cx}{E:Value ->Shared ->Prop}(ok:(X.wish E).Ok):X.Ok:=
 ⟨ok.mod,ok.kind,ok.glob,ok.blt,ok.above,ok.inj,ok.has,ok.cab,ok.hd,ok.frames,ok.stk,ok.exf,ok.bs,ok.bsz,ok.noex,ok.exfs,ok.funs,ok.frf⟩
section
variable{X:Cx}{pins:List (Addr×Obj)}{σ:St}{H:Hp}{s:Shared}{E:Value ->Shared ->Prop}
theorem Inv.wish(I:Inv X pins σ H s)(E:Value ->Shared ->Prop):Inv (X.wish E) pins σ H s:=⟨I.ok.wish E,I.os,I.bare,I.base,I.loc,I.cell,I.free,I.freeC,I.pin,I.hok,I.len⟩
theorem Inv.unwish(I:Inv (X.wish E) pins σ H s):Inv X pins σ H s:=⟨I.ok.unwish,I.os,I.bare,I.base,I.loc,I.cell,I.free,I.freeC,I.pin,I.hok,I.len⟩
theorem SP.unwish{D:B2n}{f:Flow}{s':Shared}(h:SP (X.wish E) pins D f s'):SP X pins D f s':=by
 cases f with
 |next=>obtain⟨σ',H',I,q⟩:=h;exact⟨σ',H',I.unwish,q⟩
 |brk=>obtain⟨σ',H',I,q⟩:=h;exact⟨σ',H',I.unwish,q⟩
 |cont=>obtain⟨σ',H',I,q⟩:=h;exact⟨σ',H',I.unwish,q⟩
 |ret u=>obtain⟨v,σ',H',I,r,q⟩:=h;exact⟨v,σ',H',I.unwish,r,q⟩
theorem PSs.nox{st:List Stmt}{t:TS}(h:PSs X.nox st t):PSs X st t:=fun pins s σ H D I hw=>
 wpAny_mono (h pins s σ H D (I.wish _) hw) (fun _ _ q=>q.unwish) fun _ _ z=>False.elim z
end
section
variable{X:Cx}{st:Stmt}{rest:List Stmt}{t u:TS}{e:Expr}{te:TE}{pos:Pos}
noncomputable def G4u:TS:=fun D σ H=>D.nx σ H
noncomputable def G6p (t u:TS):TS:=fun D σ H=>t {D with nx:=u D} σ H
theorem D6:PSs X [] G4u:=fun _ _ σ H _ I h=>wpAny_execs_nil ⟨σ,H,I,h⟩
theorem A3(h1:PS X st t)(h2:PSs X rest u):PSs X (st::rest) (G6p t u):=by
 intro pins s σ H D I h
 refine wpAny_execs_cons (thn (h1 pins s σ H {D with nx:=u D} I h) fun f s1 q=>?_)
 cases f with
 | next=>
   obtain⟨σ',H',I',q⟩:=q
   exact h2 pins s1 σ' H' D I' q
 |ret v=>exact q
 |brk=>exact q
 |cont=>exact q
theorem A7(h1:PS X st t):PSs X [st] t:=by
 intro pins s σ H D I h
 refine wpAny_execs_cons (thn (h1 pins s σ H D I h) fun f s1 q=>?_)
 cases f with
 |next=>exact wpAny_execs_nil q
 |ret v=>exact q
 |brk=>exact q
 |cont=>exact q
theorem Inv.quiet{pins:List (Addr×Obj)}{σ:St}{H:Hp}{s:Shared}(I:Inv X pins σ H s):interactive X.env=false:=by simp[interactive,I.ok.kind]
noncomputable def G5z (te:TE):TS:=fun D σ H=>te σ H fun _ H1=>D.nx σ H1
theorem Y8(he:PE X e te)(hs:swapsWith e none pos.line X.env=pure false:=by rfl):PS X (.Expr e pos) (G5z te):=by
 intro pins s σ H D I h
 exact wpAny_Expr_any (thn (he pins s σ H _ I h) fun v s1 ⟨x,H1,I1,r1,q1⟩=>⟨σ,H1,I1,q1⟩) I.quiet hs
noncomputable def J0h (te:TE):TS:=fun D σ H=>te σ H D.rt
theorem B5(he:PE X e te):PS X (.Return (some e) pos) (J0h te):=by
 intro pins s σ H D I h
 exact wpAny_Return_some (thn (he pins s σ H _ I h) fun v s1 ⟨x,H1,I1,r1,q1⟩=>⟨x,σ,H1,I1,r1,q1⟩)
noncomputable def G9j (c:TT) (t u:TS):TS:=fun D σ H=>c σ H fun b H1=>if b=true then t D σ H1 else u D σ H1
theorem U2{c:Expr}{a b:List Stmt}{tc:TT}(hc:PT X c tc)(ha:PSs X a t)(hb:PSs X b u):PS X (.If c a b pos) (G9j tc t u):=by
 intro pins s σ H D I h
 refine wpAny_If (thn (hc pins s σ H _ I h) fun d s1 ⟨H1,I1,q1⟩=>?_)
 cases d with
 |true=>exact ha pins s1 σ H1 D I1 q1
 |false=>exact hb pins s1 σ H1 D I1 q1
end
noncomputable abbrev TG:=V ->St ->Hp ->(St ->Hp ->Prop) ->Prop
noncomputable abbrev TGs:=List V ->St ->Hp ->(St ->Hp ->Prop) ->Prop
noncomputable def PG (X:Cx) (target:Expr) (t:TG):Prop:=
 ∀ (pins:List (Addr×Obj)) (s:Shared) (σ:St) (H:Hp) (v:V) (u:Value) (Q:St ->Hp ->Prop),Inv X pins σ H s ->V0 v u ->t v σ H Q ->
   wpAny (model X.prog X.w) X.A (assign target X.env u) (fun _ s'=>∃σ' H',Inv X pins σ' H' s'/\Q σ' H') X.xe s
noncomputable def PGs (X:Cx) (ts:List Expr) (t:TGs):Prop:=
 ∀ (pins:List (Addr×Obj)) (s:Shared) (σ:St) (H:Hp) (vs:List V) (us:List Value) (Q:St ->Hp ->Prop),Inv X pins σ H s ->G7 vs us ->t vs σ H Q ->
   wpAny (model X.prog X.w) X.A (assignInOrder ((assignEach ts X.env).map (·.2)) us) (fun _ s'=>∃σ' H',Inv X pins σ' H' s'/\Q σ' H') X.xe s
noncomputable abbrev TIp:=V ->V ->Hp ->VK ->Prop
noncomputable def PIp (X:Cx) (op:Operator) (t:TIp):Prop:=
 ∀ (pins:List (Addr×Obj)) (s:Shared) (σ:St) (H:Hp) (x y:V) (v u:Value) (Q:VK),Inv X pins σ H s ->V0 x v ->V0 y u ->t x y H Q ->
   wpAny (model X.prog X.w) X.A (inplaceOp op v u) (EP X pins σ Q) X.xe s
section
variable{X:Cx}{pos:Pos}
noncomputable def B6f (i:Nat):TG:=fun v σ H Q=>Q (σ.set i (some v)) H
theorem D4{i:Nat}{x:Str}(hN:X.N.Nodup)(hi:X.N[i]?=some x)(hx:Loc X.env.scope x)(hf:X.fn x=true\/X.env.scope.names.lookup x=some .local:=by first|exact .inl rfl|exact .inr rfl|assumption):PG X (.Name x pos) (B6f i):=by
 intro pins s σ H v u Q I r h
 exact wpAny_assign_Name (A2d I hN hi hx r (fun s' I'=>⟨_,H,I',h⟩) hf)
noncomputable def J0n:TGs:=fun vs σ H Q=>vs=[]/\Q σ H
noncomputable def G5a (t:TG) (u:TGs):TGs:=fun vs σ H Q=>∃v r,vs=v::r/\t v σ H fun σ' H'=>u r σ' H' Q
theorem A0b:PGs X [] J0n:=by
 intro pins s σ H vs us Q I r h
 obtain⟨e,h⟩:=h
 subst e
 cases r
 exact assignInOrder_nil ⟨σ,H,I,h⟩
theorem D8{e:Expr}{es:List Expr}{t:TG}{u:TGs}(h1:PG X e t)(h2:PGs X es u)
   (hs:(assignEach (e::es) X.env).map (·.2)=assign e X.env::(assignEach es X.env).map (·.2):=by rfl):PGs X (e::es) (G5a t u):=by
 intro pins s σ H vs us Q I r h
 obtain⟨v,vr,e1,h⟩:=h
 subst e1
 cases r with
 | cons r rr=>
   rw[hs]
   refine assignInOrder_cons (thn (h1 pins s σ H _ _ _ I r h) fun _ s1 hh_=>?_)
   obtain⟨σ1,H1,I1,q1⟩:=hh_
   exact h2 pins s1 σ1 H1 _ _ Q I1 rr q1
noncomputable def D9u (K:PySem.W.Frag) (n:Nat) (t:TGs):TG:=fun v σ H Q=>∃a xs,v= .ref a/\SqT K H a xs/\xs.length=n/\t xs σ H Q
theorem A2c{es:List Expr}{k:Nat}{t:TGs}{n:Nat}(hc:X.calm=true)(h:PGs X es t)
   (hn:(assignEach es X.env).length=n:=by rfl) (hst:(assignEach es X.env).findIdx? (·.1)=none:=by rfl):PG X (.Tuple es k pos) (D9u X.K n t):=by
 intro pins s σ H v u Q I r hw
 obtain⟨a,xs,e1,hq,hl,hw⟩:=hw
 subst e1
 cases r
 obtain⟨its,rv,ht,hz⟩:=I.tuple hq
 refine assign_Tuple_tuple (I.ok.hd hc) ht (by simp[hn, <-hl,rv.length]) hst fun h' hx=>?_
 have I1:Inv X pins σ H {s with heap:=h'}:=I.kept (t':=s.toks) fun b o e=>hx b o (Nat.ne_of_lt (Heap.lt_size e)) e
 exact h pins _ σ H xs _ Q I1 (by simpa using rv) hw
noncomputable def D5x (te:TE) (g:TG):TS:=fun D σ H=>te σ H fun x H1=>g x σ H1 D.nx
theorem A2u{tg e:Expr}{te:TE}{g:TG}(he:PE X e te)(hg:PG X tg g)(hs:swapsWithSole [tg] e pos.line X.env=pure false:=by rfl)(hw:swappedStores [tg] e X.env=pure none:=by rfl)
   (h1:(assignEach [tg] X.env).map (·.2)=[assign tg X.env]:=by rfl):PS X (.Assign [tg] e pos) (D5x te g):=by
 intro pins s σ H D I h
 refine wpAny_Assign_stores (thn (he pins s σ H _ I h) fun v s1 hh_=>?_) hs hw
 obtain⟨x,H1,I1,r1,q1⟩:=hh_
 rw[h1]
 exact thn (hg pins s1 σ H1 x v _ I1 r1 q1) fun _ s2 q=>q
theorem D3{i:Nat}{x:Str}{e:Expr}{te:TE}{pos':Pos}(hN:X.N.Nodup)(hi:X.N[i]?=some x)(hx:Loc X.env.scope x)(he:PE X e te)(hs:swapsWith e (some (.Name x pos')) pos.line X.env=pure false:=by rfl)(hf:X.fn x=true\/X.env.scope.names.lookup x=some .local:=by first|exact .inl rfl|exact .inr rfl|assumption):
   PS X (.Assign [.Name x pos'] e pos) (D5x te (B6f i)):=by
 intro pins s σ H D I h
 refine wpAny_Assign_Name (thn (he pins s σ H _ I h) fun v s1 hh_=>?_) hs
 obtain⟨y,H1,I1,r1,q1⟩:=hh_
 exact A2d I1 hN hi hx r1 (fun s2 I2=>⟨_,H1,I2,q1⟩) hf
noncomputable def G9r (i:Nat) (te:TE) (ti:TIp):TS:=fun D σ H=>∃x,σ[i]?=some (some x)/\te σ H fun y H1=>ti x y H1 fun z H2=>D.nx (σ.set i (some z)) H2
theorem G1f{i:Nat}{x:Str}{e:Expr}{te:TE}{op:Operator}{ti:TIp}{pos':Pos}(hN:X.N.Nodup)(hi:X.N[i]?=some x)(hx:Loc X.env.scope x)(he:PE X e te)(ho:PIp X op ti)(hf:X.fn x=true\/X.env.scope.names.lookup x=some .local:=by first|exact .inl rfl|exact .inr rfl|assumption):
   PS X (.AugAssign (.Name x pos') op e pos) (G9r i te ti):=by
 intro pins s σ H D I h
 obtain⟨v,e1,h⟩:=h
 obtain⟨m,hn,hl⟩:=I.loc
 have vis:Vis X.env.scope x:=by rcases hx with k|k;exact .inl k;exact .inr (.inl k)
 obtain⟨u,r,l⟩:=hl i x v hi e1 vis
 refine wpAny_AugAssign_Name ?_
 have go:wpAny (model X.prog X.w) X.A (eval e X.env) (fun w s₂=>wpAny (model X.prog X.w) X.A (inplaceOp op u w) (fun r s₃=>wpAny (model X.prog X.w) X.A (storeName X.env x r) (fun _=>SP X pins D .next) X.xe s₃) X.xe s₂) X.xe s:=by
   refine thn (he pins s σ H _ I h) fun w s1 hh_=>?_
   obtain⟨y,H1,I1,r1,q1⟩:=hh_
   refine thn (ho pins s1 σ H1 v y u w _ I1 r r1 q1) fun z s2 hh_=>?_
   obtain⟨zv,H2,I2,r2,q2⟩:=hh_
   exact A2d I2 hN hi hx r2 (fun s3 I3=>⟨_,H2,I3,q2⟩) hf
 rcases l with⟨hk,hm⟩|⟨hk,c,hc,hcell⟩
 . exact wpAny_loadName_local I.ok.kind hk hn hm go
 rcases hk with hk|hk
 . exact wpAny_loadName_cell I.ok.kind hk hc hcell go
 rcases hx with k|k
 . have:X.env.scope.names.lookup x=some .free:=hk
   rw[k] at this;cases this
 have:X.env.scope.names.lookup x=some .free:=hk
 rw[k] at this;cases this
noncomputable def ipI (f:Int ->Int ->Int):TIp:=fun x y H Q=>∃i j,x= .int i/\y= .int j/\Q (.int (f i j)) H
theorem G0x:PIp X .Add (ipI fun i j=>i+j):=by
 intro pins s σ H x y v u Q I r1 r2 h
 obtain⟨i,j,e1,e2,q⟩:=h
 subst e1;subst e2
 obtain⟨t,rfl⟩:=r1
 obtain⟨t',rfl⟩:=r2
 exact iadd_int ⟨.int _,H,I.tok _,⟨_,rfl⟩,q⟩
end
section
variable{X:Cx}{pos:Pos}
noncomputable def C8u (c:TT) (tb:TS):TS:=fun D σ H=>∃W:Nat ->St ->Hp ->Prop,(∃m,W m σ H)/\∀m σ H,W m σ H ->
 c σ H fun b H1=>if b=true then∃N:St ->Hp ->Prop,(∀σ' H',N σ' H' ->∃m',m'<m/\W m' σ' H')/\tb {D with nx:=N,ct:=N,bk:=D.nx} σ H1 else D.nx σ H1
theorem A2x{c:Expr}{body:List Stmt}{tc:TT}{tb:TS}(hp:PassesOwn (model X.prog X.w) X.A X.env X.xe)(hc:PT X c tc)(hb:PSs X body tb):PS X (.While c body [] pos) (C8u tc tb):=by
 intro pins s σ H D I h
 obtain⟨W,⟨m0,w0⟩,turn⟩:=h
 refine wpAny_While (codeAny_whileLoop (fun n s'=>∃σ' H',Inv X pins σ' H' s'/\W n σ' H') ?_ m0 ⟨σ,H,I,w0⟩)
 rintro n s1 ⟨σ1,H1,I1,w1⟩
 refine wpAny_passesOwn hp (thn (hc pins s1 σ1 H1 _ I1 (turn n σ1 H1 w1)) fun b s2 ⟨H2,I2,q2⟩=>?_)
 cases b with
 | true=>
   obtain⟨N,hN,q2⟩:=q2
   rw[if_pos rfl]
   refine wpAny_passesOwn hp (thn (hb pins s2 σ1 H2 _ I2 q2) fun f s3 q3=>?_)
   cases f with
   | next=>
     obtain⟨σ3,H3,I3,n3⟩:=q3
     obtain⟨m',hm,w3⟩:=hN σ3 H3 n3
     exact⟨m',hm,σ3,H3,I3,w3⟩
   | cont=>
     obtain⟨σ3,H3,I3,n3⟩:=q3
     obtain⟨m',hm,w3⟩:=hN σ3 H3 n3
     exact⟨m',hm,σ3,H3,I3,w3⟩
   |brk=>exact q3
   |ret v=>exact q3
 | false=>
   rw[if_neg Bool.false_ne_true]
   exact wpAny_execs_nil ⟨σ1,H2,I2,q2⟩
end
structure It where
 go:Nat ->Hp ->Prop
 yld:Nat ->Hp ->V ->Hp ->Prop
 stop:Nat ->Hp ->Prop
noncomputable def A0s (X:Cx) (pins:List (Addr×Obj)) (H:Hp) (b:Addr):Prop:=
 H b=none/\b≠X.env.locals/\b ∉ X.fs/\(b∈X.ex\/X.s₀.heap.objs.size<=b)/\(∀x c,X.env.cells.lookup x=some c ->c≠b)/\∀p∈X.pn++pins,p.1≠b
theorem Inv.fpOk{X:Cx}{pins:List (Addr×Obj)}{σ:St}{H H':Hp}{s:Shared}{b:Addr}(I:Inv X pins σ H s)(hb:s.heap.objs.size<=b)(hn:H' b=none):A0s X pins H' b:=by
 refine⟨hn,Nat.ne_of_gt (Nat.lt_of_lt_of_le I.lt hb),I.nofs hb,.inr (Nat.le_trans I.sz hb),fun x c e z=>?_,fun p hp z=>?_⟩
 . obtain⟨v,q⟩:=I.cell x c e
   exact absurd (Nat.lt_of_lt_of_le q.lt (by rw[z];exact hb)) (Nat.lt_irrefl _)
 exact absurd (Nat.lt_of_lt_of_le (Heap.lt_size (I.pin p hp).1) (by rw[z];exact hb)) (Nat.lt_irrefl _)
structure C5v(P:Program)(w:World)(K:PySem.W.Frag)(tg:Expr)(J:It)(fp:List Addr)(it:Addr)(tn:Nat ->Heap ->Prop):Prop where
 mem:it∈fp
 obj:∀i h,tn i h ->∀b∈fp,∃o,h.get? b=some o/\∀v,o.data≠ .cell v
 keep:∀i h h',tn i h ->(∀b∈fp,∀o,h.get? b=some o ->h'.get? b=some o) ->tn i h'
 item:∀(X:Cx),X.prog=P ->X.w=w ->X.K=K ->X.calm=true ->∀(i:Nat) (pins:List (Addr×Obj)) (s:Shared) (σ:St) (H:Hp) (E:Value ->Shared ->Prop),Inv X pins σ H s ->(∀b∈fp,A0s X pins H b) ->tn i s.heap ->J.go i H ->
   wpAny (model P w) X.A (pyNext (.ref it)) (fun r s1=>∃u,r=some u/\
     wpAny (model P w) X.A (letOwnedTupleGo tg (.ref it) u) (fun _ s2=>∃x H',Inv X pins σ H' s2/\V0 x u/\J.yld i H x H'/\tn (i+1) s2.heap/\∀b∈fp,H' b=none) E s1) E s
 done:∀(X:Cx),X.prog=P ->X.w=w ->X.K=K ->X.calm=true ->∀(i:Nat) (pins:List (Addr×Obj)) (s:Shared) (σ:St) (H:Hp) (E:Value ->Shared ->Prop),Inv X pins σ H s ->(∀b∈fp,A0s X pins H b) ->tn i s.heap ->J.stop i H ->
   wpAny (model P w) X.A (pyNext (.ref it)) (fun r s1=>r=none/\Inv X pins σ H s1) E s
 self:∀(A:Around) (i:Nat) (s:Shared) (Q:Value ->Shared ->Prop) (E:Value ->Shared ->Prop),tn i s.heap ->Q (.ref it) s ->wpAny (model P w) A (pyIter (.ref it)) Q E s
noncomputable abbrev TI:=St ->Hp ->(It ->Hp ->Prop) ->Prop
noncomputable def PIE (X:Cx) (pins:List (Addr×Obj)) (σ:St) (tg:Expr) (R:It ->Hp ->Prop) (itv:Value) (s2:Shared):Prop:=
 ∃(it:Addr) (fp:List Addr) (tn:Nat ->Heap ->Prop) (J:It) (H':Hp),itv= .ref it/\Inv X pins σ H' s2/\C5v X.prog X.w X.K tg J fp it tn/\tn 0 s2.heap/\(∀b∈fp,A0s X pins H' b)/\R J H'
noncomputable def PI (X:Cx) (tg iter:Expr) (wi:TI):Prop:=
 ∀ (pins:List (Addr×Obj)) (s:Shared) (σ:St) (H:Hp) (R:It ->Hp ->Prop),Inv X pins σ H s ->wi σ H R ->
   wpAny (model X.prog X.w) X.A (eval iter X.env) (fun v s1=>wpAny (model X.prog X.w) X.A (pyIter v) (PIE X pins σ tg R) X.xe s1) X.xe s
theorem B6y{M:Model}{A:Around}{E:Value ->Shared ->Prop}{s:Shared}{tg:Expr}{it:Addr}{u:Value}{o:Obj}{n:String}{vs:Array Value}{Q:Unit ->Shared ->Prop}(ho:s.heap.get? it=some o)(hc:o.cls= .type n)(hd:o.data= .fields vs)
   (hn: ["enumerate","zip","dict_itemiterator","dict_reverseitemiterator","odict_iterator","itertools.zip_longest","itertools.pairwise"].contains n=false) (hQ:Q () s):wpAny M A (letOwnedTupleGo tg (.ref it) u) Q E s:=by
 unfold letOwnedTupleGo
 cases tg <;>first
   |exact wpAny_pure hQ
   |(cases u<;>first
       |exact wpAny_pure hQ
       | (refine wpAny_bind (wpAny_load ho ?_)
          rw[hc,hd]
          show wpAny M A (if(["enumerate","zip","dict_itemiterator","dict_reverseitemiterator","odict_iterator","itertools.zip_longest","itertools.pairwise"].contains n&&vs[0]?==some (rawInt _))=true then _ else _) Q E s
          rw[if_neg (by intro h;rw[hn,Bool.false_and] at h;cases h)]
          exact wpAny_pure hQ))
noncomputable def Itl (K:PySem.W.Frag) (a:Addr):It:=
 ⟨fun i H=>∃xs x,SqL K H a xs/\xs[i]?=some x,fun i H x H'=>H'=H/\∀xs,SqL K H a xs ->xs[i]?=some x,fun i H=>∃xs,SqL K H a xs/\xs.length<=i⟩
noncomputable def Itt (K:PySem.W.Frag) (a:Addr):It:=
 ⟨fun i H=>∃xs x,SqT K H a xs/\xs[i]?=some x,fun i H x H'=>H'=H/\∀xs,SqT K H a xs ->xs[i]?=some x,fun i H=>∃xs,SqT K H a xs/\xs.length<=i⟩
noncomputable def Itr (lo:Int) (n:Nat):It:=⟨fun i _=>i<n,fun i H x H'=>H'=H/\x= .int (lo+i),fun i _=>n<=i⟩
theorem C4p{P:Program}{w:World}{K:PySem.W.Frag}{tg:Expr}(a it:Addr):C5v P w K tg (Itl K a) [it] it (fun i h=>h.IsListIter it a i) where
 mem:=by simp
 obj:=fun i h st b hb=>by
   have e:b=it:=by simpa using hb
   subst e
   obtain⟨o,e,c,d⟩:=st
   exact⟨o,e,fun v z=>by rw[d] at z;cases z⟩
 keep:=fun i h h' st k=>st.at fun o e=>k it (by simp) o e
 item:=by
   intro X hP hw hK hc i pins s σ H E I hf st hg
   subst hP hw hK
   obtain⟨xs,x,hq,hx⟩:=hg
   obtain⟨its,rv,p,hz⟩:=I.list hq
   obtain⟨u,hu,ru⟩:=rv.get hx
   obtain⟨f0,f1,f2,f3,f4,f5⟩:=hf it (by simp)
   refine wpAny_pyNext_list_item st p.isList (x:=u) (by simpa using hu) fun h' st' sb=>?_
   have I1:Inv X pins σ H {s with heap:=h'}:=I.turned (t':=s.toks) (fun b o hb e=>(sb.2 b hb).trans e) f0 f1 f3 f4 f5
   obtain⟨o,e,c,d⟩:=id st'
   exact⟨u,rfl,B6y (s:={s with heap:=h'}) e c d (by decide) ⟨x,H,I1,ru,⟨rfl,fun ys hy=>by rw[I.list_inj hy hq];exact hx⟩,st',fun b hb=>(hf b hb).1⟩⟩
 done:=by
   intro X hP hw hK hc i pins s σ H E I hf st hg
   subst hP hw hK
   obtain⟨xs,hq,hx⟩:=hg
   obtain⟨its,rv,p,hz⟩:=I.list hq
   obtain⟨f0,f1,f2,f3,f4,f5⟩:=hf it (by simp)
   have hl:=rv.length
   exact wpAny_pyNext_list_end (I.ok.hd hc) st p.isList (by simp;omega) fun h' eb=>⟨rfl,I.turned (t':=s.toks) (fun b o hb e=>eb b o hb e) f0 f1 f3 f4 f5⟩
 self:=fun _ _ _ _ _ st h=>wpAny_pyIter_listiter st h
theorem B8h{P:Program}{w:World}{K:PySem.W.Frag}{tg:Expr}(a it:Addr):C5v P w K tg (Itt K a) [it] it (fun i h=>h.IsTupleIter it a i) where
 mem:=by simp
 obj:=fun i h st b hb=>by
   have e:b=it:=by simpa using hb
   subst e
   obtain⟨o,e,c,d⟩:=st
   exact⟨o,e,fun v z=>by rw[d] at z;cases z⟩
 keep:=fun i h h' st k=>st.at fun o e=>k it (by simp) o e
 item:=by
   intro X hP hw hK hc i pins s σ H E I hf st hg
   subst hP hw hK
   obtain⟨xs,x,hq,hx⟩:=hg
   obtain⟨its,rv,p,hz⟩:=I.tuple hq
   obtain⟨u,hu,ru⟩:=rv.get hx
   obtain⟨f0,f1,f2,f3,f4,f5⟩:=hf it (by simp)
   refine wpAny_pyNext_tuple_item st (show s.heap.IsTuple a its.toArray from p) (x:=u) (by simpa using hu) fun h' st' sb=>?_
   have I1:Inv X pins σ H {s with heap:=h'}:=I.turned (t':=s.toks) (fun b o hb e=>(sb.2 b hb).trans e) f0 f1 f3 f4 f5
   obtain⟨o,e,c,d⟩:=id st'
   exact⟨u,rfl,B6y (s:={s with heap:=h'}) e c d (by decide) ⟨x,H,I1,ru,⟨rfl,fun ys hy=>by rw[I.tuple_inj hy hq];exact hx⟩,st',fun b hb=>(hf b hb).1⟩⟩
 done:=by
   intro X hP hw hK hc i pins s σ H E I hf st hg
   subst hP hw hK
   obtain⟨xs,hq,hx⟩:=hg
   obtain⟨its,rv,p,hz⟩:=I.tuple hq
   obtain⟨f0,f1,f2,f3,f4,f5⟩:=hf it (by simp)
   have hl:=rv.length
   exact wpAny_pyNext_tuple_end (I.ok.hd hc) st (show s.heap.IsTuple a its.toArray from p) (by simp;omega) fun h' eb=>⟨rfl,I.turned (t':=s.toks) (fun b o hb e=>eb b o hb e) f0 f1 f3 f4 f5⟩
 self:=fun _ _ _ _ _ st h=>wpAny_pyIter_tupleiter st h
theorem B8t{P:Program}{w:World}{K:PySem.W.Frag}{tg:Expr}(it:Addr)(lo:Int)(n:Nat):C5v P w K tg (Itr lo n) [it] it (fun i h=>IsRangeIter h it (lo+(i:Nat)*1) ((n:Int)- (i:Nat)) 1) where
 mem:=by simp
 obj :=fun i h st b hb=>by
   have e:b=it:=by simpa using hb
   subst e
   exact⟨_,st,fun v z=>by
     have z':Data.fields _=Data.cell v:=z
     cases z'⟩
 keep:=fun i h h' st k=>k it (by simp) _ st
 item:=by
   intro X hP hw hK hc i pins s σ H E I hf st hg
   subst hP hw hK
   obtain⟨f0,f1,f2,f3,f4,f5⟩:=hf it (by simp)
   have W:=Walks.range (prog:=X.prog) (w:=X.w) (I.ok.hd hc) it lo 1 n
   refine W.item i s _ _ hg st fun v h' tk hv st' kk=>?_
   obtain⟨t,rfl⟩:=hv
   have I1:Inv X pins σ H {s with heap:=h',toks:=tk}:=I.turned (fun b o hb e=>kk b o (by simpa using hb) e) f0 f1 f3 f4 f5
   refine⟨_,rfl,B6y (s:={s with heap:=h',toks:=tk}) (n:="range_iterator") st' rfl rfl (by decide) ⟨.int (lo+i),H,I1,⟨t,?_⟩,⟨rfl,rfl⟩,st',fun b hb=>(hf b hb).1⟩⟩
   rw[Int.mul_one]
 done:=by
   intro X hP hw hK hc i pins s σ H E I hf st hg
   subst hP hw hK
   obtain⟨f0,f1,f2,f3,f4,f5⟩:=hf it (by simp)
   exact wpAny_pyNext_range_end (I.ok.hd hc) st (by have:n<=i:=hg;omega) fun h' eb=>⟨rfl,I.turned (t':=s.toks) (fun b o hb e=>eb b o hb e) f0 f1 f3 f4 f5⟩
 self:=fun _ _ _ _ _ st h=>wpAny_pyIter_rangeiter st h
section
variable{X:Cx}{tg:Expr}
noncomputable def D9c (K:PySem.W.Frag) (tl:TE):TI:=fun σ H R=>tl σ H fun x H1=>∃a,x= .ref a/\(∃xs,SqL K H1 a xs)/\R (Itl K a) H1
noncomputable def G2e (K:PySem.W.Frag) (tl:TE):TI:=fun σ H R=>tl σ H fun x H1=>∃a,x= .ref a/\(∃xs,SqT K H1 a xs)/\R (Itt K a) H1
theorem B5a{l:Expr}{tl:TE}(hl:PE X l tl):PI X tg l (D9c X.K tl):=by
 intro pins s σ H R I h
 refine thn (hl pins s σ H _ I h) fun v s1 hh_=>?_
 obtain⟨x,H1,I1,r1,q1⟩:=hh_
 obtain⟨a,e,⟨xs,hq⟩,q⟩:=q1
 subst e
 cases r1
 obtain⟨its,rv,p,hz⟩:=I1.list hq
 refine wpAny_pyIter_list p.isList ?_
 refine⟨s1.heap.objs.size,[s1.heap.objs.size],_,_,H1,rfl,I1.kept (t':=s1.toks) fun b o e=>Heap.get?_push_of_some _ e,C4p a _,⟨_,Heap.get?_push_size _ rfl,rfl,rfl⟩,fun b hb=>?_,q⟩
 have e:b=s1.heap.objs.size:=by simpa using hb
 subst e
 exact I1.fpOk (Nat.le_refl _) (I1.hok.fresh (Nat.le_refl _))
theorem D9t{l:Expr}{tl:TE}(hl:PE X l tl):PI X tg l (G2e X.K tl):=by
 intro pins s σ H R I h
 refine thn (hl pins s σ H _ I h) fun v s1 hh_=>?_
 obtain⟨x,H1,I1,r1,q1⟩:=hh_
 obtain⟨a,e,⟨xs,hq⟩,q⟩:=q1
 subst e
 cases r1
 obtain⟨its,rv,p,hz⟩:=I1.tuple hq
 refine wpAny_pyIter_tuple (show s1.heap.IsTuple a its.toArray from p) ?_
 refine⟨s1.heap.objs.size,[s1.heap.objs.size],_,_,H1,rfl,I1.kept (t':=s1.toks) fun b o e=>Heap.get?_push_of_some _ e,B8h a _,⟨_,Heap.get?_push_size _ rfl,rfl,rfl⟩,fun b hb=>?_,q⟩
 have e:b=s1.heap.objs.size:=by simpa using hb
 subst e
 exact I1.fpOk (Nat.le_refl _) (I1.hok.fresh (Nat.le_refl _))
theorem C6n{pins:List (Addr×Obj)}{σ:St}{H:Hp}{s:Shared}{R:It ->Hp ->Prop}{E:Value ->Shared ->Prop}{lo hi:Int}{t u v:Tok}{tk:Nat}(I:Inv X pins σ H s)(h1: -(2^62)<=lo)(h2:lo<2^62)(h3: -(2^62)<=hi)(h4:hi<2^62)
   (q:R (Itr lo (hi-lo).toNat) H):wpAny (model X.prog X.w) X.A (pyIter (.ref s.heap.objs.size)) (PIE X pins σ tg R) E {s with heap:=s.heap.push {cls:= .type "range",data:= .fields #[.int lo t,.int hi u,.int 1 v]},toks:=tk}:=by
 refine wpAny_pyIter_range (IsRange.new ..) (small_one h1 h2 h3 h4) ?_
 have I1:Inv X pins σ H {s with heap:=s.heap.push {cls:= .type "range",data:= .fields #[.int lo t,.int hi u,.int 1 v]},toks:=tk}:=I.kept fun b o e=>Heap.get?_push_of_some _ e
 refine⟨(s.heap.push {cls:= .type "range",data:= .fields #[.int lo t,.int hi u,.int 1 v]}).objs.size,[(s.heap.push {cls:= .type "range",data:= .fields #[.int lo t,.int hi u,.int 1 v]}).objs.size],_,_,H,rfl,
   I1.kept (t':=tk) fun b o e=>Heap.get?_push_of_some _ e,B8t _ lo (hi-lo).toNat,?_,fun b hb=>?_,q⟩
 . have e1:lo+((0:Nat):Int)*1=lo:=by simp
   have e2:(((hi-lo).toNat:Nat):Int)- ((0:Nat):Int)=Builtin.Range.rangeSize lo hi 1:=by rw[rangeSize_one];split<;>omega
   show IsRangeIter _ _ (lo+((0:Nat):Int)*1) ((((hi-lo).toNat:Nat):Int)- ((0:Nat):Int)) 1
   rw[e1,e2]
   exact Heap.get?_push_size _ rfl
 have e:b=(s.heap.push {cls:= .type "range",data:= .fields #[.int lo t,.int hi u,.int 1 v]}).objs.size:=by simpa using hb
 subst e
 exact I1.fpOk (Nat.le_refl _) (I1.hok.fresh (Nat.le_refl _))
noncomputable def G5k (ta:TA):TI:=fun σ H R=>ta σ H fun vs H1=>∃j:Int,vs=[.int j]/\ -(2^62)<=j/\j<2^62/\R (Itr 0 j.toNat) H1
theorem A1v{a:Expr}{ta:TA}{p pos:Pos}(hg:Gl X "range")(hm:X.mg "range"=none)(ha:PA X [a] ta)(hs:starEach [a] X.env=[(false,eval a X.env)]:=by rfl):PI X tg (.Call (.Name "range" p) [a] [] pos) (G5k ta):=by
 intro pins s σ H R I h
 refine Call_ (A7g I hg hm boot_range (PyProof.Rows.callWith_type1 (thn (ha pos pins s σ H _ I h) fun us s1 hh_=>?_) hs rfl))
 obtain⟨vs,H1,I1,r1,q1⟩:=hh_
 obtain⟨j,e,q1,q2,q⟩:=q1
 subst e
 cases r1 with
 | cons r rr=>
   cases rr
   obtain⟨t,rfl⟩:=r
   exact call_range_1 (C6n I1 (by omega) (by omega) q1 q2 (by simpa using q))
noncomputable def G6k (wi:TI) (g:TG) (tb:TS):TS:=fun D σ H=>wi σ H fun J H1=>∃W:Nat ->Nat ->St ->Hp ->Prop,(∃m,W 0 m σ H1)/\∀i m σ H,W i m σ H ->
 (J.stop i H/\D.nx σ H)\/(J.go i H/\∃N:St ->Hp ->Prop,(∀σ' H',N σ' H' ->∃m',m'<m/\W (i+1) m' σ' H')/\∀x H',J.yld i H x H' ->g x σ H' fun σ2 H2=>tb {D with nx:=N,ct:=N,bk:=D.nx} σ2 H2)
noncomputable def A0p (fp:List Addr) (h:Heap):List (Addr×Obj):=fp.filterMap fun b=>(h.get? b).map fun o=>(b,o)
theorem A0g{fp:List Addr}{h:Heap}{b:Addr}{o:Obj}(hb:b∈fp)(e:h.get? b=some o):(b,o)∈A0p fp h:=List.mem_filterMap.mpr ⟨b,hb,by rw[e];rfl⟩
theorem C4g{fp:List Addr}{h:Heap}{p:Addr×Obj}(hp:p∈A0p fp h):p.1∈fp/\h.get? p.1=some p.2:=by
 obtain⟨b,hb,e⟩:=List.mem_filterMap.mp hp
 cases q:h.get? b with
 |none=>rw[q] at e;cases e
 | some o=>
   rw[q] at e
   have e':(b,o)=p:=Option.some.inj e
   subst e'
   exact⟨hb,q⟩
theorem Inv.pinned{pins:List (Addr×Obj)}{σ:St}{H:Hp}{s:Shared}{fp:List Addr}(I:Inv X pins σ H s)(hf:∀b∈fp,A0s X pins H b)(ho:∀b∈fp,∃o,s.heap.get? b=some o/\∀v,o.data≠ .cell v):Inv X (pins++A0p fp s.heap) σ H s:=
 I.pins_of fun p hp=>(List.mem_append.mp hp).elim (fun z=>I.pin p (List.mem_append_right _ z)) fun z=>by
   obtain⟨hb,e⟩:=C4g z
   obtain⟨f0,f1,f2,_⟩:=hf p.1 hb
   obtain⟨o,e',d⟩:=ho p.1 hb
   rw[e] at e';cases e'
   exact⟨e,f0,f1,f2,d⟩
theorem Inv.unpinned{pins pl:List (Addr×Obj)}{σ:St}{H:Hp}{s:Shared}(I:Inv X (pins++pl) σ H s):Inv X pins σ H s:=I.pins_of fun p hp=>I.pin p (List.mem_append_right _ (List.mem_append_left _ hp))
theorem B0h{iter:Expr}{body:List Stmt}{wi:TI}{g:TG}{tb:TS}{pos:Pos}(hp:PassesOwn (model X.prog X.w) X.A X.env X.xe)(hc:X.calm=true)(hi:PI X tg iter wi)(hg:PG X tg g)(hb:PSs X body tb)
   (hs:∀x,foldedSetIterable iter X.env x=pure x:=by intro _;rfl):PS X (.For tg iter body [] pos) (G6k wi g tb):=by
 intro pins s σ H D I h
 refine wpAny_For (thn (hi pins s σ H _ I h) fun v s1 h1=>thn h1 fun itv s2 h2=>?_) hs
 obtain⟨it,fp,tn,J,H2,e,I2,T,st2,f2,W,⟨m0,w0⟩,turn⟩:=h2
 subst e
 have stat:∀{H':Hp},(∀b∈fp,H' b=none) ->∀b∈fp,A0s X pins H' b:=fun hn b hb=>⟨hn b hb,(f2 b hb).2⟩
 refine codeAny_forLoop_any (fun n s'=>∃i σ' H',Inv X pins σ' H' s'/\tn i s'.heap/\(∀b∈fp,H' b=none)/\W i n σ' H') ?_ m0 ⟨0,σ,H2,I2,st2,fun b hb=>(f2 b hb).1,w0⟩
 rintro n s3 ⟨i,σ3,H3,I3,st3,fr3,w3⟩
 rcases turn i n σ3 H3 w3 with⟨stop,qn⟩|⟨go,N,hN,step⟩
 . refine wpAny_passesOwn hp (thn (T.done X rfl rfl rfl hc i pins s3 σ3 H3 X.xe I3 (stat fr3) st3 stop) fun r s4 ⟨hr,I4⟩=>?_)
   subst hr
   exact wpAny_execs_nil ⟨σ3,H3,I4,qn⟩
 refine wpAny_passesOwn hp (thn (T.item X rfl rfl rfl hc i pins s3 σ3 H3 X.xe I3 (stat fr3) st3 go) fun r s4 ⟨u,hr,h4⟩=>?_)
 subst hr
 refine wpAny_passesOwn hp (thn h4 fun _ s5 hh_=>?_)
 obtain⟨x,H5,I5,r5,y5,st5,fr5⟩:=hh_
 have I5':=I5.pinned (stat fr5) (T.obj _ _ st5)
 refine wpAny_passesOwn hp (thn (hg _ s5 σ3 H5 x u _ I5' r5 (step x H5 y5)) fun _ s6 hh_=>?_)
 obtain⟨σ6,H6,I6,q6⟩:=hh_
 refine wpAny_passesOwn hp (thn (hb _ s6 σ6 H6 _ I6 q6) fun f s7 q7=>?_)
 have again:∀{σ7:St} {H7:Hp},Inv X (pins++A0p fp s5.heap) σ7 H7 s7 ->N σ7 H7 ->∃m,m<n/\∃i σ' H',Inv X pins σ' H' s7/\tn i s7.heap/\(∀b∈fp,H' b=none)/\W i m σ' H':=fun{σ7 H7} I7 n7=>by
   obtain⟨m',hm,w7⟩:=hN σ7 H7 n7
   refine⟨m',hm,i+1,σ7,H7,I7.unpinned,T.keep _ _ _ st5 fun b hb o e=>(I7.pin (b,o) (List.mem_append_right _ (List.mem_append_right _ (A0g hb e)))).1,fun b hb=>?_,w7⟩
   obtain⟨o,e,d⟩:=T.obj _ _ st5 b hb
   exact(I7.pin (b,o) (List.mem_append_right _ (List.mem_append_right _ (A0g hb e)))).2.1
 cases f with
 |next=>obtain⟨σ7,H7,I7,n7⟩:=q7;exact again I7 n7
 |cont=>obtain⟨σ7,H7,I7,n7⟩:=q7;exact again I7 n7
 |brk=>obtain⟨σ7,H7,I7,q7⟩:=q7;exact⟨σ7,H7,I7.unpinned,q7⟩
 |ret v=>obtain⟨x7,σ7,H7,I7,r7,q7⟩:=q7;exact⟨x7,σ7,H7,I7.unpinned,r7,q7⟩
end
theorem A6d{K:PySem.W.Frag}{a:Addr}{xs:List V}{g:TG}{tb:TS}{D:B2n}{σ:St}{H:Hp}(Pv:Nat ->St ->Hp ->Prop)(h0:Pv 0 σ H)(hl:∀i σ H,i<=xs.length ->Pv i σ H ->SqL K H a xs)
   (hs:∀i x σ H,xs[i]?=some x ->Pv i σ H ->g x σ H fun σ2 H2=>tb {D with nx:=Pv (i+1),ct:=Pv (i+1),bk:=D.nx} σ2 H2) (hd:∀σ H,Pv xs.length σ H ->D.nx σ H):
   ∃ W:Nat ->Nat ->St ->Hp ->Prop,(∃m,W 0 m σ H)/\∀i m σ H,W i m σ H ->
     ((Itl K a).stop i H/\D.nx σ H)\/((Itl K a).go i H/\∃N:St ->Hp ->Prop,(∀σ' H',N σ' H' ->∃m',m'<m/\W (i+1) m' σ' H')/\∀x H',(Itl K a).yld i H x H' ->g x σ H' fun σ2 H2=>tb {D with nx:=N,ct:=N,bk:=D.nx} σ2 H2):=by
 refine⟨fun i m σ H=>m=xs.length-i/\i<=xs.length/\Pv i σ H,⟨xs.length,by simp,Nat.zero_le _,h0⟩,?_⟩
 rintro i m σ H ⟨rfl,hi,p⟩
 have q:=hl i σ H hi p
 by_cases hlt:i<xs.length
 . refine .inr ⟨⟨xs,xs[i],q,by simp[hlt]⟩,Pv (i+1),fun σ' H' p'=>⟨xs.length-(i+1),by omega,rfl,hlt,p'⟩,fun x H' y=>?_⟩
   obtain⟨e,y⟩:=y
   subst e
   exact hs i x σ _ (y xs q) p
 have e:i=xs.length:=by omega
 subst e
 exact .inl ⟨⟨xs,q,Nat.le_refl _⟩,hd σ H p⟩
theorem A7p{lo:Int}{n:Nat}{g:TG}{tb:TS}{D:B2n}{σ:St}{H:Hp}(Pv:Nat ->St ->Hp ->Prop)(h0:Pv 0 σ H)
   (hs:∀i σ H,i<n ->Pv i σ H ->g (.int (lo+i)) σ H fun σ2 H2=>tb {D with nx:=Pv (i+1),ct:=Pv (i+1),bk:=D.nx} σ2 H2) (hd:∀σ H,Pv n σ H ->D.nx σ H):
   ∃ W:Nat ->Nat ->St ->Hp ->Prop,(∃m,W 0 m σ H)/\∀i m σ H,W i m σ H ->
     ((Itr lo n).stop i H/\D.nx σ H)\/((Itr lo n).go i H/\∃N:St ->Hp ->Prop,(∀σ' H',N σ' H' ->∃m',m'<m/\W (i+1) m' σ' H')/\∀x H',(Itr lo n).yld i H x H' ->g x σ H' fun σ2 H2=>tb {D with nx:=N,ct:=N,bk:=D.nx} σ2 H2):=by
 refine⟨fun i m σ H=>m=n-i/\i<=n/\Pv i σ H,⟨n,by simp,Nat.zero_le _,h0⟩,?_⟩
 rintro i m σ H ⟨rfl,hi,p⟩
 by_cases hlt:i<n
 . refine .inr ⟨hlt,Pv (i+1),fun σ' H' p'=>⟨n-(i+1),by omega,rfl,hlt,p'⟩,fun x H' y=>?_⟩
   obtain⟨e,y⟩:=y
   subst e y
   exact hs i σ _ hlt p
 have e:i=n:=by omega
 subst e
 exact .inl ⟨Nat.le_refl _,hd σ H p⟩
theorem A3g{c:TT}{tb:TS}{D:B2n}{σ:St}{H:Hp}(Pv:St ->Hp ->Prop)(μ:St ->Hp ->Nat)(h0:Pv σ H)
   (hs:∀σ H,Pv σ H ->c σ H fun b H1=>if b=true then tb {D with nx:=fun σ' H'=>Pv σ' H'/\μ σ' H'<μ σ H,ct:=fun σ' H'=>Pv σ' H'/\μ σ' H'<μ σ H,bk:=D.nx} σ H1 else D.nx σ H1)
   (mono:∀σ H Q Q',(∀b H1,Q b H1 ->Q' b H1) ->c σ H Q ->c σ H Q'):C8u c tb D σ H:=by
 refine⟨fun m σ H=>m=μ σ H/\Pv σ H,⟨_,rfl,h0⟩,?_⟩
 rintro m σ H ⟨rfl,p⟩
 refine mono σ H _ _ (fun b H1 q=>?_) (hs σ H p)
 cases b with
 |true=>exact⟨_,fun σ' H' ⟨p',l⟩=>⟨_,l,rfl,p'⟩,q⟩
 |false=>exact q
noncomputable abbrev R2:=V ->V ->Hp ->VK ->Prop
noncomputable def OpR (X:Cx) (f:Value ->Value ->Sem Value) (r:R2):Prop:=
 ∀ (pins:List (Addr×Obj)) (s:Shared) (σ:St) (H:Hp) (x y:V) (v u:Value) (Q:VK),Inv X pins σ H s ->V0 x v ->V0 y u ->r x y H Q ->
   wpAny (model X.prog X.w) X.A (f v u) (EP X pins σ Q) X.xe s
noncomputable def UnR (X:Cx) (f:Value ->Sem Value) (r:V ->Hp ->VK ->Prop):Prop:=
 ∀ (pins:List (Addr×Obj)) (s:Shared) (σ:St) (H:Hp) (x:V) (v:Value) (Q:VK),Inv X pins σ H s ->V0 x v ->r x H Q ->
   wpAny (model X.prog X.w) X.A (f v) (EP X pins σ Q) X.xe s
noncomputable def A1n (X:Cx) (f:Value) (r:List V ->Hp ->VK ->Prop):Prop:=
 ∀ (pins:List (Addr×Obj)) (s:Shared) (σ:St) (H:Hp) (xs:List V) (us:List Value) (Q:VK),Inv X pins σ H s ->G7 xs us ->r xs H Q ->
   wpAny (model X.prog X.w) X.A (call f us) (EP X pins σ Q) X.xe s
noncomputable def tOp (r:R2) (ta tb:TE):TE:=fun σ H Q=>ta σ H fun x H1=>tb σ H1 fun y H2=>r x y H2 Q
noncomputable def tUn (r:V ->Hp ->VK ->Prop) (ta:TE):TE:=fun σ H Q=>ta σ H fun x H1=>r x H1 Q
noncomputable def rI (C:Int ->Int ->Prop) (g:Int ->Int ->V):R2:=fun x y H Q=>∃i j,x= .int i/\y= .int j/\C i j/\Q (g i j) H
noncomputable def rI0 (g:Int ->Int ->V):R2:=fun x y H Q=>∃i j,x= .int i/\y= .int j/\Q (g i j) H
noncomputable def rU (g:Int ->V):V ->Hp ->VK ->Prop:=fun x H Q=>∃i,x= .int i/\Q (g i) H
section
variable{X:Cx}{a b c:Expr}{ta tb tc:TE}{pos:Pos}
theorem G0u(ha:PE X a ta)(hb:PE X b tb){pins:List (Addr×Obj)}{s:Shared}{σ:St}{H:Hp}{R:V ->V ->Hp ->Prop}(I:Inv X pins σ H s)
   (h:ta σ H fun x H1=>tb σ H1 fun y H2=>R x y H2) {Q:Value ->Shared ->Prop} {f:Value ->Value ->Sem Value}
   (hf:∀v u s2 x y H2,Inv X pins σ H2 s2 ->V0 x v ->V0 y u ->R x y H2 ->wpAny (model X.prog X.w) X.A (f v u) Q X.xe s2):
   wpAny (model X.prog X.w) X.A (eval a X.env) (fun v s₁=>wpAny (model X.prog X.w) X.A (eval b X.env) (fun u s₂=>wpAny (model X.prog X.w) X.A (f v u) Q X.xe s₂) X.xe s₁) X.xe s:=by
 refine thn (ha pins s σ H _ I h) fun v s1 hh_=>?_
 obtain⟨x,H1,I1,r1,q1⟩:=hh_
 refine thn (hb pins s1 σ H1 _ I1 q1) fun u s2 hh_=>?_
 obtain⟨y,H2,I2,r2,q2⟩:=hh_
 exact hf v u s2 x y H2 I2 r1 r2 q2
theorem A9{op:Operator}{r:R2}(ho:OpR X (binaryOp op) r)(ha:PE X a ta)(hb:PE X b tb):PE X (.BinOp a op b pos) (tOp r ta tb):=by
 intro pins s σ H Q I h
 exact wpAny_BinOp (G0u ha hb I h fun v u s2 x y H2 I2 rx ry q=>ho pins s2 σ H2 x y v u Q I2 rx ry q)
theorem A2j{op:UnaryOp}{r:V ->Hp ->VK ->Prop}(ho:UnR X (unaryOp op) r)(ha:PE X a ta):PE X (.UnaryOp op a pos) (tUn r ta):=by
 intro pins s σ H Q I h
 exact UnaryOp_ (thn (ha pins s σ H _ I h) fun v s1 ⟨x,H1,I1,r1,q1⟩=>ho pins s1 σ H1 x v Q I1 r1 q1)
theorem opI{f:Value ->Value ->Sem Value}{C:Int ->Int ->Prop}{g:Int ->Int ->Int}
   (rule:∀(i j:Int) (t u:Tok) (s:Shared) (Q:Value ->Shared ->Prop) (E:Value ->Shared ->Prop),C i j ->Q (.int (g i j) s.toks) {s with toks:=s.toks+1} ->wpAny (model X.prog X.w) X.A (f (.int i t) (.int j u)) Q E s):
   OpR X f (rI C fun i j=> .int (g i j)):=by
 intro pins s σ H x y v u Q I rx ry h
 obtain⟨i,j,rfl,rfl,hc,q⟩:=h
 obtain⟨t,rfl⟩:=rx
 obtain⟨t',rfl⟩:=ry
 exact rule i j t t' s _ _ hc ⟨.int (g i j),H,I.tok _,⟨_,rfl⟩,q⟩
theorem G6v{f:Value ->Value ->Sem Value}{g:Int ->Int ->Int}
   (rule:∀(i j:Int) (t u:Tok) (s:Shared) (Q:Value ->Shared ->Prop) (E:Value ->Shared ->Prop),Q (.int (g i j) s.toks) {s with toks:=s.toks+1} ->wpAny (model X.prog X.w) X.A (f (.int i t) (.int j u)) Q E s):
   OpR X f (rI0 fun i j=> .int (g i j)):=by
 intro pins s σ H x y v u Q I rx ry h
 obtain⟨i,j,rfl,rfl,q⟩:=h
 obtain⟨t,rfl⟩:=rx
 obtain⟨t',rfl⟩:=ry
 exact rule i j t t' s _ _ ⟨.int (g i j),H,I.tok _,⟨_,rfl⟩,q⟩
theorem D6g{f:Value ->Value ->Sem Value}{g:Int ->Int ->Bool}
   (rule:∀(i j:Int) (t u:Tok) (s:Shared) (Q:Value ->Shared ->Prop) (E:Value ->Shared ->Prop),Q (.bool (g i j)) s ->wpAny (model X.prog X.w) X.A (f (.int i t) (.int j u)) Q E s):
   OpR X f (rI0 fun i j=> .bl (g i j)):=by
 intro pins s σ H x y v u Q I rx ry h
 obtain⟨i,j,rfl,rfl,q⟩:=h
 obtain⟨t,rfl⟩:=rx
 obtain⟨t',rfl⟩:=ry
 exact rule i j t t' s _ _ ⟨.bl (g i j),H,I,rfl,q⟩
noncomputable def D6p (i j:Int):Prop:=0<=j/\j<=1000000/\i.natAbs<2^64
noncomputable def A2h (i j:Int):Prop:=(-(2^64)<i/\i<2^64)\/(-(2^64)<j/\j<2^64)
theorem A2h.ok{i j:Int}(h:A2h i j):IntMulOk i j:=by
 rcases h with⟨h1,h2⟩|⟨h1,h2⟩
 . exact .of_left (intBits_le_64 h1 h2)
 exact .of_right (intBits_le_64 h1 h2)
theorem G9:OpR X (binaryOp .Add) (rI0 fun i j=> .int (i+j)):=G6v fun _ _ _ _ _ _ _ q=>add_int q
theorem Y4:OpR X (binaryOp .Sub) (rI0 fun i j=> .int (i-j)):=G6v fun _ _ _ _ _ _ _ q=>sub_int q
theorem U6:OpR X (binaryOp .Mod) (rI (fun _ j=>0<j) fun i j=> .int (i % j)):=opI fun i j _ _ _ _ _ hc q=>by
 have h1:(0:Int)<j:=hc
 exact mod_int' (by omega) (by rw[Int.fmod_eq_emod_of_nonneg i (by omega)];exact q)
theorem C8v:OpR X (binaryOp .Pow) (rI D6p fun i j=> .int (i^j.toNat)):=opI fun _ _ _ _ _ _ _ hc q=>pow_int_small hc.1 hc.2.1 hc.2.2 q
theorem G2c:OpR X (binaryOp .LShift) (rI D6p fun i j=> .int (i*2^j.toNat)):=opI fun _ _ _ _ _ _ _ hc q=>lshift_int_small hc.1 hc.2.1 hc.2.2 q
theorem unI{f:Value ->Sem Value}{g:Int ->Int}
   (rule:∀(i:Int) (t:Tok) (s:Shared) (Q:Value ->Shared ->Prop) (E:Value ->Shared ->Prop),Q (.int (g i) s.toks) {s with toks:=s.toks+1} ->wpAny (model X.prog X.w) X.A (f (.int i t)) Q E s):
   UnR X f (rU fun i=> .int (g i)):=by
 intro pins s σ H x v Q I rx h
 obtain⟨i,rfl,q⟩:=h
 obtain⟨t,rfl⟩:=rx
 exact rule i t s _ _ ⟨.int (g i),H,I.tok _,⟨_,rfl⟩,q⟩
theorem A0x:UnR X (unaryOp .USub) (rU fun i=> .int (-i)):=unI fun _ _ _ _ _ q=>neg_int q
end
noncomputable def G5b:V ->V ->Bool
 | .non,.non=>true| .non,.int _=>true| .int _,.non=>true| .non,.bl _=>true| .bl _,.non=>true| .non,.str _=>true| .str _,.non=>true
 | .int _,.int _=>true| .bl _,.bl _=>true| .str _,.str _=>true| .byt _,.byt _=>true
 | .int _,.str _=>true| .str _,.int _=>true| .bl _,.str _=>true| .str _,.bl _=>true
 |_,_=>false
noncomputable def rEq:R2:=fun x y H Q=>G5b x y=true/\Q (.bl (decide (x=y))) H
noncomputable def rNe:R2:=fun x y H Q=>G5b x y=true/\Q (.bl (!decide (x=y))) H
theorem C1z{i j:Int}:decide (V.int i=V.int j)=(i==j):=by
 rw[Bool.eq_iff_iff]
 simp
theorem C6q{i j:Bool}:decide (V.bl i=V.bl j)=(i==j):=by
 rw[Bool.eq_iff_iff]
 simp
theorem C1y{i j:Str}:decide (V.str i=V.str j)=(i==j):=by
 rw[Bool.eq_iff_iff]
 simp
theorem C0v{i j:Array UInt8}:decide (V.byt i=V.byt j)=(i.toList==j.toList):=by
 rw[Bool.eq_iff_iff]
 cases i
 cases j
 simp
section
variable{X:Cx}{a b c:Expr}{ta tb tc:TE}{pos:Pos}
theorem V1{pins:List (Addr×Obj)}{σ:St}{H:Hp}{s:Shared}{Q:VK}{k k':Bool}(I:Inv X pins σ H s)(q:Q (.bl k) H)(e:k=k'):EP X pins σ Q (.bool k') s:=by
 subst e
 exact⟨.bl k,H,I,rfl,q⟩
theorem G4:OpR X (compareOp .Eq) rEq:=by
 intro pins s σ H x y v u Q I rx ry h
 obtain⟨hs,q⟩:=h
 cases x with
 | non=>
   cases rx
   cases y with
   |non=>cases ry;exact PySem.EqNone.eq_none_none (V1 I q (by simp))
   |bl j=>cases ry;exact PySem.EqNone.eq_none_bool (V1 I q (by simp))
   |int j=>obtain⟨t',rfl⟩:=ry;exact PySem.EqNone.eq_none_int (V1 I q (by simp))
   |str j=>obtain⟨t',rfl⟩:=ry;exact PySem.EqNone.eq_none_str (V1 I q (by simp))
   |_=>exact absurd (show false=true from hs) Bool.false_ne_true
 | bl i=>
   cases rx
   cases y with
   |non=>cases ry;exact PySem.EqNone.eq_bool_none (V1 I q (by simp))
   |bl j=>cases ry;exact eq_bool (V1 I q C6q)
   |str j=>obtain⟨t',rfl⟩:=ry;exact PySem.EqMixed.eq_bool_str (V1 I q (by simp))
   |_=>exact absurd (show false=true from hs) Bool.false_ne_true
 | int i=>
   obtain⟨t,rfl⟩:=rx
   cases y with
   |non=>cases ry;exact PySem.EqNone.eq_int_none (V1 I q (by simp))
   |int j=>obtain⟨t',rfl⟩:=ry;exact eq_int (V1 I q C1z)
   |str j=>obtain⟨t',rfl⟩:=ry;exact PySem.EqMixed.eq_int_str (V1 I q (by simp))
   |_=>exact absurd (show false=true from hs) Bool.false_ne_true
 | str i=>
   obtain⟨t,rfl⟩:=rx
   cases y with
   |non=>cases ry;exact PySem.EqNone.eq_str_none (V1 I q (by simp))
   |bl j=>cases ry;exact PySem.EqMixed.eq_str_bool (V1 I q (by simp))
   |int j=>obtain⟨t',rfl⟩:=ry;exact PySem.EqMixed.eq_str_int (V1 I q (by simp))
   |str j=>obtain⟨t',rfl⟩:=ry;exact eq_str (V1 I q C1y)
   |_=>exact absurd (show false=true from hs) Bool.false_ne_true
 | byt i=>
   obtain⟨t,rfl⟩:=rx
   cases y with
   |byt j=>obtain⟨t',rfl⟩:=ry;exact PySem.W.eq_bytes (V1 I q C0v)
   |_=>exact absurd (show false=true from hs) Bool.false_ne_true
 |_=>cases y<;>exact absurd (show false=true from hs) Bool.false_ne_true
theorem C2u:OpR X (compareOp .NotEq) rNe:=by
 intro pins s σ H x y v u Q I rx ry h
 obtain⟨hs,q⟩:=h
 cases x with
 | non=>
   cases rx
   cases y with
   |non=>cases ry;exact PySem.EqNone.ne_none_none (V1 I q (by simp))
   |bl j=>cases ry;exact PySem.EqNone.ne_none_bool (V1 I q (by simp))
   |int j=>obtain⟨t',rfl⟩:=ry;exact PySem.EqNone.ne_none_int (V1 I q (by simp))
   |str j=>obtain⟨t',rfl⟩:=ry;exact PySem.EqNone.ne_none_str (V1 I q (by simp))
   |_=>exact absurd (show false=true from hs) Bool.false_ne_true
 | bl i=>
   cases rx
   cases y with
   |non=>cases ry;exact PySem.EqNone.ne_bool_none (V1 I q (by simp))
   |bl j=>cases ry;exact ne_bool (V1 I q (congrArg not C6q))
   |str j=>obtain⟨t',rfl⟩:=ry;exact PySem.EqMixed.ne_bool_str (V1 I q (by simp))
   |_=>exact absurd (show false=true from hs) Bool.false_ne_true
 | int i=>
   obtain⟨t,rfl⟩:=rx
   cases y with
   |non=>cases ry;exact PySem.EqNone.ne_int_none (V1 I q (by simp))
   |int j=>obtain⟨t',rfl⟩:=ry;exact ne_int (V1 I q (congrArg not C1z))
   |str j=>obtain⟨t',rfl⟩:=ry;exact PySem.EqMixed.ne_int_str (V1 I q (by simp))
   |_=>exact absurd (show false=true from hs) Bool.false_ne_true
 | str i=>
   obtain⟨t,rfl⟩:=rx
   cases y with
   |non=>cases ry;exact PySem.EqNone.ne_str_none (V1 I q (by simp))
   |bl j=>cases ry;exact PySem.EqMixed.ne_str_bool (V1 I q (by simp))
   |int j=>obtain⟨t',rfl⟩:=ry;exact PySem.EqMixed.ne_str_int (V1 I q (by simp))
   |str j=>obtain⟨t',rfl⟩:=ry;exact ne_str (V1 I q (congrArg not C1y))
   |_=>exact absurd (show false=true from hs) Bool.false_ne_true
 | byt i=>
   obtain⟨t,rfl⟩:=rx
   cases y with
   |byt j=>obtain⟨t',rfl⟩:=ry;exact PySem.W.ne_bytes (V1 I q (congrArg not C0v))
   |_=>exact absurd (show false=true from hs) Bool.false_ne_true
 |_=>cases y<;>exact absurd (show false=true from hs) Bool.false_ne_true
theorem A3d:OpR X (compareOp .Lt) (rI0 fun i j=> .bl (decide (i<j))):=D6g fun _ _ _ _ _ _ _ q=>lt_int q
theorem C6u:OpR X (compareOp .LtE) (rI0 fun i j=> .bl (decide (i<=j))):=D6g fun _ _ _ _ _ _ _ q=>le_int q
theorem A6r:OpR X (compareOp .Gt) (rI0 fun i j=> .bl (decide (j<i))):=D6g fun _ _ _ _ _ _ _ q=>gt_int q
theorem C2t:OpR X (compareOp .GtE) (rI0 fun i j=> .bl (decide (j<=i))):=D6g fun _ _ _ _ _ _ _ q=>ge_int q
theorem G0z:OpR X (compareOp .Is) (fun x y H Q=>y= .non/\Q (.bl (decide (x= .non))) H):=by
 intro pins s σ H x y v u Q I rx ry h
 obtain⟨rfl,q⟩:=h
 cases ry
 refine is_none_gen (V1 I q ?_)
 cases x<;>first
   |(cases rx;rfl)
   |(obtain⟨t,rfl⟩:=rx;rfl)
theorem B9(b:Expr){op:CmpOp}(h:op≠ .In:=by decide)(h2:op≠ .NotIn:=by decide):behindInMarks op b=false:=by
 have e1:(op==CmpOp.In)=false:=by cases op<;>first|rfl|exact absurd rfl h
 have e2:(op==CmpOp.NotIn)=false:=by cases op<;>first|rfl|exact absurd rfl h2
 cases b<;>simp[behindInMarks,e1,e2]
theorem G6{op:CmpOp}{r:R2}(ho:OpR X (compareOp op) r)(ha:PE X a ta)(hb:PE X b tb)(hm:behindInMarks op b=false):PE X (.Compare a [op] [b] pos) (tOp r ta tb):=by
 intro pins s σ H Q I h
 exact wpAny_Compare1 (G0u ha hb I h fun v u s2 x y H2 I2 rx ry q=>ho pins s2 σ H2 x y v u Q I2 rx ry q) hm
noncomputable def G4r (t:TE):TT:=fun σ H Q=>t σ H fun x H'=>∃k,x= .bl k/\Q k H'
theorem C8{op:CmpOp}{r:R2}(ho:OpR X (compareOp op) r)(ha:PE X a ta)(hb:PE X b tb)(hm:behindInMarks op b=false):PT X (.Compare a [op] [b] pos) (G4r (tOp r ta tb)):=by
 intro pins s σ H Q I h
 refine wpAny_isTrue_Compare1 (thn (ha pins s σ H _ I h) fun v s1 ⟨x,H1,I1,r1,q1⟩=>thn (hb pins s1 σ H1 _ I1 q1) fun u s2 ⟨y,H2,I2,r2,q2⟩=>
   thn (ho pins s2 σ H2 x y v u _ I2 r1 r2 q2) fun c s3 ⟨z,H3,I3,r3,k,e,q3⟩=>?_) hm
 subst e
 cases r3
 exact wpAny_truthy_bool ⟨H3,I3,q3⟩
theorem B4y:(sizeLine:Nat)<2^63:=by rw[sizeLine_eq];decide
theorem B8n:OpR X (binaryOp .Add) (fun x y H Q=>∃i j,x= .str i/\y= .str j/\i.length+j.length<=sizeLine/\Q (.str (i++j)) H):=by
 intro pins s σ H x y v u Q I rx ry h
 obtain⟨i,j,rfl,rfl,hz,q⟩:=h
 obtain⟨t,rfl⟩:=rx
 obtain⟨t',rfl⟩:=ry
 exact add_str (fun t' tk=>⟨.str (i++j),H,I.tok _,⟨_,rfl⟩,q⟩) hz
theorem B0z{x:V}{us:List Value}(r:G7 [x] us):∃u,us=[u]/\V0 x u:=by
 cases r with
 |cons r1 r2=>cases r2;exact⟨_,rfl,r1⟩
theorem C1c{x y:V}{us:List Value}(r:G7 [x,y] us):∃u w',us=[u,w']/\V0 x u/\V0 y w':=by
 cases r with
 | cons r1 r2=>
   cases r2 with
   |cons r3 r4=>cases r4;exact⟨_,_,rfl,r1,r3⟩
theorem B3f(hc:X.calm=true):A1n X (.builtin "max") (fun xs H Q=>∃i j,xs=[.int i,.int j]/\Q (.int (if j>i then j else i)) H):=by
 intro pins s σ H xs us Q I r h
 obtain⟨i,j,rfl,q⟩:=h
 obtain⟨u,w',rfl,⟨t,rfl⟩,⟨t',rfl⟩⟩:=C1c r
 refine max_two_ints (I.ok.hd hc) fun h' tk k=>⟨_,H,I.kept k,?_,q⟩
 by_cases hj:j>i
 . rw[if_pos hj,if_pos hj];exact⟨_,rfl⟩
 rw[if_neg hj,if_neg hj];exact⟨_,rfl⟩
theorem C3s(hc:X.calm=true):A1n X (.builtin "min") (fun xs H Q=>∃i j,xs=[.int i,.int j]/\Q (.int (if j<i then j else i)) H):=by
 intro pins s σ H xs us Q I r h
 obtain⟨i,j,rfl,q⟩:=h
 obtain⟨u,w',rfl,⟨t,rfl⟩,⟨t',rfl⟩⟩:=C1c r
 refine min_two_ints (I.ok.hd hc) fun h' tk k=>⟨_,H,I.kept k,?_,q⟩
 by_cases hj:j<i
 . rw[if_pos hj,if_pos hj];exact⟨_,rfl⟩
 rw[if_neg hj,if_neg hj];exact⟨_,rfl⟩
theorem A0j:A1n X (.type "int") (fun xs H Q=>(∃i,xs=[.int i]/\Q (.int i) H)\/∃k,xs=[.bl k]/\Q (.int (if k then 1 else 0)) H):=by
 intro pins s σ H xs us Q I r h
 rcases h with⟨i,rfl,q⟩|⟨k,rfl,q⟩
 . obtain⟨u,rfl,t,rfl⟩:=B0z r
   exact call_int_int ⟨.int i,H,I,⟨_,rfl⟩,q⟩
 obtain⟨u,rfl,r1⟩:=B0z r
 cases r1
 exact call_int_bool ⟨.int (if k then 1 else 0),H,I.tok _,⟨_,rfl⟩,q⟩
theorem A1s:A1n X (.type "str") (fun xs H Q=>∃i,xs=[.int i]/\i.natAbs.log2<1920/\Q (.str (toString i)) H):=by
 intro pins s σ H xs us Q I r h
 obtain⟨i,rfl,hz,q⟩:=h
 obtain⟨u,rfl,t,rfl⟩:=B0z r
 exact PySem.P.str_of_int hz ⟨.str _,H,I.tok _,⟨_,rfl⟩,q⟩
end
structure C0n(h:Heap)(x dx C:Addr)(mA:Str ->Option Value):Prop where
 obj:h.get? x=some (PySem.W.instObj C dx)
 ns:h.Ns1 dx mA
 ne:dx≠x
theorem A7m{h:Heap}{dx:Addr}{mA:Str ->Option Value}(n:h.Ns1 dx mA):∃od,h.get? dx=some od/\∀name,PySem.W.lookIn name od=some (mA name):=by
 obtain⟨o,es,ep,ho,hd,hk,_,hm⟩:=n
 refine⟨o,ho,fun name=>?_⟩
 have e:=hm name
 unfold nsFind findBy at e
 rw[<-Array.find?_toList] at e
 unfold PySem.W.lookIn
 rw[hd]
 dsimp only
 split
 . rename_i y q
   rw[q] at e
   exact congrArg some e
 rename_i q
 rw[q] at e
 have a:es.toList.any (·.refKey)=false:=by
   rw[List.any_eq_false]
   intro y hy
   obtain⟨z,t,hkey⟩:=hk y (Array.mem_toList_iff.mp hy)
   simp[DictEntry.refKey,hkey]
 have a':¬es.toList.any (·.refKey)=true:=by rw[a];exact Bool.false_ne_true
 rw[if_neg a']
 exact congrArg some e
theorem C0n.look{h:Heap}{x dx C:Addr}{mA:Str ->Option Value}(I:C0n h x dx C mA):∃od,PySem.W.InstAt h x (PySem.W.instObj C dx) C (some od)/\∀name,PySem.W.lookIn name od=some (mA name):=
 let⟨od,ho,hl⟩:=A7m I.ns
 ⟨od,⟨I.obj,rfl,rfl,ho⟩,hl⟩
section
variable{prog:Program}{w:World}{A:Around}{E:Value ->Shared ->Prop}{s:Shared}{K:PySem.W.Frag}{x dx C f:Addr}{mA:Str ->Option Value}{name:Str}{v:Value}
theorem D7m{expr:Bool}{Q:Value ->Shared ->Prop}(X:K.In s.heap)(I:C0n s.heap x dx C mA)(hg:PySem.W.plainGet K C name=true)(hh:PySem.W.hasDictIn K C=true)
   (ha:PySem.W.findIn K (.ref C) name=some none) (hv:mA name=some v) (hv':PySem.W.handedIn v=true) (h:Q v {s with toks:=s.toks+1}):
   wpAny (model prog w) A (getAttr (.ref x) name expr) Q E s:=by
 obtain⟨od,J,hl⟩:=I.look
 exact PySem.W.get_value X J (PySem.W.plainGet_of hg).1 (PySem.W.findObj_own hh ha rfl (by rw[hl,hv])) hv' h
theorem C6w{pl:Sem Bool}{Q:Value×List Value ->Shared ->Prop}(X:K.In s.heap)(I:C0n s.heap x dx C mA)(hg:PySem.W.plainGet K C name=true)
   (hf:PySem.W.findIn K (.ref C) name=some (some (.ref f))) (ht:PySem.W.isFn K (.ref f)=true) (hv:mA name=none) (h:Q (.ref f,[.ref x]) s):
   wpAny (model prog w) A (getMethod (.ref x) name pl) Q E s:=by
 obtain⟨od,J,hl⟩:=I.look
 exact PySem.W.method_fn X J (PySem.W.plainGet_of hg).1 (PySem.W.plainGet_of hg).2 hf (beq_iff_eq.mp ht) (by show(PySem.W.lookIn name od).map (·.isSome)=some false;rw[hl,hv];rfl) h
theorem D7k{ns:List Str}{Q:Unit ->Shared ->Prop}(X:K.In s.heap)(I:C0n s.heap x dx C mA)
   (hs:PySem.W.findIn K (.ref C) "__setattr__"=some (some (.builtin "object.__setattr__"))) (hp:PySem.W.plainOver K C=true) (ht:PySem.W.takerIn K C name=some none) (hh:PySem.W.hasDictIn K C=true)
   (hw:PySem.Within mA ns) (hsz:ns.length<=sizeLine)
   (h:∀h',C0n h' x dx C (fun y=>if y=name then some v else mA y) ->Heap.SameBut dx s.heap h' ->Q () {s with heap:=h',toks:=s.toks+2}):
   wpAny (model prog w) A (setAttr (.ref x) name v) Q E s:=by
 obtain⟨od,J,hl⟩:=I.look
 refine PySem.W.set_plain X J hs (PySem.W.osa_open (s:={s with toks:=s.toks+1}) (r:=none) X J hp ht fun b=>?_)
 obtain⟨cd,hc,hd'⟩:=PySem.W.any_some hh
 have hx:s.heap.get? x=some ⟨.ref C,some dx,.plain, #[]⟩:=I.obj
 refine wpAny_bind (wpAny_pure (wpAny_bind (wpAny_bind (wpAny_loadPart hx (wpAny_bind (PySem.W.Looks.here (s:={s with toks:=s.toks+1}) (PySem.W.looks_clsIn X hc) ?_))))))
 rw[hd']
 refine wpAny_pure (a:=some dx) (wpAny_bind (wpAny_pure (wpAny_bind ?_)))
 refine wpAny_nsSet1 (s:={s with toks:=s.toks+1}) I.ns fun h' hn2 hs2=>?_
 obtain⟨oD,esD,epD,hoD,hdD,hcD⟩:=hn2.count (PySem.Within.cons name v hw)
 refine wpAny_bind (wpAny_lookBehind hoD (by rw[hdD];exact pastItsLine_dict (Nat.le_trans hcD (by rw[List.length_cons];omega))) ?_)
 exact wpAny_pure (h _ ⟨(hs2.2 _ (Ne.symm I.ne)).trans I.obj,hn2,I.ne⟩ hs2)
theorem B7k{R:Result ->Shared ->Prop}{vs:List Value}{kw:List (Str×Value)}(X:K.In s.heap)(hm:PySem.W.makesIn K C=true)
   (hi:PySem.W.findIn K (.ref C) "__init__"=some (some (.ref f))) (hf:PySem.W.typeIn K (.ref f)=some (.type "function"))
   (h:codeAny (model prog w) (A.under (.builtin "type.__call__" ⟨.ref C::vs,kw⟩)) (.call (.ref f) ⟨.ref (s.heap.objs.size+1)::vs,kw⟩) (PySem.W.InitBack (s.heap.objs.size+1) R)
     {s with heap:=(s.heap.push PySem.W.emptyDict).push (PySem.W.instObj C s.heap.objs.size)}):
   codeAny (model prog w) A (.call (.ref C) ⟨vs,kw⟩) R s:=by
 obtain⟨hh,g,d,t,os⟩:=s
 exact PySem.W.make_core (PySem.W.makes_of X hm) (PySem.W.looks_findIn X hi) (fun self=>PySem.W.bind_fn X self hf) (.inl rfl) h
theorem C5s{R:Result ->Shared ->Prop}(X:K.In s.heap)(hm:PySem.W.makesIn K C=true)
   (hi:PySem.W.findIn K (.ref C) "__init__"=some (some (.builtin "object.__init__")))
   (hb:∀self,PySem.W.Looks (model prog w) s.heap (bindSpecial (.builtin "object.__init__") self) (.builtin "object.__init__",[self]))
   (h:codeAny (model prog w) (A.under (.builtin "type.__call__" ⟨[.ref C],[]⟩)) (.call (.builtin "object.__init__") ⟨[.ref (s.heap.objs.size+1)],[]⟩) (PySem.W.InitBack (s.heap.objs.size+1) R)
     {s with heap:=(s.heap.push PySem.W.emptyDict).push (PySem.W.instObj C s.heap.objs.size)}):
   codeAny (model prog w) A (.call (.ref C) ⟨[],[]⟩) R s:=by
 obtain⟨hh,g,d,t,os⟩:=s
 exact PySem.W.make_core (PySem.W.makes_of X hm) (PySem.W.looks_findIn X hi) hb (.inr ⟨rfl,rfl⟩) h
end
noncomputable def Y5 (f:Str) (v:V):List (Str×V) ->List (Str×V)
 | []=>[(f,v)]
 |(g,x)::r=>if g=f then(g,v)::r else(g,x)::Y5 f v r
theorem J0(f g:Str)(v:V):∀fs:List (Str×V),(Y5 f v fs).lookup g=if g=f then some v else fs.lookup g
 | []=>by
   show List.lookup g [(f,v)]=_
   by_cases h:g=f
   . have hb:(g==f)=true:=beq_iff_eq.mpr h
     simp only[List.lookup,hb,if_pos h]
   . have hb:(g==f)=false:=beq_eq_false_iff_ne.mpr h
     simp only[List.lookup,hb,if_neg h]
 | (k, x)::r=>by
   have ih:=J0 f g v r
   rw[show Y5 f v ((k,x)::r)=(if k=f then(k,v)::r else(k,x)::Y5 f v r) from rfl]
   by_cases hk:k=f
   . rw[if_pos hk]
     by_cases h:g=k
     . have hb:(g==k)=true:=beq_iff_eq.mpr h
       simp only[List.lookup,hb,if_pos (h.trans hk)]
     . have hb:(g==k)=false:=beq_eq_false_iff_ne.mpr h
       simp only[List.lookup,hb,if_neg (fun e:g=f=>h (e.trans hk.symm))]
   . rw[if_neg hk]
     by_cases h:g=k
     . have hb:(g==k)=true:=beq_iff_eq.mpr h
       simp only[List.lookup,hb,if_neg (fun e:g=f=>hk (h.symm.trans e))]
     . have hb:(g==k)=false:=beq_eq_false_iff_ne.mpr h
       simp only[List.lookup,hb]
       exact ih
theorem A7f(f:Str)(v:V):∀fs:List (Str×V),f∈(Y5 f v fs).map (·.1)/\∀g,g∈fs.map (·.1) ->g∈(Y5 f v fs).map (·.1)
 | []=>⟨by simp[Y5],fun g h=>by simp at h⟩
 | (k, x)::r=>by
   obtain⟨i1,i2⟩:=A7f f v r
   rw[show Y5 f v ((k,x)::r)=(if k=f then(k,v)::r else(k,x)::Y5 f v r) from rfl]
   by_cases hk:k=f
   . rw[if_pos hk]
     subst hk
     exact⟨by simp,fun g h=>by simpa using h⟩
   . rw[if_neg hk]
     refine⟨?_,fun g h=>?_⟩
     . rw[List.map_cons]
       exact List.mem_cons_of_mem _ i1
     . rw[List.map_cons] at h ⊢
       rcases List.mem_cons.mp h with e|e
       . exact List.mem_cons.mpr (.inl e)
       . exact List.mem_cons_of_mem _ (i2 g e)
theorem A1g(f:Str)(v:V):∀fs:List (Str×V),(Y5 f v fs).length<=fs.length+1
 | []=>by simp[Y5]
 | (k,x)::r=>by
   have ih:=A1g f v r
   rw[show Y5 f v ((k,x)::r)=(if k=f then(k,v)::r else(k,x)::Y5 f v r) from rfl]
   by_cases hk:k=f
   . rw[if_pos hk,List.length_cons,List.length_cons];omega
   . rw[if_neg hk,List.length_cons,List.length_cons];omega
theorem A4b.some_of{v:V}{o:Option Value}(r:A4b (some v) o):∃u,o=some u/\V0 v u:=by
 cases o with
 |none=>exact(show False from r).elim
 |some u=>exact⟨u,rfl,r⟩
theorem A4b.none_of{o:Option Value}(r:A4b none o):o=none:=by
 cases o with
 |none=>rfl
 |some u=>exact(show False from r).elim
theorem B2x{v:V}{u:Value}(r:V0 v u):PySem.W.handedIn u=true:=by
 cases v with
 |non=>cases(show u=Value.none from r);rfl
 |bl b=>cases(show u=Value.bool b from r);rfl
 |int i=>obtain⟨t,e⟩:=(show∃t,u=Value.int i t from r);cases e;rfl
 |str x=>obtain⟨t,e⟩:=(show∃t,u=Value.str x t from r);cases e;rfl
 |byt b=>obtain⟨t,e⟩:=(show∃t,u=Value.bytes b t from r);cases e;rfl
 |flt b=>obtain⟨t,e⟩:=(show∃t,u=Value.float b t from r);cases e;rfl
 |ref a=>cases(show u=Value.ref a from r);rfl
 |ty n=>cases(show u=Value.type n from r);rfl
section
variable{P:Program}{w:World}{H H':Hp}{h h':Heap}{a C dx:Addr}{fs fs':List (Str×V)}
theorem A9p(hok:HOk P w H h)(e:H a=some (.ins C dx fs)):∃mA,C0n h a dx C mA/\(∀f,A4b (fs.lookup f) (mA f))/\PySem.Within mA (fs.map (·.1))/\fs.length<=1000/\H dx=some (.own a):=by
 obtain⟨d,z,ne,ob,mA,n,r,q⟩:=(show Y7 P w H h a (.ins C dx fs) from hok a _ e)
 exact⟨mA,⟨ob,n,ne⟩,r,q,z,d⟩
end
structure Cls(K:PySem.W.Frag)(C:Addr):Prop where
 pg:PySem.W.plainGet K C Str.empty=true
 hd:PySem.W.hasDictIn K C=true
 po:PySem.W.plainOver K C=true
 sa:PySem.W.findIn K (.ref C) "__setattr__"=some (some (.builtin "object.__setattr__"))
theorem Cls.get{K:PySem.W.Frag}{C:Addr}(c:Cls K C)(f:Str):PySem.W.plainGet K C f=true:=c.pg
noncomputable def A0a (K:PySem.W.Frag) (C:Addr) (f:Str):Prop:=PySem.W.findIn K (.ref C) f=some none
theorem A0a.taker{K:PySem.W.Frag}{C:Addr}{f:Str}(n:A0a K C f):PySem.W.takerIn K C f=some none:=by
 unfold PySem.W.takerIn
 rw[show PySem.W.findIn K (.ref C) f=some none from n]
 rfl
structure A5v(K:PySem.W.Frag)(C:Addr)(m:Str)(f:Addr):Prop where
 at_:PySem.W.findIn K (.ref C) m=some (some (.ref f))
 fn:PySem.W.isFn K (.ref f)=true
 kp:PySem.W.keepIn K (.ref f)=true
section
variable{X:Cx}{pins:List (Addr×Obj)}{σ:St}{H:Hp}{s:Shared}{a C dx:Addr}{fs:List (Str×V)}{f:Str}{v:V}{A:Around}{E:Value ->Shared ->Prop}
theorem C0j{b:Bool}{Q:Value ->Shared ->Prop}(I:Inv X pins σ H s)(e:H a=some (.ins C dx fs))(c:Cls X.K C)(n:A0a X.K C f)(l:fs.lookup f=some v)
   (h:∀u s',Inv X pins σ H s' ->V0 v u ->Q u s'):wpAny (model X.prog X.w) A (getAttr (.ref a) f b) Q E s:=by
 obtain⟨mA,O,r,_,_,_⟩:=A9p I.hok e
 obtain⟨u,hu,ru⟩:=A4b.some_of (v:=v) (o:=mA f) (by rw[<-l];exact r f)
 exact D7m I.kIn O (c.get f) c.hd n hu (B2x ru) (h u _ (I.tok _) ru)
theorem A1y{m:Str}{g:Addr}{pl:Sem Bool}{Q:Value×List Value ->Shared ->Prop}(I:Inv X pins σ H s)(e:H a=some (.ins C dx fs))(c:Cls X.K C)(k:A5v X.K C m g)(l:fs.lookup m=none)
   (h:Q (.ref g,[.ref a]) s):wpAny (model X.prog X.w) A (getMethod (.ref a) m pl) Q E s:=by
 obtain⟨mA,O,r,_,_,_⟩:=A9p I.hok e
 have hn:mA m=none:=A4b.none_of (by rw[<-l];exact r m)
 exact C6w I.kIn O (c.get m) k.at_ k.fn hn h
theorem B9b{y:V}{u:Value}{Q:Unit ->Shared ->Prop}(I:Inv X pins σ H s)(e:H a=some (.ins C dx fs))(c:Cls X.K C)(n:A0a X.K C f)(hl:fs.length<1000)(ry:V0 y u)
   (h:∀s',Inv X pins σ (upd H a (.ins C dx (Y5 f y fs))) s' ->Q () s'):wpAny (model X.prog X.w) A (setAttr (.ref a) f u) Q E s:=by
 obtain⟨mA,O,r,wi,_,ho⟩:=A9p I.hok e
 have hz:(fs.map (·.1)).length<=sizeLine:=by rw[List.length_map,sizeLine_eq];omega
 refine D7k I.kIn O c.sa c.po n.taker c.hd wi hz fun h' O' sb=>h _ ?_
 have hd:∃o,h'.get? dx=some o:=let⟨o,_,_,e',_⟩:=O'.ns;⟨o,e'⟩
 refine I.write (x:=a) (e:=dx) (by rw[e];exact True.intro) (.inr ho) (fun b q hb z=>(sb.2 b hb).trans z) hd ?_
 refine⟨by rw[C7 O.ne];exact ho,?_,O.ne,O'.obj,_,O'.ns,fun g=>?_,fun g hg=>?_⟩
 . have:=A1g f y fs;omega
 . show A4b ((Y5 f y fs).lookup g) (if g=f then some u else mA g)
   rw[J0]
   by_cases q:g=f
   . rw[if_pos q,if_pos q];exact ry
   . rw[if_neg q,if_neg q];exact r g
 by_cases q:g=f
 . rw[q];exact(A7f f y fs).1
 refine(A7f f y fs).2 g (wi g fun z=>hg ?_)
 show(if g=f then some u else mA g)=none
 rw[if_neg q];exact z
theorem Inv.made(I:Inv X pins σ H s):Inv X pins σ (upd (upd H s.heap.objs.size (.own (s.heap.objs.size+1))) (s.heap.objs.size+1) (.ins C s.heap.objs.size []))
   {s with heap:=(s.heap.push PySem.W.emptyDict).push (PySem.W.instObj C s.heap.objs.size)}:=by
 have e1:(s.heap.push PySem.W.emptyDict).get? s.heap.objs.size=some PySem.W.emptyDict:=Heap.get?_push_size s.heap rfl
 have e2:((s.heap.push PySem.W.emptyDict).push (PySem.W.instObj C s.heap.objs.size)).get? (s.heap.objs.size+1)=some (PySem.W.instObj C s.heap.objs.size):=by
   have:=Heap.get?_push_size (s.heap.push PySem.W.emptyDict) (o:=PySem.W.instObj C s.heap.objs.size) rfl
   rwa[Heap.size_push] at this
 have e3:(s.heap.push PySem.W.emptyDict).Ns s.heap.objs.size (fun _=>none):=⟨PySem.W.emptyDict, #[],_,e1,rfl,(fun e he=>absurd he (by simp)),fun _=>rfl⟩
 have I1:=I.laid (a:=s.heap.objs.size) (o:= .own (s.heap.objs.size+1)) (h':=s.heap.push PySem.W.emptyDict) (t':=s.toks) (fun b u q=>Heap.get?_push_of_some _ q) (Nat.le_refl _) ⟨_,e1⟩
 refine I1.laid (a:=s.heap.objs.size+1) (o:= .ins C s.heap.objs.size []) (t':=s.toks) (fun b u q=>Heap.get?_push_of_some _ q) (Nat.le_of_eq (Heap.size_push _ _)) ?_
 have ne:s.heap.objs.size≠s.heap.objs.size+1:=Nat.ne_of_lt (Nat.lt_succ_self _)
 refine⟨by rw[C7 ne,A6],Nat.zero_le _,ne,e2,fun _=>none,(Heap.Ns1.of_empty e3).at fun o q=>Heap.get?_push_of_some _ q,fun _=>True.intro,fun y hy=>absurd rfl hy⟩
theorem C1e{prog:Program}{w:World}{env:Env}{e:Expr}{f:Str}{pos:Pos}{s:Shared}{Q:Value ->Shared ->Prop}(hb:attributeBase e f env (eval e env)=eval e env)
   (h:wpAny (model prog w) A (eval e env) (fun o s₁=>wpAny (model prog w) A (getAttr o f true) Q E s₁) E s):wpAny (model prog w) A (eval (.Attribute e f pos) env) Q E s:=
 Attribute_any_ h (by rw[arm_eval_Attribute,hb])
end
noncomputable def G8y (K:PySem.W.Frag) (ta:TE) (f:Str):TE:=fun σ H Q=>ta σ H fun x H1=>∃a C dx fs v,x= .ref a/\H1 a=some (.ins C dx fs)/\Cls K C/\A0a K C f/\fs.lookup f=some v/\Q v H1
noncomputable def J0r (K:PySem.W.Frag) (ta tv:TE) (f:Str):TS:=fun D σ H=>tv σ H fun y H1=>ta σ H1 fun x H2=>∃a C dx fs,x= .ref a/\H2 a=some (.ins C dx fs)/\Cls K C/\A0a K C f/\fs.length<1000/\
 D.nx σ (upd H2 a (.ins C dx (Y5 f y fs)))
section
variable{X:Cx}{o e value:Expr}{f:Str}{pos pos' tpos:Pos}{ta tv:TE}
theorem U7(he:PE X e ta)(hb:attributeBase e f X.env (eval e X.env)=eval e X.env):PE X (.Attribute e f pos) (G8y X.K ta f):=by
 intro pins s σ H Q I h
 refine C1e hb (thn (he pins s σ H _ I h) fun u s1 hh_=>?_)
 obtain⟨x,H1,I1,rx,a,C,dx,fs,v,ex,ea,c,n,l,q⟩:=hh_
 subst ex
 obtain rfl:u=Value.ref a:=rx
 exact C0j I1 ea c n l fun u' s2 I2 ru=>⟨v,H1,I2,ru,q⟩
theorem A0t(ha:PE X o ta)(hv:PE X value tv)(hs:swapsWith value (some (.Attribute o f pos')) pos.line X.env=pure false):PS X (.Assign [.Attribute o f pos'] value pos) (J0r X.K ta tv f):=by
 intro pins s σ H D I h
 refine plainObj_wpAny_Assign_Attribute (thn (hv pins s σ H _ I h) fun u s1 ⟨y,H1,I1,ry,q⟩=>thn (ha pins s1 σ H1 _ I1 q) fun ov s2 hh_=>?_) hs
 obtain⟨x,H2,I2,rx,a,C,dx,fs,ex,ea,c,n,l,q2⟩:=hh_
 subst ex
 obtain rfl:ov=Value.ref a:=rx
 exact B9b I2 ea c n l ry fun s3 I3=>⟨σ,_,I3,q2⟩
end
section
variable{X:Cx}{pins:List (Addr×Obj)}{σ:St}{H:Hp}{s:Shared}{A:Around}{E:Value ->Shared ->Prop}{Q:Value ->Shared ->Prop}{c:Value}{b:Bool}
inductive A8b(K:PySem.W.Frag)(H:Hp):V ->Value ->Prop where
 |non:A8b K H .non (.type "NoneType")
 |bl (x:Bool):A8b K H (.bl x) (.type "bool")
 |int (i:Int):A8b K H (.int i) (.type "int")
 |str (x:Str):A8b K H (.str x) (.type "str")
 |flt (x:UInt64):A8b K H (.flt x) (.type "float")
 |lst {a:Addr} {xs:List V} (e:H a=some (.lst xs)):A8b K H (.ref a) (.type "list")
 |frz {a:Addr} {o:Obj} {xs:List V} (e:H a=some (.frz o (.lst xs))):A8b K H (.ref a) (.type "list")
 |tup {a:Addr} {xs:List V} (e:H a=some (.tup xs)):A8b K H (.ref a) (.type "tuple")
 |dK {a:Addr} {kvs:List (Key×V)} (e:H a=some (.dK kvs)):A8b K H (.ref a) (.type "dict")
 |dT {a:Addr} {kvs:List (List Key×V)} (e:H a=some (.dT kvs)):A8b K H (.ref a) (.type "dict")
 |ins {a C dx:Addr} {fs:List (Str×V)} (e:H a=some (.ins C dx fs)) (cl:Cls K C) (ha:PySem.W.findIn K (.ref C) "__class__"=some (some (.builtin "object.__class__")))
     (hn:PySem.W.specialIn K (.builtin "object.__class__") "__get__"=some (some (.builtin "getset_descriptor.__get__"))) (htk:PySem.W.takesIn K (.builtin "object.__class__")=some true)
     (hm:PySem.W.mroIn K C (.type "object")=some true):A8b K H (.ref a) (.ref C)
theorem C5h{x:V}{u t:Value}(I:Inv X pins σ H s)(rx:V0 x u)(ty:A8b X.K H x t)(e:PySem.W.kitOne X.K t c=some b)(h:∀tk,Q (.bool b) {s with toks:=tk}):
   wpAny (model X.prog X.w) A (call (.builtin "isinstance") [u,c]) Q E s:=by
 cases ty with
 |non=>cases(show u=Value.none from rx);exact PySem.W.kia_one PySem.W.kitx_none I.kIn True.intro e (fun z=>nomatch z) h
 |bl y=>cases(show u=Value.bool y from rx);exact PySem.W.kia_one PySem.W.kitx_bool I.kIn True.intro e (fun z=>nomatch z) h
 |int i=>obtain⟨t,q⟩:=(show∃t,u=Value.int i t from rx);cases q;exact PySem.W.kia_one PySem.W.kitx_int I.kIn True.intro e (fun z=>nomatch z) h
 |str y=>obtain⟨t,q⟩:=(show∃t,u=Value.str y t from rx);cases q;exact PySem.W.kia_one PySem.W.kitx_str I.kIn True.intro e (fun z=>nomatch z) h
 |flt y=>obtain⟨t,q⟩:=(show∃t,u=Value.float y t from rx);cases q;exact PySem.W.kia_one PySem.W.kitx_float I.kIn True.intro e (fun z=>nomatch z) h
 | @lst a xs ea=>
   cases(show u=Value.ref a from rx)
   obtain⟨_,_,n,_,h1⟩:=(show Y7 X.prog X.w H s.heap a (.lst xs) from I.hok a _ ea)
   exact PySem.W.kia_one PySem.W.kitx_list I.kIn ⟨_,h1,rfl⟩ e (fun z=>nomatch z) h
 | @frz a ob xs ea=>
   cases(show u=Value.ref a from rx)
   obtain⟨_,_,_,n,_,h1⟩:=(show Y7 X.prog X.w H s.heap a (.frz ob (.lst xs)) from I.hok a _ ea)
   exact PySem.W.kia_one PySem.W.kitx_list I.kIn ⟨_,h1,rfl⟩ e (fun z=>nomatch z) h
 | @tup a xs ea=>
   cases(show u=Value.ref a from rx)
   obtain⟨_,_,_,p⟩:=(show Y7 X.prog X.w H s.heap a (.tup xs) from I.hok a _ ea)
   obtain⟨o,h1,h2,_⟩:=p
   exact PySem.W.kia_one PySem.W.kitx_tuple I.kIn ⟨o,h1,h2⟩ e (fun z=>nomatch z) h
 | @dK a kvs ea=>
   cases(show u=Value.ref a from rx)
   obtain⟨_,_,vs,_,p⟩:=(show Y7 X.prog X.w H s.heap a (.dK kvs) from I.hok a _ ea)
   obtain⟨o,es,ep,h1,h2,_⟩:=p
   exact PySem.W.kia_one PySem.W.kitx_dict I.kIn ⟨o,h1,h2.1⟩ e (fun z=>nomatch z) h
 | @dT a kvs ea=>
   cases(show u=Value.ref a from rx)
   obtain⟨_,_,xs,_,o,es,ep,h1,h2,_⟩:=(show Y7 X.prog X.w H s.heap a (.dT kvs) from I.hok a _ ea)
   exact PySem.W.kia_one PySem.W.kitx_dict I.kIn ⟨o,h1,h2.1⟩ e (fun z=>nomatch z) h
 | @ins a C dx fs ea cl ha hn htk hm=>
   cases(show u=Value.ref a from rx)
   obtain⟨mA,O,_⟩:=A9p I.hok ea
   obtain⟨od,J,_⟩:=O.look
   exact PySem.W.kia_one (PySem.W.kitx_own (cl.get _) cl.hd ha hn htk hm) I.kIn J e (fun z=>nomatch z) h
end
structure A0h(k:Nat)(A:Around):Prop where
 hd:A.handled=none
 dp:A.depth+3*k+5<recursionLimit
 un:A.units+16*k+200<cLine
theorem A0h.mono{j k:Nat}{A:Around}(r:A0h k A)(h:j<=k):A0h j A:=⟨r.hd,by have:=r.dp;omega,by have:=r.un;omega⟩
theorem A0h.deeper{k:Nat}{A:Around}(r:A0h (k+1) A)(env:Env):A0h k (A.deeper env):=
 ⟨r.hd,by have:=r.dp;show A.depth+1+3*k+5<_;omega,by have:=r.un;show A.units+3+16*k+200<_;omega⟩
theorem B0e{A:Around}{C:Addr}{us:List Value}{kw:List (Str×Value)}:(A.under (.builtin "type.__call__" ⟨.ref C::us,kw⟩)).depth=A.depth+1:=by
 first|rfl|simp[Around.under,Code.weight,Code.isCreation,Code.isGuard,Code.isCaller,Code.frames,Code.isFrame,guardIds]
theorem B1w{A:Around}{C:Addr}{us:List Value}{kw:List (Str×Value)}:(A.under (.builtin "type.__call__" ⟨.ref C::us,kw⟩)).units=A.units+1:=by
 first|rfl|simp[Around.under,Code.cUnits,Code.frames,Code.isFrame]
theorem A0h.make{k:Nat}{A:Around}(r:A0h (k+1) A)(C:Addr)(us:List Value)(kw:List (Str×Value)):A0h k (A.under (.builtin "type.__call__" ⟨.ref C::us,kw⟩)):=
 ⟨r.hd,by have:=r.dp;rw[B0e];omega,by have:=r.un;rw[B1w];omega⟩
theorem A0h.depth{k:Nat}{A:Around}(r:A0h k A):A.depth<recursionLimit:=by have:=r.dp;omega
theorem A0h.units{k:Nat}{A:Around}(r:A0h k A):A.units+64<cLine:=by have:=r.un;omega
noncomputable def B4q:TA:=fun _ H Q=>Q [] H
noncomputable def B6e (ta:TE) (tr:TA):TA:=fun σ H Q=>ta σ H fun x H1=>tr σ H1 fun xs H2=>Q (x::xs) H2
section
variable{X:Cx}{e:Expr}{es:List Expr}{te:TE}{t:TA}{pos:Pos}
theorem A4:PA X [] B4q:=fun _ _ _ _ H Q I h=>Calls.spliced_nil ⟨[],H,I,.nil,h⟩
theorem A0(ha:PE X e te)(hr:PA X es t)(hs:starEach (e::es) X.env=(false,eval e X.env)::starEach es X.env:=by rfl):PA X (e::es) (B6e te t):=by
 intro pos pins s σ H Q I h
 rw[hs]
 show wpAny _ _ (spliced ((false,eval e X.env)::backTo pos (starEach es X.env))) _ _ s
 refine Calls.spliced_cons (thn (ha pins s σ H _ I h) fun u s1 hh_=>?_)
 obtain⟨x,H1,I1,r1,q1⟩:=hh_
 exact thn (hr pos pins s1 σ H1 _ I1 q1) fun us s2 ⟨xs,H2,I2,r2,q2⟩=>⟨x::xs,H2,I2,.cons r1 r2,q2⟩
noncomputable def J0t (t:TA):TE:=fun σ H Q=>t σ H fun xs H1=>xs.length<=sizeLine/\∀p,H1 p=none ->Q (.ref p) (upd H1 p (.tup xs))
noncomputable def G9p (t:TA):TE:=fun σ H Q=>t σ H fun xs H1=>xs.length<=sizeLine/\∀p,H1 p=none ->Q (.ref p) (upd H1 p (.lst xs))
theorem Y6{x1}(h:PA X es t):PE X (.Tuple es x1 pos) (J0t t):=by
 intro pins s σ H Q I hq
 refine wpAny_Tuple_spliced (thn (h pos pins s σ H _ I hq) fun us s1 ⟨xs,H1,I1,r,z,q⟩=>⟨by rw[<-r.length];exact z,?_⟩)
 have hf:H1 s1.heap.objs.size=none:=I1.hok.fresh (Nat.le_refl _)
 refine⟨.ref s1.heap.objs.size,upd H1 s1.heap.objs.size (.tup xs),I1.laid (t':=s1.toks) (fun b u e=>Heap.get?_push_of_some _ e) (Nat.le_refl _) ?_,rfl,q _ hf⟩
 exact⟨z,us,r,⟨_,Heap.get?_push_size _ rfl,rfl,_,rfl⟩⟩
theorem U5(h:PA X es t):PE X (.List es pos) (G9p t):=by
 intro pins s σ H Q I hq
 refine wpAny_List_spliced (thn (h pos pins s σ H _ I hq) fun us s1 ⟨xs,H1,I1,r,z,q⟩=>⟨by rw[<-r.length];exact z,?_⟩)
 have hf:H1 s1.heap.objs.size=none:=I1.hok.fresh (Nat.le_refl _)
 refine⟨.ref s1.heap.objs.size,upd H1 s1.heap.objs.size (.lst xs),I1.laid (t':=s1.toks) (fun b u e=>Heap.get?_push_of_some _ e) (Nat.le_refl _) ?_,rfl,q _ hf⟩
 exact⟨z,us,0,r,Heap.get?_push_size _ rfl⟩
end
noncomputable abbrev Sp:=List V ->Hp ->VK ->XK ->Prop
noncomputable abbrev CXT:=List Env ->Hp ->Shared ->XK ->Value ->Shared ->Prop
structure A9b(P:Program)(w:World)(K:PySem.W.Frag)(mg:Str ->Option Value)(base:Heap)(A:Around)(outer:List Env)(s:Shared)(H:Hp):Prop where
 frames:A.frames=some outer
 mod:Mod K mg base
 bs:∀b o,base.get? b=some o ->s.heap.get? b=some o/\H b=none
 bsz:base.objs.size<=s.heap.objs.size
 funs:s.heap.FunFrames base outer
 frf:∀b∈frs outer,H b=none
 hok:HOk P w H s.heap
 bare:AllBare s.gens
noncomputable def CE (outer:List Env) (P:Program) (w:World) (H:Hp) (s:Shared) (Q:VK) (u:Value) (s':Shared):Prop:=
 ∃v H',s'.os=s.os/\AllBare s'.gens/\Un (frs outer) [] H H' s.heap s'.heap/\HOk P w H' s'.heap/\V0 v u/\Q v H'
noncomputable def CR (CX:CXT) (outer:List Env) (P:Program) (w:World) (H:Hp) (s:Shared) (Q:VK) (E:XK) (r:Result) (s':Shared):Prop:=
 match r with
 | .ok (.ret u)=>CE outer P w H s Q u s'
 | .ok _=>False
 | .error e=>CX outer H s E e s'
structure G8(P:Program)(w:World)(K:PySem.W.Frag)(mg:Str ->Option Value)(base:Heap)(CX:CXT)(k:Nat)(f:Addr)(fd:FuncData)(ps:List Str)(sp:Sp):Prop where
 len:∀vs H Q E,sp vs H Q E ->vs.length=ps.length
 run:∀(A:Around) (outer:List Env) (s:Shared) (H:Hp) (args:Args) (us:List Value) (vs:List V) (Q:VK) (E:XK),A0h k A ->A9b P w K mg base A outer s H ->BindsTo s fd args (ps.zip us) ->G7 vs us ->sp vs H Q E ->
   codeAny (model P w) A (.call (.ref f) args) (CR CX outer P w H s Q E) s
theorem G8.mono{P:Program}{w:World}{K:PySem.W.Frag}{mg:Str ->Option Value}{base:Heap}{CX:CXT}{j k:Nat}{f:Addr}{fd:FuncData}{ps:List Str}{sp:Sp}(F:G8 P w K mg base CX j f fd ps sp)(h:j<=k):
   G8 P w K mg base CX k f fd ps sp:=⟨F.len,fun A outer s H args us vs Q E hr=>F.run A outer s H args us vs Q E (hr.mono h)⟩
theorem A9b.make{P:Program}{w:World}{K:PySem.W.Frag}{mg:Str ->Option Value}{base:Heap}{A:Around}{outer:List Env}{s:Shared}{H:Hp}(e:A9b P w K mg base A outer s H)(C:Addr)(us:List Value)(kw:List (Str×Value)):
   A9b P w K mg base (A.under (.builtin "type.__call__" ⟨.ref C::us,kw⟩)) outer s H:=⟨by first|exact e.frames|(simpa[Around.under,Code.envs,Code.isFrame,pushEnvs] using e.frames),e.mod,e.bs,e.bsz,e.funs,e.frf,e.hok,e.bare⟩
section
variable{X:Cx}{pins:List (Addr×Obj)}{σ:St}{H:Hp}{s s':Shared}
theorem Inv.env0(I:Inv X pins σ H s):A9b X.prog X.w X.K X.mg X.base X.A X.stack s H:=
 ⟨I.ok.frames,I.ok.mod,I.bs,Nat.le_trans I.ok.bsz I.sz,I.stack,I.stkFree,I.hok,I.bare⟩
theorem Inv.after{Q:VK}{u:Value}(I:Inv X pins σ H s)(h:CE X.stack X.prog X.w H s Q u s'):EP X pins σ Q u s':=by
 obtain⟨v,H',os,bare,un,hok,r,q⟩:=h
 obtain⟨hh,g,d,t,os'⟩:=s'
 obtain rfl:os'=s.os:=os
 exact⟨v,H',I.call (h':=hh) (g':=g) (d':=d) (t':=t) (ch:=[]) un hok bare (fun b z=>absurd z (by simp)),r,q⟩
end
noncomputable def V4 (K:PySem.W.Frag) (fd:FuncData) (ps:List Str) (ds:List Value):Prop:=
 ∀(s:Shared) (us:List Value),K.In s.heap ->(us++ds).length=ps.length ->BindsTo s fd ⟨us,[]⟩ (ps.zip (us++ds))
theorem V4.all{K:PySem.W.Frag}{fd:FuncData}{ps:List Str}(h:∀us:List Value,us.length=ps.length ->bindArgs fd ⟨us,[]⟩=pure (ps.zip us)):V4 K fd ps []:=fun s us _ hl=>by
 rw[List.append_nil] at hl ⊢
 exact .of_eq (h us hl)
section
variable{X:Cx}{CX:CXT}{k:Nat}{f C:Addr}{fd:FuncData}{ps:List Str}{sp:Sp}{dvs:List V}{ds:List Value}{E:XK}{x m:Str}{p pos apos:Pos}{e o:Expr}{es:List Expr}{ta:TE}{t:TA}
structure Mk(K:PySem.W.Frag)(C f:Addr):Prop where
 makes:PySem.W.makesIn K C=true
 init:PySem.W.findIn K (.ref C) "__init__"=some (some (.ref f))
 fn:PySem.W.isFn K (.ref f)=true
 kp:PySem.W.keepIn K (.ref C)=true
end
section
variable{X:Cx}{CX:CXT}{k:Nat}{f C:Addr}{fd:FuncData}{ps ks:List Str}{sp:Sp}{E:XK}{x m:Str}{p pos apos kpos:Pos}{e o:Expr}{es:List Expr}{kws:List Keyword}{te ta:TE}{t tk:TA}{nm:Option Str}
structure G2g(K:PySem.W.Frag)(fd:FuncData)(ps ks:List Str)(g:List Value ->List Value ->List Value)(gV:List V ->List V ->List V):Prop where
 to:∀(s:Shared) (us ws:List Value),K.In s.heap ->(g us ws).length=ps.length ->BindsTo s fd ⟨us,ks.zip ws⟩ (ps.zip (g us ws))
 rel:∀{vs:List V} {us:List Value} {zs:List V} {ws:List Value},G7 vs us ->G7 zs ws ->G7 (gV vs zs) (g us ws)
variable{g:List Value ->List Value ->List Value}{gV:List V ->List V ->List V}
end
structure B8(N P:List Str)(sc:Scope):Prop where
 kind:sc.kind= .function
 co:sc.isCoroutine=false
 gen:sc.isGenerator=false
 nd:N.Nodup
 pre:N.take P.length=P
 par:∀x∈P,sc.names.lookup x=some .local\/sc.names.lookup x=some .cell
 nofree:∀y∈sc.names,y.2≠ .free
theorem B2y{kindOf:Str ->Option NameKind}{x:Str}:∀{binds:List (Str×Value)} {m:Str ->Option Value},(∀v,(x,v) ∉ binds) ->bindL kindOf binds m x=m x
 | [],_,_=>rfl
 | (n,v)::r,m,h=>by
   unfold bindL
   rw[B2y fun w hw=>h w (List.mem_cons_of_mem _ hw)]
   split
   . have:x≠n:=by rintro rfl;exact h v List.mem_cons_self
     simp[this]
   . rfl
theorem B2w{kindOf:Str ->Option NameKind}{x:Str}:∀{binds:List (Str×Value)} {m:Str ->Option Value},(∀v,(x,v) ∉ binds) ->bindC kindOf binds m x=m x
 | [],_,_=>rfl
 | (n,v)::r,m,h=>by
   unfold bindC
   rw[B2w fun w hw=>h w (List.mem_cons_of_mem _ hw)]
   split
   . rfl
   . have:x≠n:=by rintro rfl;exact h v List.mem_cons_self
     simp[this]
theorem B3e{kindOf:Str ->Option NameKind}{x:Str}{v:Value}:∀{P:List Str} {vs:List Value} {i:Nat} {m:Str ->Option Value},P.Nodup ->P[i]?=some x ->vs[i]?=some v ->kindOf x=some .local ->
   bindL kindOf (P.zip vs) m x=some v
 | [],_,_,_,_,h,_,_=>by simp at h
 |_::_,[],_,_,_,_,h,_=>by simp at h
 | p::P,w::vs,0,m,nd,h1,h2,hk=>by
   simp at h1 h2;subst h1;subst h2
   show bindL kindOf ((p,w)::P.zip vs) m p=_
   unfold bindL
   rw[B2y fun v hv=>(List.nodup_cons.mp nd).1 (List.of_mem_zip hv).1,if_pos hk]
   simp
 | p::P,w::vs,i+1,m,nd,h1,h2,hk=>by
   show bindL kindOf ((p,w)::P.zip vs) m x=_
   unfold bindL
   exact B3e (i:=i) (List.nodup_cons.mp nd).2 (by simpa using h1) (by simpa using h2) hk
theorem B2z{kindOf:Str ->Option NameKind}{x:Str}{v:Value}:∀{P:List Str} {vs:List Value} {i:Nat} {m:Str ->Option Value},P.Nodup ->P[i]?=some x ->vs[i]?=some v ->kindOf x≠some .local ->
   bindC kindOf (P.zip vs) m x=some v
 | [],_,_,_,_,h,_,_=>by simp at h
 |_::_,[],_,_,_,_,h,_=>by simp at h
 | p::P,w::vs,0,m,nd,h1,h2,hk=>by
   simp at h1 h2;subst h1;subst h2
   show bindC kindOf ((p,w)::P.zip vs) m p=_
   unfold bindC
   rw[B2w fun v hv=>(List.nodup_cons.mp nd).1 (List.of_mem_zip hv).1,if_neg hk]
   simp
 | p::P,w::vs,i+1,m,nd,h1,h2,hk=>by
   show bindC kindOf ((p,w)::P.zip vs) m x=_
   unfold bindC
   exact B2z (i:=i) (List.nodup_cons.mp nd).2 (by simpa using h1) (by simpa using h2) hk
noncomputable def A1e (N:List Str) (vs:List V):St:=vs.map some++List.replicate (N.length-vs.length) none
noncomputable def A2g (CX:CXT) (P:Program) (w:World) (K:PySem.W.Frag) (mg:Str ->Option Value) (base:Heap) (N:List Str) (qual:Str) (scope:Scope) (f:Addr) (cd:Value) (A:Around) (outer:List Env) (s:Shared) (H:Hp) (E:XK):Cx where
 prog:=P
 w:=w
 K:=K
 mg:=mg
 base:=base
 A:=A.deeper (envOfC qual scope s.heap.objs.size f cd)
 N:=N
 s₀:=s
 H₀:=H
 env:=envOfC qual scope s.heap.objs.size f cd
 outer:=outer
 stack:=envOfC qual scope s.heap.objs.size f cd::outer
 ex:=[]
 calm:=true
 fn:=fun _=>true
 pn:=[]
 xe:=fun e s'=>wpAny (model P w) (A.deeper (envOfC qual scope s.heap.objs.size f cd)) (leaving (envOfC qual scope s.heap.objs.size f cd) e) (fun _ s''=>CX outer H s E e s'') (fun e' s''=>CX outer H s E e' s'') s'
theorem B7a{sc:Scope}{n:Nat}{x:Str}(h:sc.names.lookup x=some .cell):∃c,(cellsFrom n sc.names []).lookup x=some c:=by
 have q:=PySem.W.cellsFrom_some sc.names n [] (.inl h)
 exact Option.isSome_iff_exists.mp q
theorem A7r{CX:CXT}{P:Program}{w:World}{K:PySem.W.Frag}{mg:Str ->Option Value}{base:Heap}{N ps:List Str}{qual:Str}{scope:Scope}{f:Addr}{cd:Value}{A:Around}{outer:List Env}{s s1:Shared}{H:Hp}{E:XK}{us:List Value}{vs:List V}
   (S:B8 N ps scope) (hd:A.handled=none) (e0:A9b P w K mg base A outer s H) (hl:vs.length=ps.length) (r:G7 vs us)
   (x:InCallC s s.heap.objs.size (bindL (envOfC qual scope s.heap.objs.size f cd).kindOf (ps.zip us) fun _=>none) (cellsFrom (s.heap.objs.size+1) scope.names []) (bindC (envOfC qual scope s.heap.objs.size f cd).kindOf (ps.zip us) fun _=>none) s1):
   Inv (A2g CX P w K mg base N qual scope f cd A outer s H E) [] (A1e N vs) H s1:=by
 have hpl:ps.length<=N.length:=by have:=congrArg List.length S.pre;rw[List.length_take] at this;omega
 obtain⟨h1,tk,rfl,hk⟩:=x.done
 have noA:∀b:Addr,b ∉ (A2g CX P w K mg base N qual scope f cd A outer s H E).ex:=fun b z=>absurd (show b∈([]:List Addr) from z) (by simp)
 refine⟨⟨e0.mod,S.kind,rfl,rfl,Nat.le_refl _,fun y z c h1 h2=>?_,fun y hy=>?_,fun y c _ h=>?_,fun _=>hd,Around.frames_deeper e0.frames,.inr ⟨rfl,rfl⟩,fun b z=>absurd z (noA b),e0.bs,e0.bsz,fun b _ _=>noA b,fun b z=>absurd z (noA b),e0.funs,e0.frf⟩,
   rfl,e0.bare,Un.kept hk,⟨_,x.toInCall.ns,fun i y v h1 h2 h3=>?_⟩,fun y c h=>⟨_,x.cell y c h⟩,e0.hok.fresh (Nat.le_refl _),fun y c h=>?_,fun p hp=>absurd (show p∈([]:List (Addr×Obj)) from hp) (by simp),e0.hok.kept hk,?_⟩
 . exact name_of_addr x.apart (PySem.mem_of_lookup h1) (PySem.mem_of_lookup h2)
 . have hy:scope.names.lookup y=some .cell\/scope.names.lookup y=some .free:=hy
   rcases hy with hy|hy
   . exact B7a hy
   . exact absurd rfl (S.nofree _ (PySem.mem_of_lookup hy))
 . exact Nat.le_of_lt (x.above y c (PySem.mem_of_lookup h))
 . have hi:i<vs.length:=by
     unfold A1e at h2
     by_cases hi:i<vs.length
     . exact hi
     . rw[List.getElem?_append_right (by simpa using hi)] at h2
       rw[List.getElem?_replicate] at h2
       split at h2<;>cases h2
   have ha:vs[i]?=some v:=by
     unfold A1e at h2
     rw[List.getElem?_append_left (by simpa using hi),List.getElem?_map] at h2
     cases e:vs[i]? with
     |none=>rw[e] at h2;cases h2
     |some a=>rw[e] at h2;cases h2;rfl
   obtain⟨u,hu,rv⟩:=r.get ha
   have hp:ps[i]?=some y:=by
     rw[<-S.pre,List.getElem?_take_of_lt (by omega)];exact h1
   have ndP:ps.Nodup:=by rw[<-S.pre];exact S.nd.sublist (List.take_sublist _ _)
   refine⟨u,rv,?_⟩
   rcases S.par y (List.mem_of_getElem? hp) with k|k
   . exact .inl ⟨k,B3e ndP hp hu k⟩
   . obtain⟨c,e⟩:=B7a (n:=s.heap.objs.size+1) k
     refine .inr ⟨.inl k,c,e,?_⟩
     have q:=x.cell y c e
     rw[B2z ndP hp hu (by show scope.names.lookup y≠_;rw[k];decide)] at q
     exact q
 . exact e0.hok.fresh (Nat.le_of_lt (x.above y c (PySem.mem_of_lookup h)))
 unfold A1e
 show _=N.length
 rw[List.length_append,List.length_map,List.length_replicate]
 omega
theorem D9d{CX:CXT}{P:Program}{w:World}{K:PySem.W.Frag}{mg:Str ->Option Value}{base:Heap}{k:Nat}{f:Addr}{name qual:Str}{params:Arguments}{body:List Stmt}{scope:Scope}{dV kV doc pm cdv ct oc:Value}{an od:Option Addr}
   {osl:Array (Option Value)} {N ps:List Str} {sp:Sp} (lk:K.lookup f=some ⟨oc,od,.func (PySem.W.fnOf name qual params body scope dV kV doc pm an cdv ct),osl⟩) (hcd:PySem.W.codeIn K cdv qual=true) (S:B8 N ps scope)
   (len:∀vs H Q E,sp vs H Q E ->vs.length=ps.length)
   (hbody:∀(A:Around) (outer:List Env) (s:Shared) (H:Hp) (vs:List V) (Q:VK) (E:XK),A0h k (A.deeper (envOfC qual scope s.heap.objs.size f cdv)) ->sp vs H Q E ->
     ∃t,PSs (A2g CX P w K mg base N qual scope f cdv A outer s H E) body t/\t {nx:=fun _ H'=>Q .non H',rt:=Q} (A1e N vs) H):
   G8 P w K mg base CX (k+1) f (PySem.W.fnOf name qual params body scope dV kV doc pm an cdv ct) ps sp:=by
 refine⟨len,fun A outer s H args us vs Q E hr e0 hb r hsp=>?_⟩
 have hl:=len _ _ _ _ hsp
 have KX:K.In s.heap:=e0.mod.kin.keeps fun b o e=>(e0.bs b o e).1
 have lim:s.heap.NoLimit:=e0.mod.nolimit.keeps fun b o e=>(e0.bs b o e).1
 have hkind:∀y∈ps.zip us,scope.names.lookup y.1=some .local\/(scope.names.lookup y.1=some .cell/\((cellsFrom (s.heap.objs.size+1) scope.names []).lookup y.1).isSome=true):=fun⟨n,v⟩ hy=>by
   rcases S.par n (List.of_mem_zip hy).1 with q|q
   . exact .inl q
   . exact .inr ⟨q,PySem.W.cellsFrom_some _ _ _ (.inl q)⟩
 refine codeAny_call_function hr.depth (KX _ _ lk) rfl S.co S.gen rfl (PySem.W.codeRec_of KX hcd) (hb _ _ _ _ ?_)
 refine wpAny_newFunctionEnv_cells S.kind hkind fun env he s1 x=>?_
 subst he
 refine⟨lim.keeps x.toInCall.keep,codeAny_func ?_⟩
 obtain⟨t,ht,hq⟩:=hbody A outer s H vs Q E (hr.deeper _) hsp
 have I:Inv (A2g CX P w K mg base N qual scope f cdv A outer s H E) [] (A1e N vs) H s1:=A7r S hr.hd e0 hl r x
 refine wpAny_mono (ht [] s1 (A1e N vs) H _ I hq) (fun fl s' hs=>?_) fun e s' hs=>hs
 have fin:∀{σ':St} {H':Hp} {v:V} {u:Value},Inv (A2g CX P w K mg base N qual scope f cdv A outer s H E) [] σ' H' s' ->V0 v u ->Q v H' ->CE outer P w H s Q u s':=
   fun{σ' H' v u} J rv q=>⟨v,H',J.os,J.bare,J.base,J.hok,rv,q⟩
 cases fl with
 | ret u=>
   obtain⟨v,σ',H',J,rv,q⟩:=hs
   exact fin J rv q
 | next=>
   obtain⟨σ',H',J,q⟩:=hs
   exact fin (v:=V.non) (u:=Value.none) J rfl q
 | brk=>
   obtain⟨_,_,_,q⟩:=hs
   exact False.elim q
 | cont=>
   obtain⟨_,_,_,q⟩:=hs
   exact False.elim q
section
variable{X:Cx}{x:Str}{p pos:Pos}{e:Expr}{es:List Expr}{t:TA}{id T:String}{r:List V ->Hp ->VK ->Prop}
noncomputable def tCB (r:List V ->Hp ->VK ->Prop) (t:TA):TE:=fun σ H Q=>t σ H fun vs H1=>r vs H1 Q
theorem Y3(hc:A1n X (.builtin id) r)(hg:Gl X x)(hm:X.mg x=none)(hv:bootBuiltins x=some (.builtin id))(ha:PA X (e::es) t)(hn:x≠"__name__":=by decide)(hdb:(x==("__debug__":Str))=false:=by decide)
   (he:starEach (e::es) X.env=(false,eval e X.env)::starEach es X.env:=by rfl) (hpl:(backTo pos (starEach es X.env)).any (·.1)=false:=by rfl):PE X (.Call (.Name x p) (e::es) [] pos) (tCB r t):=by
 intro pins s σ H Q I h
 refine wpAny_Call_Name_kw (A7g I hg hm hv ?_ hn hdb)
 exact PyProof.Rows.callWith_builtin1 (thn (ha pos pins s σ H _ I h) fun us s1 ⟨vs,H1,I1,r1,q1⟩=>hc pins s1 σ H1 vs us Q I1 r1 q1) he hpl
theorem V2(hc:A1n X (.type T) r)(hg:Gl X x)(hm:X.mg x=none)(hv:bootBuiltins x=some (.type T))(ha:PA X (e::es) t)(hn:x≠"__name__":=by decide)(hdb:(x==("__debug__":Str))=false:=by decide)
   (he:starEach (e::es) X.env=(false,eval e X.env)::starEach es X.env:=by rfl) (hpl:(backTo pos (starEach es X.env)).any (·.1)=false:=by rfl):PE X (.Call (.Name x p) (e::es) [] pos) (tCB r t):=by
 intro pins s σ H Q I h
 refine wpAny_Call_Name_kw (A7g I hg hm hv ?_ hn hdb)
 exact PyProof.Rows.callWith_type1 (thn (ha pos pins s σ H _ I h) fun us s1 ⟨vs,H1,I1,r1,q1⟩=>hc pins s1 σ H1 vs us Q I1 r1 q1) he hpl
end
end L2
namespace HT
open PySem PyProof.Rows
section
open PySem.SeqAt
open PySem.AutoSeq1 (wpAny_loadPart')
open PySem.MeetsSeq PySem.MeetsSeq2 PySem.MeetsSeq3
end
section
variable{prog:Program}{w:World}{A:Around}{E:Value ->Shared ->Prop}{s:Shared}
noncomputable def sIx (n d:Nat):Option Int ->Nat
 |none=>d
 |some v=>if v<0 then(v+(n:Int)).toNat else min v.toNat n
theorem G1j(n d:Nat)(hd:d<=n)(o:Option Int):sIx n d o<=n:=by
 cases o with
 |none=>exact hd
 | some v=>
   show(if v<0 then(v+(n:Int)).toNat else min v.toNat n)<=n
   by_cases hv:v<0
   . rw[if_pos hv];omega
   . rw[if_neg hv];exact Nat.min_le_right _ _
theorem C2n(v:Int)(n d:Nat):(if v<0 then max (v+(n:Int)) 0 else min v (n:Int))=((sIx n d (some v):Nat):Int):=by
 show(if v<0 then max (v+(n:Int)) 0 else min v (n:Int))=(((if v<0 then(v+(n:Int)).toNat else min v.toNat n):Nat):Int)
 by_cases hv:v<0
 . simp only[if_pos hv];omega
 simp only[if_neg hv];omega
theorem B9u(lo hi:Option Int)(n:Nat):Builtin.Slice.sliceAdjust lo hi 1 (n:Int)=(((sIx n 0 lo:Nat):Int),((sIx n n hi:Nat):Int)):=by
 have h1:¬((1:Int)<0):=by omega
 unfold Builtin.Slice.sliceAdjust
 simp only[h1,if_false]
 refine Prod.ext ?_ ?_
 . cases lo with
   |none=>rfl
   |some v=>exact C2n v n 0
 cases hi with
 |none=>rfl
 |some v=>exact C2n v n n
theorem B8v(i j:Nat):Builtin.Slice.slicePlaces (i:Int) (j:Int) 1=j-i:=by
 unfold Builtin.Slice.slicePlaces
 have h1:(1:Int)>0:=by omega
 simp only[h1,if_true,Int.ediv_one]
 split<;>omega
theorem B1e{v:Value}{o:Option Int}{Q:Option Int ->Shared ->Prop}(p:IsPart v o)(h:Q o s):wpAny (model prog w) A (Builtin.Slice.slicePartIndex v) Q E s:=by
 cases p with
 |none=>exact slicePart_none h
 |int i t=>exact slicePart_int h
theorem A7e{sl:Addr}{vl vu:Value}{lo hi:Option Int}{n:Nat}{Q:Int×Int×Nat ->Shared ->Prop}(hs:s.heap.IsSliceOf sl vl vu .none)(pl:IsPart vl lo)(pu:IsPart vu hi)
   (h:Q (((sIx n 0 lo:Nat):Int),1,sIx n n hi-sIx n 0 lo) s):wpAny (model prog w) A (Builtin.Slice.sliceApplied (.ref sl) (pure (n:Int))) Q E s:=by
 obtain⟨os,hos,hcs,hds⟩:=id hs
 unfold Builtin.Slice.sliceApplied Builtin.Slice.sliceFields
 refine wpAny_bind (wpAny_bind (wpAny_field hos hds (x:=vl) rfl (wpAny_bind (wpAny_field hos hds (x:=vu) rfl (wpAny_bind (wpAny_field hos hds (x:= .none) rfl (wpAny_pure ?_)))))))
 refine wpAny_bind (slicePart_none ?_)
 show wpAny _ _ (if((1:Int)==0)=true then _ else _) _ _ s
 rw[if_neg (by decide)]
 refine wpAny_bind (B1e pl (wpAny_bind (B1e pu (wpAny_bind (wpAny_pure ?_)))))
 show wpAny _ _ (match Builtin.Slice.sliceAdjust lo hi 1 (n:Int) with|(lo,hi)=>pure (lo,(1:Int),Builtin.Slice.slicePlaces lo hi 1)) _ _ s
 rw[B9u lo hi n]
 show wpAny _ _ (pure (((sIx n 0 lo:Nat):Int),(1:Int),Builtin.Slice.slicePlaces ((sIx n 0 lo:Nat):Int) ((sIx n n hi:Nat):Int) 1)) _ _ s
 rw[B8v]
 exact wpAny_pure h
theorem C9f(xs:Array Value)(i k:Nat):((List.range k).filterMap fun(m:Nat)=>xs[((i:Int)+(m:Int)*1).toNat]?).toArray=((xs.toList.drop i).take k).toArray:=by
 have e:(fun(m:Nat)=>xs[((i:Int)+(m:Int)*1).toNat]?)=fun m=>xs[i+m]?:=by
   funext m
   have:((i:Int)+(m:Int)*1).toNat=i+m:=by omega
   rw[this]
 rw[e]
 have:=pick_run xs i k
 rw[List.filterMap_map] at this
 have e2:((fun x=>xs[x]?)∘fun x=>i+x)=fun m=>xs[i+m]?:=rfl
 rw[e2] at this
 rw[this]
theorem getItem_tuple_cut{t sl:Addr}{items:Array Value}{vl vu:Value}{lo hi:Option Int}{Q:Value ->Shared ->Prop}(ht:IsTup s.heap t items)(hs:s.heap.IsSliceOf sl vl vu .none)(pl:IsPart vl lo)(pu:IsPart vu hi)
   (hw:¬(sIx items.size 0 lo=0/\sIx items.size items.size hi=items.size))
   (h:Q (.ref s.heap.objs.size) {s with heap:=s.heap.push {cls:= .type "tuple",data:= .seq ((items.toList.drop (sIx items.size 0 lo)).take (sIx items.size items.size hi-sIx items.size 0 lo)).toArray}})
   (hsz:items.size<=sizeLine):wpAny (model prog w) A (getItem (.ref t) (.ref sl)) Q E s:=by
 have htake:sizeOk (.seq ((items.toList.drop (sIx items.size 0 lo)).take (sIx items.size items.size hi-sIx items.size 0 lo)).toArray):=by
   show((items.toList.drop (sIx items.size 0 lo)).take (sIx items.size items.size hi-sIx items.size 0 lo)).toArray.size<=sizeLine
   rw[List.size_toArray,List.length_take,List.length_drop,Array.length_toList]
   omega
 have hj:sIx items.size items.size hi<=items.size:=G1j _ _ (Nat.le_refl _) hi
 obtain⟨os,hos,hcs,hds⟩:=id hs
 have hTs:s.TypeIs (.ref sl) "slice":=⟨os,hos,hcs⟩
 unfold getItem
 try with_reducible refine wpAny_holding ?_
 first|refine wpAny_bind (wpAny_pure ?_)|skip
 refine wpAny_bind (wpAny_sequenceKey ht.typeIs (by decide) ?_)
 refine wpAny_bind (wpAny_callSpecial?_slot (name:=Str.ofString "__getitem__") ht.typeIs PyProof.Rows.slot_tuple_getitem
   (wpAny_call_entry PyProof.Rows.slot_tuple_getitem ht.typeIs entry_tuple_getitem ?_ (args_tuple_getitem _ _)))
 show wpAny _ _ (Builtin.Tuple.tupleItemsOf (.ref t)>>=_) _ _ s
 refine wpAny_bind (tupleItemsOf_ ht ?_)
 refine wpAny_bind (wpAny_typeOf hTs ?_)
 rw[if_pos (by decide)]
 refine wpAny_bind (A7e hs pl pu ?_)
 have hno:¬((((sIx items.size 0 lo:Nat):Int)==0&&(1:Int)==1&&(sIx items.size items.size hi-sIx items.size 0 lo)==items.size)=true):=by
   intro q
   rw[Bool.and_eq_true,Bool.and_eq_true] at q
   have q1:((sIx items.size 0 lo:Nat):Int)=0:=eq_of_beq q.1.1
   have q2:sIx items.size items.size hi-sIx items.size 0 lo=items.size:=eq_of_beq q.2
   exact hw ⟨by omega,by omega⟩
 show wpAny _ _ (if(((sIx items.size 0 lo:Nat):Int)==0&&(1:Int)==1&&(sIx items.size items.size hi-sIx items.size 0 lo)==items.size)=true then _ else _) _ _ s
 rw[if_neg hno,C9f]
 first
   |exact wpAny_bind (m:=Builtin.Tuple.tupleExact _) (wpAny_newObj_type (wpAny_pure ⟨_,rfl,wpAny_pure h⟩) htake)
   |exact wpAny_bind (m:=Builtin.Tuple.tupleExact _) (wpAny_newObj_type (wpAny_bind (wpAny_pure (wpAny_pure ⟨_,rfl,wpAny_pure h⟩))) htake)
   |exact wpAny_bind (wpAny_bind (m:=Builtin.Tuple.tupleExact _) (wpAny_newObj_type (wpAny_pure (wpAny_pure ⟨_,rfl,wpAny_pure h⟩)) htake))
   |exact wpAny_bind (wpAny_bind (m:=Builtin.Tuple.tupleExact _) (wpAny_newObj_type (wpAny_pure ⟨_,rfl,wpAny_pure h⟩) htake))
end
end HT
namespace L2
open PySem PySem.Spec PyProof.Rows
noncomputable abbrev TO:=St ->Hp ->(Option Int ->Hp ->Prop) ->Prop
noncomputable def PO (X:Cx) (e:Option Expr) (t:TO):Prop:=
 ∀ (pins:List (Addr×Obj)) (s:Shared) (σ:St) (H:Hp) (Q:Option Int ->Hp ->Prop),Inv X pins σ H s ->t σ H Q ->
   wpAny (model X.prog X.w) X.A (evalPart e X.env) (fun u s'=>∃o H',Inv X pins σ H' s'/\IsPart u o/\Q o H') X.xe s
noncomputable def D5y:TO:=fun _ H Q=>Q none H
noncomputable def G6z (t:TE):TO:=fun σ H Q=>t σ H fun x H1=>∃i,x= .int i/\Q (some i) H1
section
variable{X:Cx}{e:Expr}{te:TE}{lo hi:Option Expr}{tl th:TO}{pos p2:Pos}
theorem D6e:PO X none D5y:=by
 intro pins s σ H Q I h
 rw[evalPart_none]
 exact wpAny_pure ⟨none,H,I,.none,h⟩
theorem D7a(h:PE X e te):PO X (some e) (G6z te):=by
 intro pins s σ H Q I hw
 rw[evalPart_some]
 refine thn (h pins s σ H _ I hw) fun u s1 hh_=>?_
 obtain⟨x,H1,I1,r1,q1⟩:=hh_
 obtain⟨i,rfl,q⟩:=q1
 obtain⟨t,rfl⟩:=r1
 exact⟨some i,H1,I1,.int i t,q⟩
noncomputable def SlR (X:Cx) (r:V ->Option Int ->Option Int ->Hp ->VK ->Prop):Prop:=
 ∀ (pins:List (Addr×Obj)) (s:Shared) (σ:St) (H:Hp) (x:V) (v vl vu:Value) (lo hi:Option Int) (sl:Addr) (Q:VK),Inv X pins σ H s ->V0 x v ->s.heap.IsSliceOf sl vl vu .none ->IsPart vl lo ->IsPart vu hi ->r x lo hi H Q ->
   ∃T id,typeLookup (.type T) "__getitem__"=pure (some (.builtin id))/\s.TypeIs v T/\wpAny (model X.prog X.w) X.A (getItem v (.ref sl)) (EP X pins σ Q) X.xe s
noncomputable def tSl (r:V ->Option Int ->Option Int ->Hp ->VK ->Prop) (te:TE) (tl th:TO):TE:=fun σ H Q=>te σ H fun x H1=>tl σ H1 fun l H2=>th σ H2 fun u H3=>r x l u H3 Q
theorem C9z{r:V ->Option Int ->Option Int ->Hp ->VK ->Prop}(hr:SlR X r)(he:PE X e te)(hl:PO X lo tl)(hu:PO X hi th):PE X (.Subscript e (.Slice lo hi none p2) pos) (tSl r te tl th):=by
 intro pins s σ H Q I h
 refine Subscript_ (thn (he pins s σ H _ I h) fun v s1 hh_=>?_)
 obtain⟨x,H1,I1,r1,q1⟩:=hh_
 refine wpAny_Slice (thn (hl pins s1 σ H1 _ I1 q1) fun vl s2 ⟨l,H2,I2,pl,q2⟩=>thn (hu pins s2 σ H2 _ I2 q2) fun vu s3 hh_=>?_)
 obtain⟨u,H3,I3,pu,q3⟩:=hh_
 rw[evalPart_none]
 refine wpAny_pure ?_
 have I4:Inv X pins σ H3 {s3 with heap:=s3.heap.push {cls:= .type "slice",data:= .fields #[vl,vu,.none]}}:=I3.kept (t':=s3.toks) fun b ob q=>Heap.get?_push_of_some _ q
 obtain⟨T,id,hT,ht,hg⟩:=hr pins {s3 with heap:=s3.heap.push {cls:= .type "slice",data:= .fields #[vl,vu,.none]}} σ H3 x v vl vu l u s3.heap.objs.size Q I4 r1 (Heap.IsSliceOf.new ..) pl pu q3
 show wpAny (model X.prog X.w) X.A (subscriptTail e (.Slice lo hi none p2) v (.ref s3.heap.objs.size)) (EP X pins σ Q) X.xe {s3 with heap:=s3.heap.push {cls:= .type "slice",data:= .fields #[vl,vu,.none]}}
 exact tail_any (ops:=[.ref s3.heap.objs.size,v]) ht hT hg (by with_unfolding_all rfl)
noncomputable def C0c (xs:List V) (lo hi:Option Int):List V:=(xs.drop (HT.sIx xs.length 0 lo)).take (HT.sIx xs.length xs.length hi-HT.sIx xs.length 0 lo)
theorem B7g(xs:List V)(lo hi:Option Int):(C0c xs lo hi).length<=xs.length:=by
 unfold C0c
 rw[List.length_take,List.length_drop]
 omega
noncomputable def G9y (K:PySem.W.Frag):V ->Option Int ->Option Int ->Hp ->VK ->Prop:=fun x lo hi H Q=>∃a xs,x= .ref a/\SqT K H a xs/\
 ¬(HT.sIx xs.length 0 lo=0/\HT.sIx xs.length xs.length hi=xs.length)/\∀p,H p=none ->Q (.ref p) (upd H p (.tup (C0c xs lo hi)))
theorem G2d:SlR X (G9y X.K):=by
 intro pins s σ H x v vl vu lo hi sl Q I rx hs pl pu h
 obtain⟨a,xs,rfl,hx,hw,q⟩:=h
 cases rx
 obtain⟨its,r,ht,hz⟩:=I.tuple hx
 have hlen:its.toArray.size=xs.length:=by rw[List.size_toArray];exact r.length.symm
 refine⟨"tuple",_,PyProof.Rows.slot_tuple_getitem.lookup,ht.typeIs,?_⟩
 refine HT.getItem_tuple_cut ht hs pl pu (by rw[hlen];exact hw) ?_ (by rw[hlen];exact hz)
 rw[hlen]
 refine⟨.ref s.heap.objs.size,_,I.laid (t':=s.toks) (o:= .tup (C0c xs lo hi)) (fun b ob q=>Heap.get?_push_of_some _ q) (Nat.le_refl _) ?_,rfl,q _ (I.hok.fresh (Nat.le_refl _))⟩
 exact⟨Nat.le_trans (B7g xs lo hi) hz,_,(r.drop (HT.sIx xs.length 0 lo)).take (HT.sIx xs.length xs.length hi-HT.sIx xs.length 0 lo),IsTup.new _ _⟩
end
noncomputable def ixN (n:Nat) (i:Int):Option Nat:=if 0<=i then(if i<n then some i.toNat else none) else if -(n:Int)<=i then some (i+n).toNat else none
noncomputable def atI {α:Type} (xs:List α) (i:Int):Option α:=(ixN xs.length i).bind fun j=>xs[j]?
theorem D8a{n:Nat}{i:Int}{j:Nat}(h:ixN n i=some j):seqIndex? i n=some j/\j<n/\ -(n:Int)<=i/\i<n:=by
 unfold ixN at h
 by_cases h0:0<=i
 . rw[if_pos h0] at h
   by_cases h1:i<n
   . rw[if_pos h1] at h
     have e:i.toNat=j:=Option.some.inj h
     exact⟨by rw[seqIndex_of h0 h1,e],by omega,by omega,h1⟩
   . rw[if_neg h1] at h;cases h
 rw[if_neg h0] at h
 by_cases h1: -(n:Int)<=i
 . rw[if_pos h1] at h
   have e:(i+n).toNat=j:=Option.some.inj h
   exact⟨by rw[seqIndex_neg (by omega) h1,e],by omega,h1,by omega⟩
 rw[if_neg h1] at h;cases h
theorem C1x{α:Type}{xs:List α}{i:Int}{v:α}(h:atI xs i=some v):∃j,seqIndex? i xs.length=some j/\xs[j]?=some v/\j<xs.length/\ -(xs.length:Int)<=i/\i<xs.length:=by
 unfold atI at h
 cases e:ixN xs.length i with
 |none=>rw[e] at h;cases h
 | some j=>
   rw[e] at h
   obtain⟨h1,h2,h3,h4⟩:=D8a e
   exact⟨j,h1,h,h2,h3,h4⟩
theorem Y0{α:Type}{xs:List α}{j:Nat}{v:α}(h:xs[j]?=some v):atI xs (j:Int)=some v:=by
 have hj:j<xs.length:=(List.getElem?_eq_some_iff.mp h).1
 have e:ixN xs.length (j:Int)=some j:=by
   unfold ixN
   rw[if_pos (by omega),if_pos (by omega)];simp
 unfold atI;rw[e];exact h
noncomputable def D6t (b:Expr):Prop:=∀o i,subscripted b false o i=operate [o,i] (getItem o i)
noncomputable def IxR (X:Cx) (r:R2):Prop:=
 ∀ (value slice:Expr) (pins:List (Addr×Obj)) (s:Shared) (σ:St) (H:Hp) (x y:V) (v u:Value) (Q:VK),Inv X pins σ H s ->V0 x v ->V0 y u ->r x y H Q ->
   subscripted slice false v u=operate [v,u] (getItem v u) ->wpAny (model X.prog X.w) X.A (subscriptTail value slice v u) (EP X pins σ Q) X.xe s
noncomputable def MtR (X:Cx) (id:String) (r:V ->List V ->Hp ->VK ->Prop):Prop:=
 ∀ (pins:List (Addr×Obj)) (s:Shared) (σ:St) (H:Hp) (x:V) (xs:List V) (v:Value) (us:List Value) (Q:VK),Inv X pins σ H s ->V0 x v ->G7 xs us ->r x xs H Q ->
   wpAny (model X.prog X.w) X.A (call (.builtin id) (v::us)) (EP X pins σ Q) X.xe s
section
variable{X:Cx}{a b:Expr}{ta tb:TE}{pos:Pos}
theorem Y2{r:R2}(hr:IxR X r)(ha:PE X a ta)(hb:PE X b tb)(hs:D6t b):PE X (.Subscript a b pos) (tOp r ta tb):=by
 intro pins s σ H Q I h
 exact Subscript_ (G0u ha hb I h fun v u s2 x y H2 I2 rx ry q=>hr a b pins s2 σ H2 x y v u Q I2 rx ry q (hs _ _))
noncomputable def G4s (K:PySem.W.Frag):R2:=fun x y H Q=>∃p xs i v,x= .ref p/\y= .int i/\SqL K H p xs/\atI xs i=some v/\Q v H
noncomputable def J0p (K:PySem.W.Frag):R2:=fun x y H Q=>∃p xs i v,x= .ref p/\y= .int i/\SqT K H p xs/\atI xs i=some v/\Q v H
theorem V7:IxR X (G4s X.K):=by
 intro value slice pins s σ H x y v u Q I rx ry h hs
 obtain⟨p,xs,i,z,rfl,rfl,hq,he,q⟩:=h
 cases rx
 obtain⟨t,rfl⟩:=ry
 obtain⟨its,r,pl,hz⟩:=I.list hq
 obtain⟨j,h1,h2,h3,h4,h5⟩:=C1x he
 obtain⟨w,ew,rw'⟩:=r.get h2
 have hl:=r.length
 have hn:=B4y
 have fin:EP X pins σ Q w s:=⟨z,H,I,rw',q⟩
 by_cases h0:0<=i
 . have hj:i.toNat=j:=by
     rw[seqIndex_of h0 h5] at h1
     exact Option.some.inj h1
   exact item_listR pl.isList h0 (by omega) (by rw[hj];simpa using ew) fin hs
 have hj:(i+(its.toArray.size:Int)).toNat=j:=by
   rw[seqIndex_neg (by omega) h4] at h1
   rw[List.size_toArray, <-hl]
   exact Option.some.inj h1
 exact subscriptTail_builtinR (x:=w) pl.isList.typeIs slot_list_getitem.lookup
   (wpAny_getItem_list_neg (Q:=fun r s'=>r=w/\EP X pins σ Q r s') pl.isList (by omega) (by rw[List.size_toArray]<;>omega) (by omega) (by rw[hj];simpa using ew) ⟨rfl,fin⟩) hs
theorem A2p:IxR X (J0p X.K):=by
 intro value slice pins s σ H x y v u Q I rx ry h hs
 obtain⟨p,xs,i,z,rfl,rfl,hq,he,q⟩:=h
 cases rx
 obtain⟨t,rfl⟩:=ry
 obtain⟨its,r,pl,hz⟩:=I.tuple hq
 obtain⟨j,h1,h2,h3,h4,h5⟩:=C1x he
 obtain⟨w,ew,rw'⟩:=r.get h2
 have hl:=r.length
 have hn:=B4y
 have fin:EP X pins σ Q w s:=⟨z,H,I,rw',q⟩
 exact subscriptTail_builtinR (x:=w) pl.typeIs slot_tuple_getitem.lookup
   (getItem_tuple (j:=j) (Q:=fun r s'=>r=w/\EP X pins σ Q r s') pl (by omega) (by omega) (by rw[List.size_toArray, <-hl];exact h1) (by simpa using ew) ⟨rfl,fin⟩) hs
noncomputable def A6a:V ->Bool
 | .non=>true
 | .bl _=>true
 | .int _=>true
 | .str _=>true
 |_=>false
noncomputable def eqV:V ->V ->Bool
 | .non,.non=>true
 | .bl a,.bl b=>a==b
 | .bl a,.int b=>(if a then 1 else 0)==b
 | .int a,.bl b=>a==(if b then 1 else 0)
 | .int a,.int b=>a==b
 | .str a,.str b=>a==b
 |_,_=>false
theorem G1q{A:Around}{s:Shared}{y x:V}{u v:Value}(ry:V0 y u)(rx:V0 x v)(fy:A6a y=true)(fx:A6a x=true):SeqAt.EqAt A s u v (eqV y x):=by
 cases y with
 | non=>
   cases ry
   cases x with
   |non=>cases rx;exact SeqAt.EqAt.same _
   |bl b=>cases rx;exact SeqAt.EqAt.none_bool b
   |int b=>obtain⟨t,rfl⟩:=rx;exact SeqAt.EqAt.none_int b t
   |str b=>obtain⟨t,rfl⟩:=rx;exact SeqAt.EqAt.none_str b t
   |_=>exact absurd (show false=true from fx) Bool.false_ne_true
 | bl a=>
   cases ry
   cases x with
   |non=>cases rx;exact SeqAt.EqAt.bool_none a
   |bl b=>cases rx;exact SeqAt.EqAt.bool_bool a b
   |int b=>obtain⟨t,rfl⟩:=rx;exact SeqAt.EqAt.bool_int a b t
   |str b=>obtain⟨t,rfl⟩:=rx;exact SeqAt.EqAt.bool_str a b t
   |_=>exact absurd (show false=true from fx) Bool.false_ne_true
 | int a=>
   obtain⟨t',rfl⟩:=ry
   cases x with
   |non=>cases rx;exact SeqAt.EqAt.int_none a t'
   |bl b=>cases rx;exact SeqAt.EqAt.int_bool a t' b
   |int b=>obtain⟨t,rfl⟩:=rx;exact SeqAt.EqAt.int_int a t' b t
   |str b=>obtain⟨t,rfl⟩:=rx;exact SeqAt.EqAt.int_str a t' b t
   |_=>exact absurd (show false=true from fx) Bool.false_ne_true
 | str a=>
   obtain⟨t',rfl⟩:=ry
   cases x with
   |non=>cases rx;exact SeqAt.EqAt.str_none a t'
   |bl b=>cases rx;exact SeqAt.EqAt.str_bool a t' b
   |int b=>obtain⟨t,rfl⟩:=rx;exact SeqAt.EqAt.str_int a t' b t
   |str b=>obtain⟨t,rfl⟩:=rx;exact SeqAt.EqAt.str_str a t' b t
   |_=>exact absurd (show false=true from fx) Bool.false_ne_true
 |_=>exact absurd (show false=true from fy) Bool.false_ne_true
noncomputable def eqU (x:V) (u:Value):Bool:=match u with
 | .none=>eqV .non x
 | .bool b=>eqV (.bl b) x
 | .int i _=>eqV (.int i) x
 | .str z _=>eqV (.str z) x
 |_=>false
theorem C9r{x y:V}{u:Value}(r:V0 y u)(f:A6a y=true):eqU x u=eqV y x:=by
 cases y with
 |non=>cases r;rfl
 |bl b=>cases r;rfl
 |int i=>obtain⟨t,rfl⟩:=r;rfl
 |str z=>obtain⟨t,rfl⟩:=r;rfl
 |_=>exact absurd (show false=true from f) Bool.false_ne_true
theorem A6u{x:V}:∀{xs:List V} {us:List Value},G7 xs us ->xs.all A6a=true ->us.any (eqU x)=xs.any fun y=>eqV y x
 |_,_,.nil,_=>rfl
 | y::xs,u::us,.cons r t,f=>by
   rw[List.all_cons,Bool.and_eq_true] at f
   rw[List.any_cons,List.any_cons,C9r r f.1,A6u t f.2]
theorem A4w{A:Around}{s:Shared}{x:V}{v:Value}(rx:V0 x v)(fx:A6a x=true):∀{xs:List V} {us:List Value},G7 xs us ->xs.all A6a=true ->∀u∈us,SeqAt.EqAt A s u v (eqU x u)
 |_,_,.nil,_=>fun u hu=>by cases hu
 | y::xs,u::us,.cons r t,f=>fun u' hu=>by
   rw[List.all_cons,Bool.and_eq_true] at f
   rcases List.mem_cons.mp hu with rfl|hu
   . rw[C9r r f.1];exact G1q r rx f.1 fx
   . exact A4w rx fx t f.2 u' hu
noncomputable def inV (x:V) (xs:List V):Bool:=xs.any fun y=>eqV y x
noncomputable def rIn (K:PySem.W.Frag) (neg:Bool):R2:=fun x y H Q=>∃p xs,y= .ref p/\(SqL K H p xs\/SqT K H p xs)/\A6a x=true/\xs.all A6a=true/\Q (.bl (if neg then !inV x xs else inV x xs)) H
theorem A7u:OpR X (compareOp .In) (rIn X.K false):=by
 intro pins s σ H x y v u Q I rx ry h
 obtain⟨p,xs,rfl,hq,fx,fs,q⟩:=h
 cases ry
 rcases hq with hq|hq
 . obtain⟨its,r,pl,hz⟩:=I.list hq
   refine SeqAt.in_listAt (eqU x) pl.isList (fun w hw=>A4w rx fx r fs w (by simpa using hw)) ⟨.bl _,H,I,rfl,?_⟩
   rw[show its.toArray.any (eqU x)=its.any (eqU x) by simp,A6u r fs]
   exact q
 obtain⟨its,r,pl,hz⟩:=I.tuple hq
 refine SeqAt.in_tupleAt (eqU x) pl (fun w hw=>A4w rx fx r fs w (by simpa using hw)) ⟨.bl _,H,I,rfl,?_⟩
 rw[show its.toArray.any (eqU x)=its.any (eqU x) by simp,A6u r fs]
 exact q
theorem A6j:OpR X (compareOp .NotIn) (rIn X.K true):=by
 intro pins s σ H x y v u Q I rx ry h
 obtain⟨p,xs,rfl,hq,fx,fs,q⟩:=h
 cases ry
 rcases hq with hq|hq
 . obtain⟨its,r,pl,hz⟩:=I.list hq
   refine SeqAt.notIn_listAt (eqU x) pl.isList (fun w hw=>A4w rx fx r fs w (by simpa using hw)) ⟨.bl _,H,I,rfl,?_⟩
   rw[show its.toArray.any (eqU x)=its.any (eqU x) by simp,A6u r fs]
   exact q
 obtain⟨its,r,pl,hz⟩:=I.tuple hq
 refine SeqAt.notIn_tupleAt (eqU x) pl (fun w hw=>A4w rx fx r fs w (by simpa using hw)) ⟨.bl _,H,I,rfl,?_⟩
 rw[show its.toArray.any (eqU x)=its.any (eqU x) by simp,A6u r fs]
 exact q
theorem B4n:A1n X (.builtin "len") (fun xs H Q=>∃p ys,xs=[.ref p]/\(SqL X.K H p ys\/SqT X.K H p ys)/\Q (.int ys.length) H):=by
 intro pins s σ H xs us Q I r h
 obtain⟨p,ys,rfl,hq,q⟩:=h
 obtain⟨u,rfl,rx⟩:=B0z r
 cases rx
 have hn:=B4y
 rcases hq with hq|hq
 . obtain⟨its,r',pl,hz⟩:=I.list hq
   have hlen:=r'.length
   exact Calls.call_len_list pl.isList (by simp only[List.size_toArray]<;>omega) ⟨.int ys.length,H,I.tok _,⟨s.toks+1,by rw[List.size_toArray,hlen]⟩,q⟩
 obtain⟨its,r',pl,hz⟩:=I.tuple hq
 have hlen:=r'.length
 exact len_tuple pl (by simp only[List.size_toArray]<;>omega) ⟨.int ys.length,H,I.tok _,⟨s.toks+1,by rw[List.size_toArray,hlen]⟩,q⟩
theorem A1u:A1n X (.builtin "len") (fun xs H Q=>∃z,xs=[.str z]/\z.length<=sizeLine/\Q (.int z.length) H):=by
 intro pins s σ H xs us Q I r h
 obtain⟨z,rfl,hz,q⟩:=h
 obtain⟨u,rfl,t,rfl⟩:=B0z r
 have hn:=B4y
 exact len_str (by omega) ⟨.int z.length,H,I.tok _,⟨_,rfl⟩,q⟩
theorem A3m:A1n X (.type "list") (fun xs H Q=>∃p ys,xs=[.ref p]/\(SqL X.K H p ys\/SqT X.K H p ys)/\∀l,H l=none ->Q (.ref l) (upd H l (.lst ys))):=by
 intro pins s σ H xs us Q I r h
 obtain⟨p,ys,rfl,hq,q⟩:=h
 obtain⟨u,rfl,rx⟩:=B0z r
 cases rx
 have fin:∀(its:List Value),G7 ys its ->ys.length<=sizeLine ->∀(h':Heap) (c':Nat),(∀b o',s.heap.get? b=some o' ->h'.get? b=some o') ->
     h'.get? s.heap.objs.size=some {cls:= .type "list",dict:=none,data:= .seq its.toArray c',slots:= #[]} ->EP X pins σ Q (.ref s.heap.objs.size) {s with heap:=h'}:=fun its r' hz h' c' kp e=>
   ⟨.ref s.heap.objs.size,_,I.laid (t':=s.toks) kp (Nat.le_refl _) (show Y7 X.prog X.w _ h' _ (.lst ys) from⟨hz,its,c',r',e⟩),rfl,q _ (I.hok.fresh (Nat.le_refl _))⟩
 rcases hq with hq|hq
 . obtain⟨its,r',pl,hz⟩:=I.list hq
   have hlen:=r'.length
   obtain⟨o,ho,hc,n,hd⟩:=pl.isList
   exact call_list_seq p (.inl rfl) ho hc hd (fun h' c' kp e=>fin its r' hz h' c' kp e) (by simp only[List.size_toArray]<;>omega)
 obtain⟨its,r',pl,hz⟩:=I.tuple hq
 have hlen:=r'.length
 obtain⟨o,ho,hc,n,hd⟩:=pl
 exact call_list_seq p (.inr rfl) ho hc hd (fun h' c' kp e=>fin its r' hz h' c' kp e) (by simp only[List.size_toArray]<;>omega)
noncomputable def tyV (K:PySem.W.Frag) (T:String) (x:V) (H:Hp):Prop:=match x with
 | .str _=>T="str"
 | .int _=>T="int"
 | .ref p=>(T="list"/\∃xs,SqL K H p xs)\/(T="tuple"/\∃o,K.lookup p=some o/\o.cls= .type "tuple"/\o.dict=none)\/
     (T="dict"/\((∃kvs,H p=some (.dK kvs))\/∃kvs,H p=some (.dT kvs)))\/(T="set"/\∃S n,H p=some (.set S n))
 |_=>False
theorem C6x{pins:List (Addr×Obj)}{σ:St}{H:Hp}{s:Shared}{T:String}{x:V}{v:Value}(I:Inv X pins σ H s)(r:V0 x v)(ty:tyV X.K T x H):
   s.TypeIs v T/\∀a,v= .ref a ->∃ob,s.heap.get? a=some ob/\ob.dict=none:=by
 cases x with
 | str z=>
   obtain⟨t,rfl⟩:=r
   cases(show T="str" from ty)
   exact⟨typeIs_str s z t,fun _ e=>nomatch e⟩
 | int i=>
   obtain⟨t,rfl⟩:=r
   cases(show T="int" from ty)
   exact⟨typeIs_int s i t,fun _ e=>nomatch e⟩
 | ref p =>
   cases r
   rcases ty with⟨rfl,xs,hq⟩|⟨rfl,o,hk,hc,hd⟩|⟨rfl,hk⟩|⟨rfl,S,n,hk⟩
   . obtain⟨its,_,pl,_⟩:=I.list hq
     refine⟨pl.isList.typeIs,fun a e=>?_⟩
     cases e
     obtain⟨o,n,e,c,hd,_⟩:=pl
     exact⟨o,e,hd⟩
   . refine⟨⟨o,I.kIn p o hk,hc⟩,fun a e=>?_⟩
     cases e
     exact⟨o,I.kIn _ o hk,hd⟩
   . have z:∃o,s.heap.get? p=some o/\o.ExactDict:=by
       rcases hk with⟨kvs,hk⟩|⟨kvs,hk⟩
       . obtain⟨_,_,_,_,o,_,_,e,ex,_⟩:=I.hok p _ hk
         exact⟨o,e,ex⟩
       . obtain⟨_,_,_,_,o,_,_,e,ex,_⟩:=I.hok p _ hk
         exact⟨o,e,ex⟩
     obtain⟨o,e,ex⟩:=z
     refine⟨⟨o,e,ex.1⟩,fun a e2=>?_⟩
     cases e2
     exact⟨o,e,ex.2.1⟩
   . obtain⟨o,_,_,_,e,ex,_⟩:=I.hok p _ hk
     refine⟨⟨o,e,ex.1⟩,fun a e2=>?_⟩
     cases e2
     exact⟨o,e,ex.2.1⟩
 |_=>exact False.elim ty
noncomputable def G9g (K:PySem.W.Frag) (T:String) (r:V ->List V ->Hp ->VK ->Prop) (to:TE):TE:=fun σ H Q=>to σ H fun x H1=>tyV K T x H1/\r x [] H1 Q
noncomputable def tBM (K:PySem.W.Frag) (T:String) (r:V ->List V ->Hp ->VK ->Prop) (to:TE) (t:TA):TE:=fun σ H Q=>to σ H fun x H1=>tyV K T x H1/\t σ H1 fun xs H2=>r x xs H2 Q
variable{o e:Expr}{es:List Expr}{to:TE}{t:TA}{name:Str}{apos cpos:Pos}{T id:String}{r:V ->List V ->Hp ->VK ->Prop}
theorem C0k(pa:PlainAttrs T)(slot:Slot T name id)(hty:typeOf (.builtin id)=pure (.type "method_descriptor"))(hm:MtR X id r)(ho:PE X o to)
   (hbase:attributeBase o name X.env (eval o X.env)=eval o X.env:=by rfl) (hline:(apos.endLine==cpos.line)=true:=by rfl):PE X (.Call (.Attribute o name apos) [] [] cpos) (G9g X.K T r to):=by
 intro pins s σ H Q I h
 refine wpAny_Call_method0_late hbase hline (thn (ho pins s σ H _ I h) fun v s1 hh_=>?_)
 obtain⟨x,H1,I1,r1,ty,q1⟩:=hh_
 obtain⟨h1,h2⟩:=C6x I1 r1 ty
 exact⟨T,id,pa,slot,hty,h1,h2,Calls.callWith_builtin rfl (PySem.evalArgs_none (hm pins s1 σ H1 x [] v [] Q I1 r1 .nil q1))⟩
theorem G4w(pa:PlainAttrs T)(slot:Slot T name id)(hty:typeOf (.builtin id)=pure (.type "method_descriptor"))(hm:MtR X id r)(ho:PE X o to)(ha:PA X (e::es) t)
   (hbase:attributeBase o name X.env (eval o X.env)=eval o X.env:=by rfl)
   (hfew:((backTo cpos (starEach (e::es) X.env)).all (fun x=> !x.1)&&(backToKw cpos (keywordEach [] X.env)).all (fun x=>x.1.isSome)
     &&decide ((e::es).length+([]:List Keyword).length+(if([]:List Keyword).isEmpty then 0 else 1)<30))=true:=by rfl)
   (hline:(apos.endLine==cpos.line)=true:=by rfl) (hs:starEach (e::es) X.env=(false,eval e X.env)::starEach es X.env:=by rfl) (hplain:(backTo cpos (starEach es X.env)).any (·.1)=false:=by rfl):
   PE X (.Call (.Attribute o name apos) (e::es) [] cpos) (tBM X.K T r to t):=by
 intro pins s σ H Q I h
 refine wpAny_Call_method_late hbase hfew hline rfl (thn (ho pins s σ H _ I h) fun v s1 hh_=>?_)
 obtain⟨x,H1,I1,r1,ty,q1⟩:=hh_
 obtain⟨h1,h2⟩:=C6x I1 r1 ty
 refine⟨T,id,pa,slot,hty,h1,h2,?_⟩
 have hA:=ha cpos pins s1 σ H1 _ I1 q1
 rw[hs] at hA ⊢
 refine Calls.callWith_builtin (by show(false||(backTo cpos (starEach es X.env)).any (·.1))=false;rw[hplain]<;>rfl) (Calls.evalArgs_plain ?_)
 exact thn hA fun us s2 ⟨vs,H2,I2,r2,q2⟩=>hm pins s2 σ H2 x vs v us Q I2 r1 r2 q2
end
noncomputable def MtM (X:Cx) (id:String) (r:V ->List V ->Hp ->VK ->Prop):Prop:=
 ∀ (pins:List (Addr×Obj)) (s:Shared) (σ:St) (H:Hp) (x:V) (xs:List V) (v:Value) (us:List Value) (Q:VK),Inv X pins σ H s ->V0 x v ->G7 xs us ->r x xs H Q ->
   wpAny (model X.prog X.w) X.A (call (.builtin id) (v::us)) (EP X pins σ Q) X.xe s
theorem G7.one{x:V}{us:List Value}(h:G7 [x] us):∃u,us=[u]/\V0 x u:=by
 cases h with
 |cons r t=>cases t;exact⟨_,rfl,r⟩
theorem G7.two{x y:V}{us:List Value}(h:G7 [x,y] us):∃u v,us=[u,v]/\V0 x u/\V0 y v:=by
 cases h with
 | cons r t=>
   cases t with
   |cons q z=>cases z;exact⟨_,_,rfl,r,q⟩
theorem G7.zero:∀{us:List Value},G7 [] us ->us=[]
 |_,.nil=>rfl
theorem G7.rep{xs:List V}{us:List Value}(h:G7 xs us):∀k:Nat,G7 (List.replicate k xs).flatten (List.replicate k us).flatten
 |0=> .nil
 | k+1=>by
   rw[List.replicate_succ,List.replicate_succ,List.flatten_cons,List.flatten_cons]
   exact G7.append h (G7.rep h k)
theorem B3u(its:List Value):∀(k:Nat) (acc:List Value),
   List.foldl (fun x1 x2=>x1++x2) acc.toArray (List.replicate k its.toArray)=(acc++(List.replicate k its).flatten).toArray
 |0,acc=>by simp
 | k +1,acc=>by
   have e:acc.toArray++its.toArray=(acc++its).toArray:=by simp
   have e2:(acc++its)++(List.replicate k its).flatten=acc++(List.replicate (k+1) its).flatten:=by
     rw[List.replicate_succ,List.flatten_cons,List.append_assoc]
   rw[<-e2, <-B3u its k (acc++its), <-e,List.replicate_succ,List.foldl_cons]
section
variable{X:Cx}{pins:List (Addr×Obj)}{σ:St}{H:Hp}{s:Shared}{l b:Addr}{xs ys zs:List V}
theorem Inv.lset{its its':List Value}{n:Nat}{f:Array Value ->Array Value}{t':Nat}(I:Inv X pins σ H s)(hH:H l=some (.lst xs))
   (e:s.heap.get? l=some {cls:= .type "list",data:= .seq its.toArray n}) (hf:f its.toArray=its'.toArray) (hv:G7 ys its') (hz:ys.length<=sizeLine):
   Inv X pins σ (upd H l (.lst ys)) {s with heap:=s.heap.update l (Obj.mapSeq f),toks:=t'}:=by
 have q:=PySem.IsL.update e f
 rw[hf] at q
 refine I.write (x:=l) (e:=l) (by rw[hH];exact trivial) (.inl rfl) (fun b' u hb hu=>(Heap.get?_update_other s.heap (Obj.mapSeq f) (Ne.symm hb)).trans hu) ⟨_,q⟩ ?_
 exact⟨hz,its',_,hv,q⟩
theorem Inv.lnew{its:List Value}{t':Nat}(I:Inv X pins σ H s)(hv:G7 ys its)(hz:ys.length<=sizeLine):
   Inv X pins σ (upd H s.heap.objs.size (.lst ys)) {s with heap:=s.heap.push {cls:= .type "list",data:= .seq its.toArray},toks:=t'}:=
 I.laid (fun _ _ q=>Heap.get?_push_of_some _ q) (Nat.le_refl _) ⟨hz,its,0,hv,Heap.get?_push_size _ rfl⟩
theorem Inv.fresh(I:Inv X pins σ H s):H s.heap.objs.size=none:=I.hok.fresh (Nat.le_refl _)
theorem Inv.lstM(I:Inv X pins σ H s)(hH:H l=some (.lst xs)):xs.length<=sizeLine/\∃(its:List Value) (n:Nat),G7 xs its/\xs.length=its.length/\s.heap.get? l=some {cls:= .type "list",data:= .seq its.toArray n}:=by
 obtain⟨z,its,n,r,e⟩:=I.hok l _ hH
 exact⟨z,its,n,r,r.length,e⟩
theorem C7q{n:Nat}(h:n<=sizeLine):Builtin.List.listTooLong n=false:=by
 unfold Builtin.List.listTooLong
 exact decide_eq_false (by omega)
end
section
variable{X:Cx}
noncomputable def D7v:V ->List V ->Hp ->VK ->Prop:=fun x vs H Q=>∃l xs y,x= .ref l/\vs=[y]/\H l=some (.lst xs)/\xs.length<sizeLine/\Q .non (upd H l (.lst (xs++ [y])))
theorem A3a:MtM X "list.append" D7v:=by
 intro pins s σ H x vs v us Q I rx rv h
 obtain⟨l,xs,y,rfl,rfl,hH,hz,q⟩:=h
 cases rx
 obtain⟨u,rfl,ru⟩:=rv.one
 obtain⟨z,its,n,r,hl,e⟩:=I.lstM hH
 refine call_meets F.slot_list_append ⟨_,e,rfl⟩ F.entry_list_append (F.args_list_append_2 _ _) (PySem.list_append l its.toArray n u (by rw[List.size_toArray];omega)) ⟨e,?_⟩
 refine⟨.non,_,I.lset (its':=its++ [u]) hH e (by simp) (r.append (.cons ru .nil)) ?_,rfl,q⟩
 rw[List.length_append,List.length_singleton]
 omega
noncomputable def G8w:R2:=fun x y H Q=>∃l b xs zs,x= .ref l/\y= .ref b/\H l=some (.lst xs)/\H b=some (.lst zs)/\xs.length+zs.length<=sizeLine/\∀p,H p=none ->Q (.ref p) (upd H p (.lst (xs++zs)))
theorem B1g:OpR X (binaryOp .Add) G8w:=by
 intro pins s σ H x y v u Q I rx ry h
 obtain⟨l,b,xs,zs,rfl,rfl,hH,hB,hz,q⟩:=h
 cases rx
 cases ry
 obtain⟨z,its,n,r,hl,e⟩:=I.lstM hH
 obtain⟨z2,its2,n2,r2,hl2,e2⟩:=I.lstM hB
 refine PySem.P.add_list e e2 ?_ (by rw[List.size_toArray,List.size_toArray];omega)
 have ea:its.toArray++its2.toArray=(its++its2).toArray:=by simp
 rw[ea]
 exact⟨.ref _,_,I.lnew (t':=s.toks) (r.append r2) (by rw[List.length_append];omega),rfl,q _ I.fresh⟩
noncomputable def J0e:R2:=fun x y H Q=>∃l k xs,x= .ref l/\y= .int k/\H l=some (.lst xs)/\ -(2^63)<=k/\k<2^63/\xs.length*k.toNat<=sizeLine/\
 ∀p,H p=none ->Q (.ref p) (upd H p (.lst (List.replicate k.toNat xs).flatten))
theorem C1s{α:Type}(xs:List α)(k:Nat):(List.replicate k xs).flatten.length=k*xs.length:=by
 induction k with
 |zero=>simp
 |succ k ih=>rw[List.replicate_succ,List.flatten_cons,List.length_append,ih,Nat.succ_mul,Nat.add_comm]
theorem B9y:OpR X (binaryOp .Mult) J0e:=by
 intro pins s σ H x y v u Q I rx ry h
 obtain⟨l,k,xs,rfl,rfl,hH,h1,h2,hz,q⟩:=h
 cases rx
 obtain⟨t,rfl⟩:=ry
 obtain⟨z,its,n,r,hl,e⟩:=I.lstM hH
 have hlen:its.toArray.size*k.toNat<=sizeLine:=by rw[List.size_toArray, <-hl];exact hz
 have hcap:¬its.toArray.size*k.toNat>(2^63-1)/8:=by
   have:(sizeLine:Nat)<=(2^63-1)/8:=by decide
   omega
 have hfit:¬(!Builtin.List.listFitsIndex k)=true:=by
   rw[fitsIndex_both h1 h2]
   exact Bool.false_ne_true
 have hlong:¬Builtin.List.listTooLong (its.toArray.size*k.toNat)=true:=by
   rw[C7q hlen]
   exact Bool.false_ne_true
 have hnew:List.foldl (fun x1 x2=>x1++x2) #[] (List.replicate (if its.toArray.isEmpty=true then 0 else k.toNat) its.toArray)=(List.replicate k.toNat its).flatten.toArray:=by
   have f0:∀m:Nat,List.foldl (fun x1 x2=>x1++x2) #[] (List.replicate m its.toArray)=(List.replicate m its).flatten.toArray:=fun m=>by
     have:=B3u its m []
     rw[List.nil_append] at this
     exact this
   rw[f0]
   cases its with
   |nil=>simp
   |cons a r'=>rw[if_neg (by simp)]
 refine wpAny_binaryOp_repeat_ref (T:="list") (U:="int") (by decide) ⟨_,e,rfl⟩ (fun s'=>typeIs_int s' k t) noFill_list_mul F.fills_int_mul F.slot_int_rmul repeat_list F.slot_int_index.lookup
   (call_meets F.slot_int_rmul (typeIs_int s k t) F.entry_int_rmul (F.args_int_rmul_2 _ _) (int___rmul___int_list k t l its.toArray n)
     ⟨e,rfl,⟨_,e,rfl⟩,call_meets F.slot_list_mul ⟨_,e,rfl⟩ F.entry_list_mul (F.args_list_mul_2 _ _) (AutoListH.list___mul___list_int_3 l its.toArray n k t hfit hcap hlong) ⟨e,?_⟩⟩)
 rw[hnew]
 exact⟨.ref _,_,I.lnew (t':=s.toks) (r.rep k.toNat) (by rw[C1s,Nat.mul_comm];exact hz),rfl,q _ I.fresh⟩
end
section
variable{prog:Program}{w:World}{A:Around}{E:Value ->Shared ->Prop}{s:Shared}
end
section
variable{X:Cx}
end
end L2
namespace Att
open PySem PySem.W PySem.Calls PyProof.Rows
theorem A8z{P:Params}{h:Heap}:∀(ns:List Int) (vs:List Value),WellAll P h vs (ns.map WData.int) ->IntsAre vs ns:=by
 intro ns
 induction ns with
 | nil=>
   intro vs w
   rw[List.map_nil] at w
   cases w
   exact .nil
 | cons n ns ih=>
   intro vs w
   rw[List.map_cons] at w
   cases w with
   | cons a b=>
     cases a
     exact .cons _ _ (ih _ b)
theorem C5b{l:OpenLaw}{n:Nat}(hn:l.most=some n){P:Params}{h:Heap}{args:List WData}{vals:List Value}
   (hpre:l.row.toRowW.claim.pre args=true) (hwl:WellAll P h vals args):
   ∃a vs ns,vals=[Value.ref a]/\args=[WData.list (ns.map WData.int)]/\h.get? a=some {cls:= .type "list",data:= .seq vs.toArray}/\IntsAre vs ns/\ns.length<=n:=by
 have hsh:WShape.hasAll [] args [.list .int]=true:=(pre_splitW hpre).1
 have hc:l.pre.holds [] {args:=args}=true:=(pre_splitW hpre).2
 obtain⟨d,r,rfl,h1,h2⟩:=hasAllW_cons hsh
 obtain rfl:=hasAllW_nil h2
 obtain⟨xs,rfl,h3⟩:=hasW_list h1
 obtain⟨ns,rfl⟩:=items_int h3
 have hlen:ns.length<=n:=by
   unfold OpenLaw.pre at hc
   have h4:(WTm.not (.lt (.lit (.int (n:Int))) (.len (.arg 0)))).holds [] {args:=[.list (ns.map .int)]}=true:=by
     have h4:=(holds_andW hc).1
     rw[hn] at h4
     exact h4
   have h5:=condW_of h4 (w_not (w_lt w_lit (w_len_list (w_arg rfl))))
   rw[List.length_map] at h5
   refine Nat.le_of_not_lt fun q=>?_
   have q':(n:Int)<((ns.length:Nat):Int):=by omega
   first
     |(rw[decide_eq_true q'] at h5;exact absurd h5 (by decide))
     |(simp at h5;omega)
 cases hwl with
 | cons w1 w2=>
   cases w2
   cases w1 with
   |list ho hall=>exact⟨_,_,ns,rfl,rfl,ho,A8z ns _ hall,hlen⟩
theorem C4c(l:OpenLaw)(args:List WData):l.row.toRowW.claim.post args (.bool true) args=true:=
 postW_of (r:=l.row.toRowW) (X:=(true==true))
   (show WShape.has [] (.bool true) .bool=true by first|rfl|decide|simp[WShape.has,WShape.arms,WShape.armsAll])
   (show(WTm.eq .res (.lit (.bool true))).value [] {args:=args,res:=some (.bool true),after:=args}=some (.bool (true==true)) from w_eq_bool (w_res rfl) w_lit) rfl
theorem attach_call{l:OpenLaw}{n:Nat}{q:Program}{loose:List Str}{XP:(Str ->Option Value) ->Heap ->Prop}{YP:World ->Heap ->Prop}{d:DefRec}
   (hn:l.most=some n) (hdf:d.params.defaults=[])
   (call:∀(w:World) (s₀ s₁:Shared) (mg mb:Str ->Option Value) (fa:Addr) (o:Obj) (pm cd doc:Value) (a:Addr) (vs:List Value) (ns:List Int),
     Ground q loose [] XP w s₀ mg mb s₁.heap ->YP w s₁.heap ->
     s₁.heap.get? fa=some o ->o.data= .func (docDef d.name d.params d.body d.scope pm cd doc) ->s₁.heap.CodeRec cd d.name ->mg d.name=some (.ref fa) ->
     s₁.heap.get? a=some {cls:= .type "list",data:= .seq vs.toArray} ->IntsAre vs ns ->ns.length<=n ->s₁.gens= #[] ->
     codeAny (model l.prog w) callerA (.call (.ref fa) ⟨[.ref a],[]⟩) (fun r s'=>r= .ok (.ret (.bool true))/\OldK s₁.heap s'.heap/\s'.os=s₁.os/\AllBare s'.gens) s₁):
   WalkO q loose XP YP l.row.toRowW d [] (fun f vs=>PySem.call f vs):=by
 intro w s₀ s₁ mg mb G Y fa o pm cd doc dV kV ho hd hcd hD hmg hg args vals as hpre hlay hrd hwl hlo
 obtain rfl:dV= .none:=Dflts.none hD hdf
 obtain rfl:kV= .none:=Dflts.noKw hD
 obtain⟨a,vs,ns,rfl,rfl,hobj,hints,hlen⟩:=C5b hn hpre hwl
 refine enter_call (codeAny_mono (call w s₀ s₁ mg mb fa o pm cd doc a vs ns G Y ho (fd_plain hd) hcd hmg hobj hints hlen hg) fun r s' hq=>?_)
 obtain⟨rfl,h2,h3,h4⟩:=hq
 exact⟨.inl ⟨.bool true,.bool true,[],rfl,fun _=>rfl,.bool true,C4c l _,fun _=>⟨List.Pairwise.nil,fun _ hm=>(nomatch hm)⟩⟩,h2,h3,h4⟩
section
variable{prog:Program}{w:World}{A:Around}{E:Value ->Shared ->Prop}{s:Shared}{K:Frag}
end
end Att
namespace L2
open PySem PySem.Spec PyProof.Rows
theorem B3q:∀{vs:List Value} {ns:List Int},IntsAre vs ns ->G7 (ns.map V.int) vs
 |_,_,.nil=> .nil
 |_,_,.cons n t h=> .cons ⟨t,rfl⟩ (B3q h)
noncomputable def G0r (H:Hp):Prop:=∀b,H b=none\/∃o xs,H b=some (.frz o (.lst xs))
theorem C6a{P:Program}{w:World}{K:PySem.W.Frag}{mg mb:Str ->Option Value}{CX:CXT}{k:Nat}{fa a:Addr}{fd:FuncData}{x:Str}{sp:Sp}{s₁:Shared}{vs:List Value}{ns:List Int}
   (KX:K.In s₁.heap) (hns:s₁.heap.Ns mainGlobals mg) (hb:s₁.heap.Ns builtinsNs mb) (hbb:∀x:Str,x≠"__name__" ->mb x=bootBuiltins x) (hlim:s₁.heap.NoLimit) (hg:s₁.gens= #[])
   (ha:s₁.heap.get? a=some {cls:= .type "list",data:= .seq vs.toArray}) (hi:IntsAre vs ns) (hl:ns.length<=sizeLine) (hr:A0h k callerA)
   (F:∀base:Heap,K.In base ->base.Ns mainGlobals mg ->G8 P w K mg base CX k fa fd [x] sp) (hbind:∀(s:Shared) (u:Value),BindsTo s fd ⟨[u],[]⟩ [(x,u)])
   (hsp:∀H:Hp,G0r H ->SqL K H a (ns.map V.int) ->sp [.ref a] H (fun v _=>v= .bl true) fun _ _ _=>False)
   (hCX:∀H e s',CX [] H s₁ (fun _ _ _=>False) e s' ->False):
   codeAny (model P w) callerA (.call (.ref fa) ⟨[.ref a],[]⟩) (fun r s'=>r= .ok (.ret (.bool true))/\OldK s₁.heap s'.heap/\s'.os=s₁.os/\AllBare s'.gens) s₁:=by
 have rv:=B3q hi
 have lenV:=hi.length
 have core :∀H:Hp,G0r H ->SqL K H a (ns.map V.int) ->HOk P w H s₁.heap ->(∀b,H b≠none ->b=a) ->(H a≠none ->K.lookup a=none) ->
     codeAny (model P w) callerA (.call (.ref fa) ⟨[.ref a],[]⟩) (fun r s'=>r= .ok (.ret (.bool true))/\OldK s₁.heap s'.heap/\s'.os=s₁.os/\AllBare s'.gens) s₁:=by
   intro H hO hS hok hA hK
   have base_of:∀{b:Addr} {o:Obj},s₁.heap.get? b=some o ->H b=none ->(B4j s₁.heap H).get? b=some o:=fun e n=>C7t e n
   have noA:∀{b:Addr} {o:Obj} {es:Array DictEntry} {ep:Nat},s₁.heap.get? b=some o ->o.data= .dict es ep ->H b=none:=fun{b o es ep} e d=>by
     cases q:H b with
     |none=>rfl
     | some u=>
       have e':b=a:=hA b (by rw[q];simp)
       subst e'
       rw[ha] at e;cases e
       have d':Data.seq vs.toArray _=Data.dict es ep:=d
       cases d'
   have nsK:∀{b:Addr} {m:Str ->Option Value},s₁.heap.Ns b m ->(B4j s₁.heap H).Ns b m:=fun{b m} ⟨o,es,ep,e,d,r⟩=>⟨o,es,ep,base_of e (noA e d),d,r⟩
   have hKb:K.In (B4j s₁.heap H):=fun b o e=>base_of (KX b o e) (by
     cases q:H b with
     |none=>rfl
     | some u=>
       have e':b=a:=hA b (by rw[q];simp)
       subst e'
       rw[hK (by rw[q];simp)] at e;cases e)
   have hM:Mod K mg (B4j s₁.heap H):=⟨hKb,nsK hns,⟨mb,nsK hb,hbb⟩,let⟨mc,h1,h2⟩:=hlim;⟨mc,nsK h1,h2⟩⟩
   have e0:A9b P w K mg (B4j s₁.heap H) callerA [] s₁ H:=⟨rfl,hM,fun b o e=>D8d e,Nat.le_of_eq (C4d _ _),trivial,fun b hb=>absurd (show b∈([]:List Addr) from hb) (by simp),hok,.of_eq hg⟩
   refine codeAny_mono ((F _ hKb (nsK hns)).run callerA [] s₁ H ⟨[.ref a],[]⟩ [.ref a] [.ref a] _ _ hr e0 (hbind s₁ (.ref a)) (.cons rfl .nil) (hsp H hO hS)) fun r s' h=>?_
   cases r with
   |error e=>exact(hCX H e s' h).elim
   | ok fl =>
     cases fl with
     |next=>exact False.elim h
     |brk=>exact False.elim h
     |cont=>exact False.elim h
     | ret u=>
       obtain⟨v,H',os,bare,un,hok',r',q⟩:=h
       have q':v= .bl true:=q
       subst q'
       obtain rfl:u=Value.bool true:=r'
       refine⟨rfl,OldK.of_keep fun b o e=>?_,os,bare⟩
       cases q:H b with
       |none=>exact un.keep b o e q (by intro z;exact absurd (show b∈([]:List Addr) from z) (by simp)) (by simp)
       | some u=>
         rcases hO b with z|⟨ob,xs,z⟩
         . rw[q] at z;cases z
         . have z2:=un.frzs b ob _ z
           obtain⟨e1,_⟩:=hok b _ z
           obtain⟨e2,_⟩:=hok' b _ z2
           rw[e] at e1;cases e1
           exact e2
 cases hk:K.lookup a with
 | some o=>
   have e:=KX a o hk
   rw[ha] at e
   cases e
   refine core (fun _=>none) (fun _=> .inl rfl) (.inr ⟨_,vs.toArray,_,hk,rfl,rfl,rfl,by rw[List.size_toArray,lenV];exact hl,by simpa using rv⟩) (fun b u z=>by have z':(none:Option HO)=some u:=z;cases z') (fun b z=>absurd rfl z) fun z=>absurd rfl z
 | none=>
   refine core (fun b=>if b=a then some (.frz {cls:= .type "list",data:= .seq vs.toArray} (.lst (ns.map V.int))) else none) (fun b=>?_) (.inl (.inr ⟨{cls:= .type "list",data:= .seq vs.toArray},if_pos rfl⟩)) (fun b u z=>?_) (fun b z=>?_) fun _=>hk
   . by_cases hb:b=a
     . exact .inr ⟨_,_,if_pos hb⟩
     . exact .inl (if_neg hb)
   . by_cases hb:b=a
     . have z':=(if_pos hb).symm.trans z
       cases z'
       subst hb
       exact⟨ha,by rw[List.length_map];exact hl,vs,_,rv,ha⟩
     . have z':=(if_neg hb).symm.trans z
       cases z'
   . by_cases hb:b=a
     . exact hb
     . exact absurd (if_neg hb) z
theorem walk_of{l:PySem.W.OpenLaw}{n k:Nat}{q:Program}{loose:List Str}{XP:(Str ->Option Value) ->Heap ->Prop}{YP:World ->Heap ->Prop}{d:DefRec}{K:Params ->PySem.W.Frag}{CX:World ->CXT}{sp:World ->Sp}{x:Str}
   (hn:l.most=some n) (hn2:n<=sizeLine) (hdf:d.params.defaults=[]) (hr:A0h k callerA)
   (hY:∀(w:World) (h:Heap),YP w h ->(K w.params).In h)
   (F:∀(w:World) (mg:Str ->Option Value) (fa:Addr) (h:Heap),(K w.params).In h ->h.Ns mainGlobals mg ->mg d.name=some (.ref fa) ->
     ∃ fd:FuncData,(∀(s:Shared) (u:Value),BindsTo s fd ⟨[u],[]⟩ [(x,u)])/\
       ∀base:Heap,(K w.params).In base ->base.Ns mainGlobals mg ->G8 l.prog w (K w.params) mg base (CX w) k fa fd [x] (sp w))
   (hsp:∀(w:World) (H:Hp) (a:Addr) (ns:List Int),ns.length<=n ->G0r H ->SqL (K w.params) H a (ns.map V.int) ->sp w [.ref a] H (fun v _=>v= .bl true) fun _ _ _=>False)
   (hCX:∀(w:World) (H:Hp) (s:Shared) (e:Value) (s':Shared),CX w [] H s (fun _ _ _=>False) e s' ->False):
   PySem.W.WalkO q loose XP YP l.row.toRowW d [] (fun f vs=>PySem.call f vs):=by
 refine Att.attach_call hn hdf fun w s₀ s₁ mg mb fa o pm cd doc a vs ns G Y ho hd hcd hmg hobj hints hlen hg=>?_
 have KX:=hY w _ Y
 obtain⟨fd,hb,hF⟩:=F w mg fa _ KX G.T.g hmg
 exact C6a KX G.T.g G.T.b G.T.builtins G.T.nolimit hg hobj hints (Nat.le_trans hlen hn2) hr hF hb (fun H hO hS=>hsp w H a ns hlen hO hS) fun H e s'=>hCX w H s₁ e s'
noncomputable def J1 (s:Stmt) (j:Nat):Stmt:=match s with
 | .ClassDef _ _ _ body _ _ _ _ _ _ _=>body.getD j (.Pass ⟨0,0,0,0⟩)
 |_=> .Pass ⟨0,0,0,0⟩
noncomputable def U3 (s:Stmt):Arguments:=match s with
 | .FunctionDef _ a _ _ _ _ _ _ _ _=>a
 |_=>{posonlyargs:=[],args:=[],vararg:=none,kwonlyargs:=[],kw_defaults:=[],kwarg:=none,defaults:=[]}
noncomputable def J9 (s:Stmt):List Stmt:=match s with
 | .FunctionDef _ _ b _ _ _ _ _ _ _=>b
 |_=>[]
noncomputable def A5 (s:Stmt):Scope:=match s with
 | .FunctionDef _ _ _ _ _ _ sc _ _ _=>sc
 |_=>{kind:= .function,names:=[],isGenerator:=false,isCoroutine:=false}
noncomputable abbrev CX0:CXT:=fun _ _ _ _ _ _=>False
noncomputable abbrev E0:XK:=fun _ _ _=>False
structure Fun(K:PySem.W.Frag)(x qual:Str)(st:Stmt)(f:Addr)(fd:FuncData):Prop where
 ex:∃(oc:Value) (od:Option Addr) (kV doc pm:Value) (an:Option Addr) (cdv ct:Value) (osl:Array (Option Value)),
   fd=PySem.W.fnOf x qual (U3 st) (J9 st) (A5 st) .none kV doc pm an cdv ct/\K.lookup f=some ⟨oc,od,.func fd,osl⟩/\PySem.W.codeIn K cdv qual=true
 kp:PySem.W.keepIn K (.ref f)=true
section
variable{P:Program}{w:World}{K:PySem.W.Frag}{mg:Str ->Option Value}{base:Heap}
theorem Fun.ok{x qual:Str}{st:Stmt}{f:Addr}{fd:FuncData}{N ps:List Str}{k:Nat}{sp:Sp}(F:Fun K x qual st f fd)(S:B8 N ps (A5 st))(len:∀vs H Q E,sp vs H Q E ->vs.length=ps.length)
   (hbody:∀(cdv:Value) (A:Around) (outer:List Env) (s:Shared) (H:Hp) (vs:List V) (Q:VK) (E:XK),A0h k (A.deeper (envOfC qual (A5 st) s.heap.objs.size f cdv)) ->sp vs H Q E ->
     ∃t,PSs (A2g CX0 P w K mg base N qual (A5 st) f cdv A outer s H E).nox (J9 st) t/\t {nx:=fun _ H'=>Q .non H',rt:=Q} (A1e N vs) H):G8 P w K mg base CX0 (k+1) f fd ps sp:=by
 obtain⟨oc,od,kV,doc,pm,an,cdv,ct,osl,rfl,lk,hcd⟩:=F.ex
 refine D9d lk hcd S len fun A outer s H vs Q E hr hsp=>?_
 obtain⟨t,h,q⟩:=hbody cdv A outer s H vs Q E hr hsp
 exact⟨t,h.nox,q⟩
theorem Fun.binds{x qual:Str}{st:Stmt}{f:Addr}{fd:FuncData}{ps:List Str}(F:Fun K x qual st f fd)
   (h:∀(kV doc pm:Value) (an:Option Addr) (cdv ct:Value) (us:List Value),us.length=ps.length ->bindArgs (PySem.W.fnOf x qual (U3 st) (J9 st) (A5 st) .none kV doc pm an cdv ct) ⟨us,[]⟩=pure (ps.zip us)):V4 K fd ps []:=by
 obtain⟨oc,od,kV,doc,pm,an,cdv,ct,osl,rfl,lk,hcd⟩:=F.ex
 exact .all (h kV doc pm an cdv ct)
theorem A2s{x qual:Str}{st:Stmt}{f:Addr}{oc:Value}{od an:Option Addr}{osl:Array (Option Value)}{kV doc pm cdv ct:Value}(l:K.lookup f=some ⟨oc,od,.func (PySem.W.fnOf x qual (U3 st) (J9 st) (A5 st) .none kV doc pm an cdv ct),osl⟩)
   (c:PySem.W.codeIn K cdv qual=true) (k:PySem.W.keepIn K (.ref f)=true):Fun K x qual st f (PySem.W.fnOf x qual (U3 st) (J9 st) (A5 st) .none kV doc pm an cdv ct):=⟨⟨oc,od,kV,doc,pm,an,cdv,ct,osl,rfl,l,c⟩,k⟩
end
theorem A0v{n:Nat}(h:n<=1000):n<sizeLine:=Nat.lt_of_le_of_lt h (by decide)
section
variable{X:Cx}
theorem pv(i:Nat){x:Str}{pos:Pos}(hN:X.N[i]?=some x:=by rfl)(hv:Vis X.env.scope x:=by first|exact Or.inl rfl|exact Or.inr (Or.inl rfl)|exact Or.inr (Or.inr rfl))(hd:(x==("__debug__":Str))=false:=by decide)
   (hcd:(x==("__classdict__":Str))=false:=by decide):PE X (.Name x pos) (G5q i):=G1w hN hv hd hcd
end
theorem V9{A B:Prop}(h:B):if false=true then A else B:=by
 rw[if_neg Bool.false_ne_true]
 exact h
theorem Z7{A B:Prop}(h:A):if true=true then A else B:=by
 rw[if_pos rfl]
 exact h
theorem D9f{c A B:Prop} [Decidable c] (hc:c) (h:B):if(!decide c)=true then A else B:=by
 rw[decide_eq_true hc]
 exact V9 h
noncomputable def B7 (H H':Hp):Prop:=∀b o,H b=some o ->H' b=some o
theorem B7.refl(H:Hp):B7 H H:=fun _ _ h=>h
theorem B7.trans{H H1 H2:Hp}(a:B7 H H1)(b:B7 H1 H2):B7 H H2:=fun c o h=>b c o (a c o h)
theorem B7.free{H H':Hp}(e:B7 H H'){l:Addr}(h:H' l=Option.none):H l=Option.none:=by
 cases q:H l with
 |none=>rfl
 | some o=>
   rw[e l o q] at h
   cases h
theorem B7.seq{K:PySem.W.Frag}{H H':Hp}{a:Addr}{xs:List V}(e:B7 H H')(h:SqL K H a xs):SqL K H' a xs:=by
 rcases h with(h|⟨o,h⟩)|h
 . exact .inl (.inl (e _ _ h))
 . exact .inl (.inr ⟨o,e _ _ h⟩)
 exact .inr h
end L2
set_option maxHeartbeats 4000000
namespace L2
open PySem PySem.Spec PyProof.Rows
noncomputable abbrev Z4 (C:Value) (t:Addr) (dd:Option Addr) (tb:Value):Obj:=
 {cls:=C,dict:=dd,data:= .fields #[.ref t,tb,.none,.none,.bool false,.none]}
structure G7f(fs:List Addr)(h h':Heap)(a:Addr)(C:Value)(t:Addr)(dd:Option Addr)(T:Addr)(fl:Value):Prop where
 keep:∀b o,b ∉ fs ->b≠a ->h.get? b=some o ->h'.get? b=some o
 slot:∀b o,b≠a ->h.get? b=some o ->∃sl,h'.get? b=some {o with slots:=sl}
 new:h.get? T=none
 ne:T≠a
 exc:h'.get? a=some (Z4 C t dd (.ref T))
 tbk:∃oT ts,h'.get? T=some oT/\oT.data= .fields ts/\ts[3]?=some fl
section
variable{M:Model}{A:Around}{E:Value ->Shared ->Prop}{s:Shared}{base:Heap}{env:Env}{outer:List Env}{L a t:Addr}{C:Value}{dd:Option Addr}{tb:Value}{Q:Unit ->Shared ->Prop}
theorem D5j{oa:Obj}{vs:Array Value}{l:List Env}(hl:s.heap.FunFrames base l)(ha:s.heap.get? a=some oa)(hd:oa.data= .fields vs):a ∉ l.filterMap (·.frame):=by
 intro hm
 obtain⟨_,o,ho,hn⟩:=hl.mem hm
 rw[ha] at ho
 cases ho
 exact hn vs hd
theorem C2m{head:Value}{hn:Bool}(hfr:A.frames=some (env::outer))(hl:s.heap.FunFrames base (env::outer))(hf:env.frame=some L)
   (ha:s.heap.get? a=some (Z4 C t dd tb))
   (h:∀h' T,G7f ((env::outer).filterMap (·.frame)) s.heap h' a C t dd T (rawInt L) ->Q () {s with heap:=h'}):
   wpAny M A (do
     let x<-frameOf env
     let pl<-entryPlaceOf L hn
     let b<-EntryCells.newEntry head x .none (rawInt L) .none pl
     setField (.ref a) 1 b) Q E s:=by
 have na:=D5j hl ha rfl
 refine wpAny_bind (wpAny_frameOf_fun hfr hl hf fun g hg=>?_)
 refine wpAny_bind (wpAny_entryPlaceOf fun pl hpl=>?_)
 unfold EntryCells.newEntry newFields
 refine wpAny_bind (wpAny_newObj_type ?_ (hpl.sizeOk5 _ _ _ _ _))
 have a1:g.get? a=some (Z4 C t dd tb):=(hg.2.1 a na).trans ha
 have a2:=fun(z:Obj)=>Heap.get?_push_of_some (h:=g) z a1
 have nT:g.objs.size≠a:=Nat.ne_of_gt (Heap.lt_size a1)
 refine wpAny_setField (a2 _) rfl (by show 1<6;decide) (h _ g.objs.size ?_)
 have up:∀(z:Obj) (f:Obj ->Obj) b o,b≠a ->g.get? b=some o ->((g.push z).update a f).get? b=some o:=by
   intro z f b o hb e
   rw[Heap.get?_update_other _ _ (Ne.symm hb)]
   exact Heap.get?_push_of_some _ e
 refine⟨fun b o hb hba e=>up _ _ b o hba ((hg.2.1 b hb).trans e),fun b o hba e=>?_,?_,nT,?_,?_⟩
 . obtain⟨sl,e1⟩:=hg.2.2 b o e
   exact⟨sl,up _ _ b _ hba e1⟩
 . refine Heap.get?_none_of_le ?_
   rw[hg.1]
   exact Nat.le_refl _
 . exact Heap.get?_update_self _ (a2 _) rfl
 refine⟨_,_,(Heap.get?_update_other _ _ (Ne.symm nT)).trans (Heap.get?_push_size _ rfl),rfl,?_⟩
 first
   |(simp;done)
   |(rcases hpl with rfl|⟨_,_,_,_,_,_,_,rfl⟩<;>simp)
noncomputable def D9y (h:Heap) (a:Addr) (tb:Value):Prop:=tb= .none\/∃T oT ts,tb= .ref T/\T≠a/\h.get? T=some oT/\oT.data= .fields ts/\ts[3]?=some .none
theorem G1e(hfr:A.frames=some (env::outer))(hl:s.heap.FunFrames base (env::outer))(hf:env.frame=some L)
   (ha:s.heap.get? a=some (Z4 C t dd tb)) (ht:D9y s.heap a tb)
   (h:∀h' T,(∀b o,b ∉ (env::outer).filterMap (·.frame) ->b≠a ->tb≠ .ref b ->s.heap.get? b=some o ->h'.get? b=some o) ->
     (∀b o,b≠a ->tb≠ .ref b ->s.heap.get? b=some o ->∃sl,h'.get? b=some {o with slots:=sl}) ->s.heap.get? T=none ->T≠a ->
     h'.get? a=some (Z4 C t dd (.ref T)) ->(∃oT ts,h'.get? T=some oT/\oT.data= .fields ts/\ts[3]?=some (rawInt L)) ->Q () {s with heap:=h'}):
   wpAny M A (noteFrame (.ref a) env) Q E s:=by
 unfold noteFrame
 simp only[hf]
 refine wpAny_bind (wpAny_field ha rfl (x:=tb) rfl ?_)
 rcases ht with rfl|⟨T,oT,ts,rfl,nT,hT,dT,h3⟩
 . rw[if_neg (by decide)]
   refine C2m hfr hl hf ha fun h' T N=>?_
   exact h h' T (fun b o hb hba _ e=>N.keep b o hb hba e) (fun b o hba _ e=>N.slot b o hba e) N.new N.ne N.exc N.tbk
 rw[if_pos (show(Value.ref T !=Value.none)=true by simp)]
 refine wpAny_bind (wpAny_field hT dT h3 ?_)
 rw[if_neg (show¬((Value.none==rawInt L)=true) by simp[rawInt])]
 refine wpAny_bind (wpAny_setField hT dT (Array.getElem?_eq_some_iff.mp h3).1 ?_)
 have oth:∀(f:Obj ->Obj) b,b≠T ->(s.heap.update T f).get? b=s.heap.get? b:=fun f b hb=>Heap.get?_update_other _ _ (Ne.symm hb)
 have nrec:∀b o,s.heap.get? b=some o ->(∀vs,o.data≠ .fields vs) ->b≠T:=by
   intro b o e hn q
   rw[q,hT] at e
   cases e
   exact hn ts dT
 refine C2m (s:={s with heap:=_}) hfr (hl.of_keeps fun b o e hn=>⟨o,(oth _ b (nrec b o e hn)).trans e,rfl⟩) hf ((oth _ a (Ne.symm nT)).trans ha) fun h' T' N=>?_
 have neb:∀b,Value.ref T≠Value.ref b ->b≠T:=fun b q z=>q (by rw[z])
 refine h h' T' (fun b o hb hba hbT e=>N.keep b o hb hba ((oth _ b (neb b hbT)).trans e)) (fun b o hba hbT e=>N.slot b o hba ((oth _ b (neb b hbT)).trans e)) ?_ N.ne N.exc N.tbk
 have nw:=N.new
 by_cases q:T'=T
 . subst q
   have:=Heap.get?_update_self (Obj.mapFields (·.setIfInBounds 3 Value.none)) hT (Obj.isFreed_of_fields (Obj.data_mapFields dT _))
   rw[nw] at this
   cases this
 rw[oth _ T' q] at nw
 exact nw
theorem D9p{T:Addr}{oT:Obj}{ts:Array Value}{fl:Value}(ha:s.heap.get? a=some (Z4 C t dd (.ref T)))(nT:T≠a)(hT:s.heap.get? T=some oT)(dT:oT.data= .fields ts)(h3:ts[3]?=some fl)
   (h:∀h',(∀b o,b≠T ->s.heap.get? b=some o ->h'.get? b=some o) ->D9y h' a (.ref T) ->Q () {s with heap:=h'}):wpAny M A (setFlight (.ref a) none) Q E s:=by
 have sz:3<ts.size:=(Array.getElem?_eq_some_iff.mp h3).1
 unfold setFlight
 refine wpAny_bind (wpAny_field ha rfl (x:= .ref T) rfl ?_)
 rw[if_pos (show(Value.ref T !=Value.none)=true by simp)]
 refine wpAny_setField hT dT sz (h _ (fun b o hb e=>(Heap.get?_update_other _ _ (Ne.symm hb)).trans e) ?_)
 have d2:=Obj.data_mapFields dT (·.setIfInBounds 3 ((none:Option Addr).elim Value.none fun f=>rawInt f))
 exact .inr ⟨T,_,_,rfl,nT,Heap.get?_update_self _ hT (Obj.isFreed_of_fields d2),d2,by simp[sz]⟩
end
noncomputable def Hd (A:Around) (h:Heap):Prop:=A.handled=none\/∃x ox vs,A.handled=some (.ref x)/\h.get? x=some ox/\ox.data= .fields vs/\vs[2]?=some .none
theorem B2g : entryFor table "proto.unchain" = some Builtin.«proto.unchain» := entryFor_of_tree (by kernel_rfl)
section
variable{prog:Program}{w:World}{A:Around}{E:Value ->Shared ->Prop}{s:Shared}
theorem Hd.keeps{h h':Heap}(x:Hd A h)(k:∀b o,h.get? b=some o ->h'.get? b=some o):Hd A h':=by
 rcases x with z|⟨x,ox,vs,z,e,d,n⟩
 . exact .inl z
 exact .inr ⟨x,ox,vs,z,k x ox e,d,n⟩
theorem B7j{α:Type}{a:Addr}{oa:Obj}{ws:Array Value}{h₀:Heap}{Q:α ->Shared ->Prop}(hd:Hd A h₀)(k:∀b o,h₀.get? b=some o ->s.heap.get? b=some o)(na:h₀.get? a=none)
   (ha:s.heap.get? a=some oa) (da:oa.data= .fields ws) (h2:2<ws.size)
   (h:∀h',(∀b o,b≠a ->s.heap.get? b=some o ->h'.get? b=some o) ->(∃o',h'.get? a=some o'/\o'.cls=oa.cls) ->E (.ref a) {s with heap:=h'}):
   wpAny (model prog w) A (raiseNew (.ref a):Sem α) Q E s:=by
 unfold raiseNew
 refine wpAny_bind (wpAny_handled ?_)
 rcases hd with z|⟨x,ox,vs,z,e,d,n⟩
 . rw[z]
   exact wpAny_bind (wpAny_pure (wpAny_throw (h _ (fun b o _ e=>e) ⟨_,ha,rfl⟩)))
 rw[z]
 have nx:x≠a:=by
   intro q
   rw[q,na] at e
   cases e
 dsimp only
 rw[if_pos (show(Value.ref x !=Value.ref a)=true by simpa using nx)]
 refine wpAny_bind (wpAny_holding (wpAny_runValue (codeAny_builtin B2g ?_)))
 unfold Builtin.«proto.unchain»
 dsimp only
 refine wpAny_bind (wpAny_field (k x ox e) d n ?_)
 rw[if_pos (by decide)]
 refine wpAny_pure ?_
 dsimp only
 unfold updateField
 refine wpAny_bind (wpAny_bind (wpAny_load ha ?_))
 rw[da]
 dsimp only
 rw[if_pos h2]
 refine wpAny_update ha (wpAny_throw (h _ (fun b o hb e=>(Heap.get?_update_other _ _ (Ne.symm hb)).trans e) ⟨_,Heap.get?_update_self _ ha (Obj.isFreed_of_fields (Obj.data_mapFields da _)),Obj.cls_mapFields _ _⟩))
theorem C2s{α:Type}{Q:α ->Shared ->Prop}(hd:Hd A s.heap)
   (h:∀h' e,(∀b o,s.heap.get? b=some o ->h'.get? b=some o) ->({s with heap:=h'}:Shared).TypeIs (.ref e) "StopIteration" ->E (.ref e) {s with heap:=h'}):
   wpAny (model prog w) A (newExc (.type "StopIteration") []>>=fun e=>(raiseNew e:Sem α)) Q E s:=by
 refine wpAny_bind ?_
 simp only[newExc,newTuple]
 refine wpAny_bind (wpAny_newObj_type ?_ (by size_fits));refine wpAny_bind (m:=firstArgMember _ _) (wpAny_of_eq (a:=Value.none) (by first|rfl|(simp only[firstArgMember];rfl)) ?_)
 refine wpAny_newObj_type ?_ (by size_fits);dsimp only
 have k1:∀(z:Obj) b o,s.heap.get? b=some o ->(s.heap.push z).get? b=some o:=fun z b o e=>Heap.get?_push_of_some _ e
 have k2:∀(z y:Obj) b o,s.heap.get? b=some o ->((s.heap.push z).push y).get? b=some o:=fun z y b o e=>Heap.get?_push_of_some _ (Heap.get?_push_of_some _ e)
 have nw:∀(z:Obj),s.heap.get? (s.heap.push z).objs.size=none:=fun z=>Heap.get?_none_of_le (by rw[Heap.size_push];exact Nat.le_succ _)
 refine B7j (s:={s with heap:=_}) (h₀:=s.heap) hd (k2 _ _) (nw _) (Heap.get?_push_size _ rfl) rfl (by show 2<6;decide) fun h' k ⟨o',e',c'⟩=>h h' _ (fun b o e=>?_) ⟨o',e',c'⟩
 refine k b o ?_ (k2 _ _ b o e)
 intro q;rw[q,nw] at e;cases e
theorem A3f{it l:Addr}{i:Nat}{items:Array Value}{Q:Option Value ->Shared ->Prop}(hd:∀h':Heap,Heap.ExtBut it s.heap h' ->Hd A h')
   (hit:s.heap.IsListIter it l i) (hl:s.heap.IsList l items) (hx:items[i]?=none)
   (hQ:∀h',Heap.ExtBut it s.heap h' ->Q none {s with heap:=h'}):wpAny (model prog w) A (pyNext (.ref it)) Q E s:=by
 obtain⟨o,ho,hc,dt⟩:=id hit
 obtain⟨ol,hol,_,nl,dl⟩:=hl
 unfold pyNext
 refine wpAny_bind (wpAny_attempt (wpAny_callSpecial?_slot (name:=Str.ofString "__next__") hit.typeIs slot_listiter_next (wpAny_call_entry slot_listiter_next hit.typeIs entry_listiter_next ?_ (args_listiter_next _))))
 show wpAny _ _ (field (.ref it) 0>>=_) _ _ _;refine wpAny_bind (wpAny_field ho dt (x:= .ref l) rfl ?_)
 show wpAny _ _ (if(Value.ref l==Value.none)=true then _ else _) _ _ _;rw[if_neg (show¬((Value.ref l==Value.none)=true) by simp)]
 show wpAny _ _ (field (.ref it) 1>>=_) _ _ _;refine wpAny_bind (wpAny_field ho dt (x:= .int i 0) rfl ?_)
 show wpAny _ _ (seqItems? (.ref l)>>=_) _ _ _;refine wpAny_bind (wpAny_seqItems hol dl ?_)
 simp only[Int.toNat_natCast,hx]
 refine wpAny_bind (wpAny_rule (wpAny_bind (wpAny_setField ho dt (by simp) ?_)))
 have up:=fun f=>(Heap.SameBut.update (a:=it) (h:=s.heap) (f:=f)).extBut
 refine C2s (s:={s with heap:=_}) (A:=A.in1) (hd _ (up _)) fun h' e k ty=>?_
 refine wpAny_bind (wpAny_isInstance (T:="StopIteration") (b:=true) ty isSubtype_stop ?_)
 exact wpAny_pure (hQ h' fun b o hb z=>k b o (up _ b o hb z))
theorem A1j{it t:Addr}{i:Nat}{items:Array Value}{Q:Option Value ->Shared ->Prop}(hd:∀h':Heap,Heap.ExtBut it s.heap h' ->Hd A h')
   (hit:IsTupIter s.heap it t i) (hl:IsTup s.heap t items) (hx:items[i]?=none)
   (hQ:∀h',Heap.ExtBut it s.heap h' ->Q none {s with heap:=h'}):wpAny (model prog w) A (pyNext (.ref it)) Q E s:=by
 obtain⟨o,ho,hc,dt⟩:=id hit
 obtain⟨ol,hol,_,nl,dl⟩:=hl
 unfold pyNext
 refine wpAny_bind (wpAny_attempt (wpAny_callSpecial?_slot (name:=Str.ofString "__next__") hit.typeIs slot_tupleiter_next (wpAny_call_entry slot_tupleiter_next hit.typeIs entry_tupleiter_next ?_ (args_tupleiter_next _))))
 show wpAny _ _ (field (.ref it) 0>>=_) _ _ _;refine wpAny_bind (wpAny_field ho dt (x:= .ref t) rfl ?_)
 show wpAny _ _ (if(Value.ref t==Value.none)=true then _ else _) _ _ _;rw[if_neg (show¬((Value.ref t==Value.none)=true) by simp)]
 show wpAny _ _ (field (.ref it) 1>>=_) _ _ _;refine wpAny_bind (wpAny_field ho dt (x:= .int i 0) rfl ?_)
 show wpAny _ _ (seqItems? (.ref t)>>=_) _ _ _;refine wpAny_bind (wpAny_seqItems hol dl ?_)
 simp only[Int.toNat_natCast,hx]
 refine wpAny_bind (wpAny_rule (wpAny_bind (wpAny_setField ho dt (by simp) ?_)))
 have up:=fun f=>(Heap.SameBut.update (a:=it) (h:=s.heap) (f:=f)).extBut
 refine C2s (s:={s with heap:=_}) (A:=A.in1) (hd _ (up _)) fun h' e k ty=>?_
 refine wpAny_bind (wpAny_isInstance (T:="StopIteration") (b:=true) ty isSubtype_stop ?_)
 exact wpAny_pure (hQ h' fun b o hb z=>k b o (up _ b o hb z))
theorem C3g{t:Addr}{items:Array Value}{targets:List (Bool×(Value ->Sem Unit))}{Q:Unit ->Shared ->Prop}(hd:Hd A s.heap)(ht:IsTup s.heap t items)
   (hn:targets.length=items.size) (hst:targets.findIdx? (·.1)=none)
   (h:∀h',Heap.ExtBut s.heap.objs.size s.heap h' ->wpAny (model prog w) A (assignInOrder (targets.map (·.2)) items.toList) Q E {s with heap:=h'}):
   wpAny (model prog w) A (unpack (.ref t) targets) Q E s:=by
 have ne:t≠s.heap.objs.size:=by obtain⟨o,ho,_⟩:=ht;exact Nat.ne_of_lt (Heap.lt_size ho)
 unfold unpack
 rw[hn,hst]
 refine wpAny_bind (wpAny_holding ?_)
 unfold unpackItems
 refine wpAny_bind ?_
 unfold notIterableAtAll
 refine wpAny_bind (wpAny_specialOf ht.typeIs slot_tuple_iter.lookup (wpAny_pure ?_))
 simp only[Bool.false_eq_true,if_false]
 refine wpAny_bind (wpAny_holding (iter_tuple ht (wpAny_bind (wpAny_holding (draw_tuple ne items.size 0 _ _ ⟨_,Heap.get?_push_size _ rfl,rfl,rfl⟩ (ht.push _) (by omega) fun g hit sb=>?_)))))
 have all:List.take items.size (List.drop 0 items.toList)=items.toList:=List.take_of_length_le (by simp)
 rw[all,if_neg (by simp)]
 have old:∀b o,b≠s.heap.objs.size ->s.heap.get? b=some o ->g.get? b=some o:=fun b o hb e=>sb.extBut b o hb (Heap.get?_push_of_some _ e)
 refine wpAny_bind (wpAny_holding (A1j (fun h' k=>hd.keeps fun b o e=>?_) hit ((ht.push _).extBut sb.extBut ne) (by simp) fun h₂ he₂=>?_))
 . have nb:b≠s.heap.objs.size:=Nat.ne_of_lt (Heap.lt_size e)
   exact k b o nb (old b o nb e)
 simp only[Option.isSome_none,Bool.false_eq_true,if_false]
 exact wpAny_pure (h h₂ fun b o hb e=>he₂ b o hb (old b o hb e))
end
theorem Y7.there{P:Program}{w:World}{H:Hp}{h:Heap}{a:Addr}{o:HO}(x:Y7 P w H h a o):∃u,h.get? a=some u:=by
 cases o with
 |lst xs=>obtain⟨_,_,_,_,e⟩:=x;exact⟨_,e⟩
 |tup xs=>obtain⟨_,_,_,_,e,_⟩:=x;exact⟨_,e⟩
 |dK kvs=>obtain⟨_,_,_,_,o,_,_,e,_⟩:=x;exact⟨_,e⟩
 |dT kvs=>obtain⟨_,_,_,_,o,_,_,e,_⟩:=x;exact⟨_,e⟩
 |set S n=>obtain⟨o,_,_,_,e,_⟩:=x;exact⟨_,e⟩
 |ins C dx fs=>obtain⟨_,_,_,e,_⟩:=x;exact⟨_,e⟩
 |own y=>obtain⟨_,e⟩:=x;exact⟨_,e⟩
 |xd fs=>obtain⟨_,⟨_,_,_,e,_⟩,_⟩:=x;exact⟨_,e⟩
 |rng lo hi=>obtain⟨_,_,_,e⟩:=x;exact⟨_,e⟩
 |frz ob u=>obtain⟨e,_⟩:=x;exact⟨_,e⟩
 |tbl ps=>exact⟨_,show h.get? a=some _ from x⟩
 |met f y=>exact⟨_,show h.get? a=some _ from x⟩
 |ext φ=>obtain⟨_,e,_⟩:=x;exact e
theorem HOk.new{P:Program}{w:World}{H:Hp}{h:Heap}{a:Addr}(x:HOk P w H h)(e:h.get? a=none):H a=none:=by
 cases q:H a with
 |none=>rfl
 | some u=>
   obtain⟨o,z⟩:=(x a u q).there
   rw[e] at z
   cases z
structure Nw(X:Cx)(pins:List (Addr×Obj))(H:Hp)(b:Addr):Prop where
 un:H b=none
 loc:b≠X.env.locals
 fs:b ∉ X.fs
 old:X.s₀.heap.get? b=none
 cell:∀x c,X.env.cells.lookup x=some c ->c≠b
 pin:∀p∈X.pn++pins,p.1≠b
section
variable{X:Cx}{pins:List (Addr×Obj)}{σ:St}{H H':Hp}{s s':Shared}{a b t:Addr}{C:Value}{dd:Option Addr}
theorem Inv.fsFree(I:Inv X pins σ H s):∀b∈X.fs,H b=none:=fun b hb=>I.stkFree b (by
 rcases I.ok.stk with z|⟨z,zf⟩
 . rw[z];exact hb
 . rw[z]
   unfold frs
   rw[List.filterMap_cons,zf]
   exact List.mem_cons_of_mem _ hb)
theorem Inv.nw(I:Inv X pins σ H s)(hex:X.ex=[])(e:s.heap.get? b=none)(hu:H' b=none):Nw X pins H' b:=by
 refine⟨hu,?_,?_,?_,?_,?_⟩
 . rintro rfl
   obtain⟨m,⟨o,_,_,ho,_⟩,_⟩:=I.loc
   rw[e] at ho
   cases ho
 . intro hb
   obtain⟨_,o,ho,_⟩:=I.funs.mem hb
   rw[e] at ho
   cases ho
 . cases q:X.s₀.heap.get? b with
   |none=>rfl
   | some o=>
     obtain⟨o',z⟩:=I.base.there b o q (by rw[hex];simp)
     rw[e] at z
     cases z
 . rintro x c h rfl
   obtain⟨v,o,ho,_⟩:=I.cell x c h
   rw[e] at ho
   cases ho
 rintro p hp rfl
 obtain⟨z,_⟩:=I.pin p hp
 rw[e] at z
 cases z
theorem Inv.stepN{h':Heap}{ch:List Addr}(I:Inv X pins σ H s)(hch:∀b∈ch,Nw X pins H b)
   (keep:∀b o,b≠X.env.locals ->b ∉ X.fs ->b ∉ ch ->s.heap.get? b=some o ->h'.get? b=some o)
   (slot:∀b o,b ∉ ch ->s.heap.get? b=some o ->∃sl,h'.get? b=some {o with slots:=sl}):Inv X pins σ H {s with heap:=h'}:=by
 have neL:∀b o,X.s₀.heap.get? b=some o ->b≠X.env.locals:=fun b o e=>Nat.ne_of_lt (Nat.lt_of_lt_of_le (Heap.lt_size e) I.ok.above)
 have neC:∀b o,X.s₀.heap.get? b=some o ->b ∉ ch:=fun b o e hb=>by
   have z:=(hch b hb).old
   rw[e] at z
   cases z
 have cellK:∀x c,X.env.cells.lookup x=some c ->∀v,s.heap.IsCell c v ->h'.IsCell c v:=fun x c e v ⟨o,ho,hd⟩=>by
   have nch:c ∉ ch:=fun z=>(hch c z).cell x c e rfl
   obtain⟨sl,q⟩:=slot c o nch ho
   exact⟨_,q,hd⟩
 refine⟨I.ok,I.os,I.bare,⟨fun b o e n hb hx=>?_,fun b o e n hb hx=>?_,I.base.free,fun b o e hx=>?_,I.base.tups,I.base.frzs,I.base.tbls⟩,?_,fun x c e=>?_,I.free,I.freeC,fun p hp=>?_,?_,I.len⟩
 . exact keep b o (neL b o e) hb (neC b o e) (I.base.keep b o e n hb hx)
 . obtain⟨sl,e1⟩:=I.base.slot b o e n hb hx
   obtain⟨sl',e2⟩:=slot b _ (neC b o e) e1
   exact⟨sl',e2⟩
 . obtain⟨o',e1⟩:=I.base.there b o e hx
   obtain⟨sl',e2⟩:=slot b _ (neC b o e) e1
   exact⟨_,e2⟩
 . obtain⟨m,hn,hl⟩:=I.loc
   refine⟨m,?_,fun i x v e1 e2 e3=>?_⟩
   . obtain⟨o,es,ep,ho,r⟩:=hn
     obtain⟨sl,q⟩:=slot _ o (fun z=>(hch _ z).loc rfl) ho
     exact⟨_,es,ep,q,r⟩
   . obtain⟨u,r,l⟩:=hl i x v e1 e2 e3
     refine⟨u,r,?_⟩
     rcases l with l|⟨k,c,e,z⟩
     . exact .inl l
     . exact .inr ⟨k,c,e,cellK x c e _ z⟩
 . obtain⟨v,z⟩:=I.cell x c e
   exact⟨v,cellK x c e v z⟩
 . obtain⟨e,n,ne,nf,d⟩:=I.pin p hp
   exact⟨keep p.1 p.2 ne nf (fun z=>(hch p.1 z).pin p hp rfl) e,n,ne,nf,d⟩
 intro c o e
 have tr:∀b,H b≠none ->∀u,s.heap.get? b=some u ->h'.get? b=some u:=fun b hb u q=>
   keep b u (fun z=>hb (by rw[z];exact I.free)) (fun z=>hb (I.fsFree b z)) (fun z=>hb (hch b z).un) q
 refine(I.hok c o e).stay (fun b u hb q=>tr b ?_ u q) (fun _ q=>q) fun _ _ q=>q
 rcases hb with rfl|hb
 . rw[e];simp
 rw[hb];simp
noncomputable def Flt (X:Cx) (pins:List (Addr×Obj)) (H:Hp) (s:Shared) (a:Addr) (C:Value) (t:Addr) (dd:Option Addr):Prop:=
 Nw X pins H a/\∃tb,s.heap.get? a=some (Z4 C t dd tb)/\D9y s.heap a tb/\∀T,tb= .ref T ->Nw X pins H T
noncomputable def B1z (X:Cx) (pins:List (Addr×Obj)) (H:Hp) (s:Shared) (a:Addr) (C:Value) (t:Addr) (dd:Option Addr) (fl:Value):Prop:=
 Nw X pins H a/\∃T oT ts,s.heap.get? a=some (Z4 C t dd (.ref T))/\T≠a/\Nw X pins H T/\s.heap.get? T=some oT/\oT.data= .fields ts/\ts[3]?=some fl
structure D8q(X:Cx):Prop where
 ex:X.ex=[]
 st:X.stack=X.env::X.outer
 fr:X.env.frame=some X.env.locals
theorem B1z.flt(F:B1z X pins H s a C t dd .none):Flt X pins H s a C t dd:=by
 obtain⟨n,T,oT,ts,e,ne,nT,eT,dT,h3⟩:=F
 exact⟨n,_,e,.inr ⟨T,oT,ts,rfl,ne,eT,dT,h3⟩,fun T' z=>by cases z;exact nT⟩
noncomputable def B8d:Value ->List Addr
 | .ref z=>[z]
 |_=>[]
theorem B0f{M:Model}{E:Value ->Shared ->Prop}{Q:Unit ->Shared ->Prop}(B:D8q X)(I:Inv X pins σ H s)(F:Flt X pins H s a C t dd)
   (k:∀s',Inv X pins σ H s' ->B1z X pins H s' a C t dd (rawInt X.env.locals) ->Q () s'):wpAny M X.A (noteFrame (.ref a) X.env) Q E s:=by
 obtain⟨na,tb,e,ht,nT⟩:=F
 have hfr:=I.ok.frames
 rw[B.st] at hfr
 have hl:=I.stack
 rw[B.st] at hl
 refine G1e hfr hl B.fr e ht fun h' T k1 k2 k3 k4 k5 k6=>?_
 have ch:∀b,b ∉ a::B8d tb ->b≠a/\tb≠ .ref b:=by
   intro b hb
   refine⟨fun z=>hb (by rw[z];exact List.mem_cons_self),fun z=>hb ?_⟩
   rw[z]
   exact List.mem_cons_of_mem _ (List.mem_singleton.mpr rfl)
 have I':Inv X pins σ H {s with heap:=h'}:=by
   refine I.stepN (ch:=a::B8d tb) (fun b hb=>?_) (fun b o h1 h2 h3 q=>k1 b o ?_ (ch b h3).1 (ch b h3).2 q) (fun b o h3 q=>k2 b o (ch b h3).1 (ch b h3).2 q)
   . rcases List.mem_cons.mp hb with rfl|hb
     . exact na
     . cases tb<;>simp[B8d] at hb
       subst hb
       exact nT _ rfl
   . intro z
     rw[List.filterMap_cons,B.fr] at z
     rcases List.mem_cons.mp z with z|z
     . exact h1 z
     . exact h2 z
 obtain⟨oT,ts,q1,q2,q3⟩:=k6
 exact k _ I' ⟨na,T,oT,ts,k5,k4,I.nw B.ex k3 (I.hok.new k3),q1,q2,q3⟩
theorem A4c{M:Model}{A:Around}{E:Value ->Shared ->Prop}{Q:Unit ->Shared ->Prop}{fl:Value}(I:Inv X pins σ H s)(F:B1z X pins H s a C t dd fl)
   (k:∀s',Inv X pins σ H s' ->B1z X pins H s' a C t dd .none ->Q () s'):wpAny M A (setFlight (.ref a) none) Q E s:=by
 obtain⟨na,T,oT,ts,e,ne,nT,eT,dT,h3⟩:=F
 refine D9p e ne eT dT h3 fun h' k1 k2=>?_
 have I':Inv X pins σ H {s with heap:=h'}:=I.stepN (ch:=[T]) (fun b hb=>by
   have:b=T:=by simpa using hb
   subst this
   exact nT) (fun b o _ _ hb q=>k1 b o (fun z=>hb (by simp[z])) q) (fun b o hb q=>⟨_,k1 b o (fun z=>hb (by simp[z])) q⟩)
 rcases k2 with z|⟨T',oT',ts',z,_,q1,q2,q3⟩
 . cases z
 cases z
 exact k _ I' ⟨na,T,oT',ts',k1 a _ (Ne.symm ne) e,ne,nT,q1,q2,q3⟩
theorem B2q{M:Model}{E:Value ->Shared ->Prop}{Q:Unit ->Shared ->Prop}(B:D8q X)(I:Inv X pins σ H s)(F:Flt X pins H s a C t dd)
   (k:∀s',Inv X pins σ H s' ->B1z X pins H s' a C t dd .none ->Q () s'):wpAny M X.A (leaving X.env (.ref a)) Q E s:=by
 unfold leaving
 exact wpAny_bind (B0f B I F fun s1 I1 F1=>A4c I1 F1 k)
end
noncomputable abbrev EK:=Value ->Option Addr ->St ->Hp ->Prop
noncomputable def V3 (X:Cx) (EH:EK):Prop:=∀(pins:List (Addr×Obj)) (σ:St) (H:Hp) (s:Shared) (a t:Addr) (C:Value) (dd:Option Addr),Inv X pins σ H s ->Flt X pins H s a C t dd ->EH C dd σ H ->X.xe (.ref a) s
noncomputable def CX1 (P:Program) (w:World):CXT:=fun outer H s E e s'=>∃(a t:Addr) (C:Value) (dd:Option Addr) (H':Hp),e= .ref a/\s'.os=s.os/\AllBare s'.gens/\Un (frs outer) [] H H' s.heap s'.heap/\HOk P w H' s'.heap/\E C dd H'/\
 (s.heap.get? a=none/\H' a=none)/\∃T oT ts,s'.heap.get? a=some (Z4 C t dd (.ref T))/\T≠a/\(s.heap.get? T=none/\H' T=none)/\s'.heap.get? T=some oT/\oT.data= .fields ts/\ts[3]?=some .none
theorem C0g{P:Program}{w:World}{K:PySem.W.Frag}{mg:Str ->Option Value}{base:Heap}{N:List Str}{qual:Str}{scope:Scope}{f:Addr}{cd:Value}{A:Around}{outer:List Env}{s:Shared}{H:Hp}{E:XK}:
   V3 (A2g (CX1 P w) P w K mg base N qual scope f cd A outer s H E) (fun C dd _ H'=>E C dd H'):=by
 intro pins σ H' s' a t C dd I F h
 refine B2q (X:=A2g (CX1 P w) P w K mg base N qual scope f cd A outer s H E) ⟨rfl,rfl,rfl⟩ I F fun s2 I2 F2=>?_
 obtain⟨na,T,oT,ts,e,ne,nT,eT,dT,h3⟩:=F2
 exact⟨a,t,C,dd,H',rfl,I2.os,I2.bare,I2.base,I2.hok,h,⟨na.old,na.un⟩,T,oT,ts,e,ne,⟨nT.old,nT.un⟩,eT,dT,h3⟩
section
variable{X:Cx}{k:Nat}{f C:Addr}{fd:FuncData}{ps:List Str}{sp:Sp}{dvs:List V}{ds:List Value}{EH:EK}{x m:Str}{p pos apos:Pos}{e o:Expr}{es:List Expr}{ta:TE}{t:TA}
theorem D9q{pins:List (Addr×Obj)}{σ:St}{H:Hp}{s:Shared}{e:Value}{s':Shared}(hx:V3 X EH)(hex:X.ex=[])(I:Inv X pins σ H s)
   (h:CX1 X.prog X.w X.stack H s (fun C d H'=>EH C d σ H') e s'):X.xe e s':=by
 obtain⟨a,t,C,dd,H',rfl,os,bare,un,hok,hE,⟨a1,a2⟩,T,oT,ts,z,ne,⟨t1,t2⟩,eT,dT,h3⟩:=h
 have I':Inv X pins σ H' s':=I.call' (ch:=[]) os un hok bare (fun b q=>absurd q (by simp))
 exact hx pins σ H' s' a t C dd I' (B1z.flt ⟨I.nw hex a1 a2,T,oT,ts,z,ne,I.nw hex t1 t2,eT,dT,h3⟩) hE
theorem A9r{pins:List (Addr×Obj)}{σ:St}{H:Hp}{s:Shared}{Q:VK}{us:List Value}{vs:List V}(F:G8 X.prog X.w X.K X.mg X.base (CX1 X.prog X.w) k f fd ps sp)(hr:A0h k X.A)(hb:V4 X.K fd ps ds)(hd:G7 dvs ds)
   (hx:V3 X EH) (hex:X.ex=[]) (I:Inv X pins σ H s) (r:G7 vs us) (h:sp (vs++dvs) H Q (fun C d H'=>EH C d σ H')):wpAny (model X.prog X.w) X.A (call (.ref f) us) (EP X pins σ Q) X.xe s:=by
 have r2:G7 (vs++dvs) (us++ds):=r.append hd
 have hl:(us++ds).length=ps.length:=by rw[<-r2.length];exact F.len _ _ _ _ h
 refine wpAny_call (codeAny_mono (F.run X.A X.stack s H ⟨us,[]⟩ (us++ds) (vs++dvs) Q _ hr I.env0 (hb s us I.kIn hl) r2 h) fun r s' hq=>?_)
 cases r with
 |error e=>exact D9q hx hex I hq
 | ok fl=>
   cases fl with
   |ret u=>exact I.after hq
   |next=>exact False.elim hq
   |brk=>exact False.elim hq
   |cont=>exact False.elim hq
noncomputable def A2r (sp:Sp) (dvs:List V) (EH:EK) (t:TA):TE:=fun σ H Q=>t σ H fun vs H1=>sp (vs++dvs) H1 Q (fun C d H'=>EH C d σ H')
theorem C6h(F:G8 X.prog X.w X.K X.mg X.base (CX1 X.prog X.w) k f fd ps sp)(hr:A0h k X.A)(hg:Gl X x)(hm:X.mg x=some (.ref f))(hk:PySem.W.keepIn X.K (.ref f)=true)(hb:V4 X.K fd ps ds)(hd:G7 dvs ds)
   (hx:V3 X EH) (ha:PA X (e::es) t) (hex:X.ex=[]:=by rfl) (hdb:(x==("__debug__":Str))=false:=by decide) (he:starEach (e::es) X.env=(false,eval e X.env)::starEach es X.env:=by rfl)
   (hpl:(backTo pos (starEach es X.env)).any (·.1)=false:=by rfl):PE X (.Call (.Name x p) (e::es) [] pos) (A2r sp dvs EH t):=by
 intro pins s σ H Q I h
 refine wpAny_Call_Name_kw (Z1 I hg hm ?_ hdb)
 refine PySem.W.callWith_K (h₀:=X.base) I.ok.mod.kin hk (thn (ha pos pins s σ H _ I h) fun us s1 ⟨vs,H1,I1,r,q⟩=>⟨I1.kIn,?_⟩) he hpl
 exact A9r F hr hb hd hx hex I1 r q
theorem C4y(F:G8 X.prog X.w X.K X.mg X.base (CX1 X.prog X.w) k f fd ps sp)(hr:A0h k X.A)(hg:Gl X x)(hm:X.mg x=some (.ref f))(hk:PySem.W.keepIn X.K (.ref f)=true)(hb:V4 X.K fd ps ds)(hd:G7 dvs ds)
   (hx:V3 X EH) (hex:X.ex=[]:=by rfl) (hdb:(x==("__debug__":Str))=false:=by decide):PE X (.Call (.Name x p) [] [] pos) (A2r sp dvs EH B4q):=by
 intro pins s σ H Q I h
 refine wpAny_Call_Name_kw (Z1 I hg hm ?_ hdb)
 exact PySem.W.callWith_K0 I.kIn hk (A9r (us:=[]) F hr hb hd hx hex I .nil h)
end
section
variable{P:Program}{w:World}{K:PySem.W.Frag}{mg:Str ->Option Value}{base:Heap}
theorem Fun.okE{x qual:Str}{st:Stmt}{f:Addr}{fd:FuncData}{N ps:List Str}{k:Nat}{sp:Sp}(F:Fun K x qual st f fd)(S:B8 N ps (A5 st))(len:∀vs H Q E,sp vs H Q E ->vs.length=ps.length)
   (hbody:∀(X:Cx) (cdv:Value) (A:Around) (outer:List Env) (s:Shared) (H:Hp) (vs:List V) (Q:VK) (E:XK),X=A2g (CX1 P w) P w K mg base N qual (A5 st) f cdv A outer s H E ->A0h k X.A ->V3 X (fun C dd _ H'=>E C dd H') ->sp vs H Q E ->
     ∃t,PSs (A2g (CX1 P w) P w K mg base N qual (A5 st) f cdv A outer s H E) (J9 st) t/\t {nx:=fun _ H'=>Q .non H',rt:=Q} (A1e N vs) H):G8 P w K mg base (CX1 P w) (k+1) f fd ps sp:=by
 obtain⟨oc,od,kV,doc,pm,an,cdv,ct,osl,rfl,lk,hc⟩:=F.ex
 exact D9d lk hc S len fun A outer s H vs Q E hr h=>hbody _ cdv A outer s H vs Q E rfl hr C0g h
theorem G8.up{k:Nat}{f:Addr}{fd:FuncData}{ps:List Str}{sp:Sp}(F:G8 P w K mg base CX0 k f fd ps sp):G8 P w K mg base (CX1 P w) k f fd ps sp:=by
 refine⟨F.len,fun A outer s H args us vs Q E hr e0 hb r h=>codeAny_mono (F.run A outer s H args us vs Q E hr e0 hb r h) fun r s' q=>?_⟩
 cases r with
 |error e=>exact False.elim q
 |ok fl=>cases fl<;>exact q
end
end L2
namespace L2
open PySem PySem.Spec PyProof.Rows PySem.W
theorem D6m{K:Frag}{h:Heap}{C:Addr}{bmB:List Value}{newId:String}(X:K.In h)(q:excIn K C bmB newId=true):
   ∃ (bm:List Value) (N:Addr) (nm qn:Str) (bs:List Value) (hd:Bool) (sn:List Str) (sub:List Value) (ab:Bool) (col:Option Bool) (dd:Option Addr) (k0 k1 k2 k3 k5:Option Value) (mN:Str ->Option Value),
     h.get? C=some (excClassObj nm qn C N bs bm hd sn sub ab col dd k0 k1 k2 k3 k5 newId)/\h.Ns N mN/\mN "__init__"=none/\OwnTail h bmB bm:=by
 unfold excIn at q
 split at q
 . rename_i dd cd sl ho
   split at q
   . rename_i C' bm k0 k1 k2 k3 n k5 hm hs
     simp only[Bool.and_eq_true,beq_iff_eq,Bool.not_eq_true'] at q
     obtain⟨⟨⟨⟨⟨r1,r2⟩,r3⟩,r4⟩,r5⟩,r6⟩:=q
     subst r1 r2
     obtain⟨a1,a2,a3,a4,a5,a6,a7,a8,a9,a10,a11⟩:=cd
     dsimp only at hm r3 r5 r6
     subst hm r3
     have hsl:sl= #[k0,k1,k2,k3,some (.builtin n),k5]:=by
       obtain⟨l⟩:=sl
       simp only at hs
       rw[hs]
     subst hsl
     exact⟨bm,a4,a1,a5,a2,a6,a7,a8,a9,a10,dd,k0,k1,k2,k3,k5,_,X _ _ ho,.of_isNs (isNs_of_in X r5),nsMap_none_of_in X r5 r6,tail_of_in X r4⟩
   . cases q
 cases q
section
variable{X:Cx}{x:Str}{p cpos pos:Pos}{e:Expr}{es:List Expr}{t:TA}{C:Addr}{bmB:List Value}{B newId initId:String}{EH:EK}
noncomputable def C8s (C:Addr) (EH:EK) (t:TA):TS:=fun _ σ H=>t σ H fun vs H1=>vs.length<=sizeLine/\EH (.ref C) none σ H1
theorem C9m(hg:Gl X x)(hm:X.mg x=some (.ref C))(q:excIn X.K C bmB newId=true)(FB:ExcBaseFacts B newId initId bmB)(hh:X.A.handled=none)(hx:V3 X EH)(ha:PA X (e::es) t)(hex:X.ex=[]:=by rfl)
   (hdb:(x==("__debug__":Str))=false:=by decide) (he:starEach (e::es) X.env=(false,eval e X.env)::starEach es X.env:=by rfl) (hpl:(backTo cpos (starEach es X.env)).any (·.1)=false:=by rfl):
   PS X (.Raise (some (.Call (.Name x p) (e::es) [] cpos)) none pos) (C8s C EH t):=by
 intro pins s σ H D I h
 obtain⟨bm,N,nm,qn,bs,hd,sn,sub,ab,col,dd,k0,k1,k2,k3,k5,mN,hC,hN,hni,T⟩:=D6m I.ok.mod.kin q
 refine wpAny_Raise_call_subT (C:=C) (nm:=nm) (q:=qn) (N:=N) (bs:=bs) (bm:=bm) (hdct:=hd) (sn:=sn) (sub:=sub) (ab:=ab) (col:=col) (dd:=dd) (k0:=k0) (k1:=k1) (k2:=k2) (k3:=k3) (k5:=k5) FB (mN:=mN) (T.hasType FB.hasBase) hh
   (by rw[he];show(false||(backTo cpos (starEach es X.env)).any (·.1))=false;rw[hpl];rfl) hni (Z1 I hg hm ⟨rfl,?_⟩ hdb)
 have ha':=ha cpos pins s σ H _ I h
 rw[he] at ha' ⊢
 refine Calls.evalArgs_plain (wpAny_mono ha' (fun us s2 ⟨vs,H1,I1,r,z,q⟩=>⟨rfl,by rw[<-r.length];exact z,I1.bk _ _ hC,hN.keeps I1.bk,T.keeps I1.bk,fun h' a m=>?_⟩) fun _ _ y=>y)
 have I2:Inv X pins σ H1 {s2 with heap:=h'}:=I1.kept (t':=s2.toks) m.keeps
 obtain⟨t',e1,tn,e2⟩:=m.there
 exact hx pins σ H1 _ a t' (.ref C) none I2 ⟨I1.nw hex m.new (I1.hok.new m.new),.none,e1,.inl rfl,fun T z=>nomatch z⟩ q
end
section
variable{X:Cx}{pins:List (Addr×Obj)}{σ:St}{H:Hp}{s:Shared}
theorem Inv.track{a:Addr}{o:Obj}(I:Inv X pins σ H s)(n:Nw X pins H a)(e:s.heap.get? a=some o):Inv X pins σ (upd H a (.frz o (.own a))) s:=by
 have ne:∀b u,H b=some u ->b≠a:=fun b u z q=>by rw[q,n.un] at z;cases z
 have up:∀b,b≠a ->upd H a (.frz o (.own a)) b=H b:=fun b hb=>C7 hb
 refine⟨I.ok,I.os,I.bare,⟨I.base.keep,I.base.slot,fun b u z m hx=>?_,I.base.there,fun b xs z=>?_,fun b u v z=>?_,fun b ps z=>?_⟩,I.loc,I.cell,?_,fun x c z=>?_,fun p hp=>?_,fun b u z=>?_,I.len⟩
 . rw[up b fun q=>by rw[q,n.old] at z;cases z]
   exact I.base.free b u z m hx
 . have:=I.base.tups b xs z
   rw[up b (ne b _ this)];exact this
 . have:=I.base.frzs b u v z
   rw[up b (ne b _ this)];exact this
 . obtain⟨more,this⟩:=I.base.tbls b ps z
   exact⟨more,by rw[up b (ne b _ this)];exact this⟩
 . rw[up _ (Ne.symm n.loc)];exact I.free
 . rw[up _ (n.cell x c z)];exact I.freeC x c z
 . obtain⟨q1,q2,q3⟩:=I.pin p hp
   exact⟨q1,by rw[up _ (n.pin p hp)];exact q2,q3⟩
 by_cases hb:b=a
 . subst hb
   rw[A6] at z
   cases z
   exact⟨e,_,e⟩
 rw[up b hb] at z
 exact(I.hok b u z).stay (fun _ _ _ q=>q) (fun c q=>by rw[up c (ne c _ q)];exact q) (fun c xs q=>by rw[up c (ne c _ q)];exact q)
theorem B2t{M:Model}{A:Around}{E:Value ->Shared ->Prop}{i:Nat}{x:Str}{v:V}{Q:Unit ->Shared ->Prop}(I:Inv X pins σ H s)(hN:X.N.Nodup)(hi:X.N[i]?=some x)(hk:X.env.scope.names.lookup x=some .local)(hv:σ[i]?=some (some v))
   (k:∀s',Inv X pins (σ.set i none) H s' ->Q () s'):wpAny M A (unbindName X.env x) Q E s:=by
 obtain⟨m,hn,hl⟩:=id I.loc
 have hcls:(X.env.scope.kind== .class||(X.env.scope.kind== .module&&X.env.locals !=X.env.globals))=false:=by rw[I.ok.kind];rfl
 obtain⟨u,_,lk⟩:=hl i x v hi hv (.inl hk)
 have hm:m x=some u:=by
   rcases lk with⟨_,z⟩|⟨z,_⟩
   . exact z
   . have z:X.env.scope.names.lookup x=some .cell\/X.env.scope.names.lookup x=some .free:=z
     rw[hk] at z
     rcases z with z|z<;>cases z
 refine wpAny_unbindName_local hk hn hm hcls fun h' w' hn' hs=>k _ ?_
 obtain⟨oL,_,_,hoL,_⟩:=id hn
 have nl:∀b o,X.s₀.heap.get? b=some o ->b≠X.env.locals:=fun b o e=>Nat.ne_of_lt (Nat.lt_of_lt_of_le (Heap.lt_size e) I.ok.above)
 refine⟨I.ok,I.os,I.bare,⟨fun b o e n hb hx=>?_,fun b o e n hb hx=>?_,I.base.free,fun b o e hx=>?_,I.base.tups,I.base.frzs,I.base.tbls⟩,⟨_,hn',fun j y v' e1 e2 e3=>?_⟩,fun y c e=>?_,I.free,I.freeC,fun p hp=>?_,fun b u z=>?_,by simpa using I.len⟩
 . exact(hs.2 b (nl b o e)).trans (I.base.keep b o e n hb hx)
 . obtain⟨sl,e1⟩:=I.base.slot b o e n hb hx
   exact⟨sl,(hs.2 b (nl b o e)).trans e1⟩
 . obtain⟨o',e1⟩:=I.base.there b o e hx
   exact⟨o',(hs.2 b (nl b o e)).trans e1⟩
 . by_cases hj:j=i
   . subst hj
     have hlen:j<σ.length:=(List.getElem?_eq_some_iff.mp hv).1
     rw[List.getElem?_set_self hlen] at e2
     cases e2
   . rw[List.getElem?_set_ne (Ne.symm hj)] at e2
     obtain⟨u',r',q⟩:=hl j y v' e1 e2 e3
     refine⟨u',r',?_⟩
     rcases q with⟨k1,e⟩|⟨k1,c,e,z⟩
     . have:y≠x:=fun e=>hj (B0x hN e1 (e▸hi))
       exact .inl ⟨k1,by simp[this,e]⟩
     . exact .inr ⟨k1,c,e,z.sameBut hs (I.cne y c e)⟩
 . obtain⟨w2,z⟩:=I.cell y c e
   exact⟨w2,z.sameBut hs (I.cne y c e)⟩
 . obtain⟨e,n,ne,nf,d⟩:=I.pin p hp
   exact⟨(hs.2 p.1 ne).trans e,n,ne,nf,d⟩
 refine(I.hok b u z).stay (fun c w2 hc q=>(hs.2 c ?_).trans q) (fun _ q=>q) fun _ _ q=>q
 rintro rfl
 rcases hc with rfl|hc
 . rw[I.free] at z;cases z
 rw[I.free] at hc;cases hc
end
noncomputable abbrev Cx.hold (X:Cx) (pins:List (Addr×Obj)) (E:Value ->Shared ->Prop):Cx:={X with pn:=X.pn++pins,xe:=E}
noncomputable abbrev Cx.hnd (X:Cx) (pins:List (Addr×Obj)) (a:Addr):Cx:={X with A:=X.A.mark (some (.ref a)),calm:=false,pn:=X.pn++pins,xe:=fun _ _=>False}
section
variable{X:Cx}{pins pins':List (Addr×Obj)}{σ:St}{H:Hp}{s:Shared}{a:Addr}{E:Value ->Shared ->Prop}
theorem Inv.hold(I:Inv X pins σ H s):Inv (X.hold pins E) [] σ H s:=
 ⟨⟨I.ok.mod,I.ok.kind,I.ok.glob,I.ok.blt,I.ok.above,I.ok.inj,I.ok.has,I.ok.cab,I.ok.hd,I.ok.frames,I.ok.stk,I.ok.exf,I.ok.bs,I.ok.bsz,I.ok.noex,I.ok.exfs,I.ok.funs,I.ok.frf⟩,
   I.os,I.bare,I.base,I.loc,I.cell,I.free,I.freeC,fun p hp=>I.pin p (by simpa using hp),I.hok,I.len⟩
theorem Inv.unhold(I:Inv (X.hold pins E) pins' σ H s):Inv X pins σ H s:=
 ⟨⟨I.ok.mod,I.ok.kind,I.ok.glob,I.ok.blt,I.ok.above,I.ok.inj,I.ok.has,I.ok.cab,I.ok.hd,I.ok.frames,I.ok.stk,I.ok.exf,I.ok.bs,I.ok.bsz,I.ok.noex,I.ok.exfs,I.ok.funs,I.ok.frf⟩,
   I.os,I.bare,I.base,I.loc,I.cell,I.free,I.freeC,fun p hp=>I.pin p (List.mem_append_left _ hp),I.hok,I.len⟩
theorem Inv.hnd(I:Inv X pins σ H s):Inv (X.hnd pins a) [] σ H s:=
 ⟨⟨I.ok.mod,I.ok.kind,I.ok.glob,I.ok.blt,I.ok.above,I.ok.inj,I.ok.has,I.ok.cab,(fun z=>nomatch z),I.ok.frames,I.ok.stk,I.ok.exf,I.ok.bs,I.ok.bsz,I.ok.noex,I.ok.exfs,I.ok.funs,I.ok.frf⟩,
   I.os,I.bare,I.base,I.loc,I.cell,I.free,I.freeC,fun p hp=>I.pin p (by simpa using hp),I.hok,I.len⟩
theorem Inv.unhnd(ok:X.Ok)(I:Inv (X.hnd pins a) pins' σ H s):Inv X pins σ H s:=
 ⟨ok,I.os,I.bare,I.base,I.loc,I.cell,I.free,I.freeC,fun p hp=>I.pin p (List.mem_append_left _ hp),I.hok,I.len⟩
theorem Nw.unhold{b:Addr}(n:Nw (X.hold pins E) pins' H b):Nw X pins H b:=⟨n.un,n.loc,n.fs,n.old,n.cell,fun p hp=>n.pin p (List.mem_append_left _ hp)⟩
theorem Flt.unhold{t:Addr}{C:Value}{dd:Option Addr}(F:Flt (X.hold pins E) pins' H s a C t dd):Flt X pins H s a C t dd:=by
 obtain⟨n,tb,e,ok,m⟩:=F
 exact⟨n.unhold,tb,e,ok,fun T z=>(m T z).unhold⟩
theorem SP.unhold{D:B2n}{f:Flow}{s':Shared}(h:SP (X.hold pins E) pins' D f s'):SP X pins D f s':=by
 cases f with
 |next=>obtain⟨σ',H',I,q⟩:=h;exact⟨σ',H',I.unhold,q⟩
 |brk=>obtain⟨σ',H',I,q⟩:=h;exact⟨σ',H',I.unhold,q⟩
 |cont=>obtain⟨σ',H',I,q⟩:=h;exact⟨σ',H',I.unhold,q⟩
 |ret u=>obtain⟨v,σ',H',I,r,q⟩:=h;exact⟨v,σ',H',I.unhold,r,q⟩
end
structure B2c(K:Frag)(R:Addr):Prop where
 ty:typeIn K (.ref R)=some (.type "type")
 cl:(clsIn K R).isSome=true
 ex:subIn K (.ref R) (.type "BaseException")=some true
theorem A3x{K:Frag}{M:Model}{h:Heap}{R:Addr}(X:K.In h)(c:(clsIn K R).isSome=true):Looks M h (isType (.ref R)) true:=by
 unfold clsIn at c
 split at c
 . rename_i ho
   intro A' Q' E' s' k q
   unfold isType loadHead
   exact wpAny_bind (wpAny_loadPart (k _ _ (X _ _ ho)) (wpAny_pure q))
 cases c
theorem B3s{K:Frag}{M:Model}{A:Around}{E:Value ->Shared ->Prop}{s:Shared}{a R:Addr}{C:Value}{oa:Obj}{b:Bool}{Q:Bool ->Shared ->Prop}(X:K.In s.heap)(ha:s.heap.get? a=some oa)(hc:oa.cls=C)(c:B2c K R)
   (m:subIn K C (.ref R)=some b) (h:Q b s):wpAny M A (excMatches (.ref a) (.ref R)) Q E s:=by
 obtain⟨hp,g,d,tk,os⟩:=s
 have L1:Looks M hp (typeOf (.ref R)) (.type "type"):=looks_typeIn X c.ty
 have L2:Looks M hp (isSubtype (.ref R) (.type "BaseException")) true:=looks_subIn X c.ex
 have L3:Looks M hp (isSubtype C (.ref R)) b:=looks_subIn X m
 have L4:Looks M hp (typeOf (.ref a)) C:=hc▸(Looks.ld ha).andThen .now
 have L5:Looks M hp (isType (.ref R)) true:=A3x X c.cl
 unfold excMatches
 unfold isInstance
 refine wpAny_bind (wpAny_bind (L1.at ?_))
 rw[tc_notTuple]
 refine wpAny_pure ?_
 simp only[Bool.false_eq_true,if_false]
 refine wpAny_bind (wpAny_pure ?_)
 simp only[List.forIn_cons,List.forIn_nil]
 unfold isExcClass
 refine wpAny_bind (wpAny_bind (wpAny_bind (wpAny_bind (L5.at ?_))))
 simp only[if_true]
 refine L2.at ?_
 simp only[Bool.not_true,Bool.false_eq_true,if_false]
 refine wpAny_pure (wpAny_pure ?_)
 refine wpAny_bind (L4.at ?_)
 refine wpAny_bind (wpAny_bind (wpAny_bind (L3.at ?_)))
 cases b with
 |true=>simp only[if_true];exact wpAny_pure (wpAny_pure (wpAny_pure h))
 |false=>simp only[Bool.false_eq_true,if_false];exact wpAny_pure (wpAny_pure (wpAny_pure h))
noncomputable def G9q (K:Frag) (R:Addr) (i:Nat) (tb:EK ->TS) (ts:Addr ->TS):TS:=fun D σ H=>
 tb (fun C dd σ' H'=>subIn K C (.ref R)=some true/\∀(a t T:Addr),H' a=none ->
   ts a {nx:=fun σ2 H2=>D.nx (σ2.set i none) H2,rt:=D.rt,bk:=fun σ2 H2=>D.bk (σ2.set i none) H2,ct:=fun σ2 H2=>D.ct (σ2.set i none) H2}
     (σ'.set i (some (.ref a))) (upd H' a (.frz (Z4 C t dd (.ref T)) (.own a)))) D σ H
section
variable{X:Cx}{x n:Str}{np hpos pos:Pos}{R:Addr}{i:Nat}{body suite:List Stmt}{b₀:Stmt}{tb:EK ->TS}{ts:Addr ->TS}
theorem G1v(B:D8q X)(hg:Gl X x)(hm:X.mg x=some (.ref R))(c:B2c X.K R)(hN:X.N.Nodup)(hi:X.N[i]?=some n)(hk:X.env.scope.names.lookup n=some .local)
   (hb:∀pins Ew EHb,V3 (X.hold pins Ew) EHb ->PSs (X.hold pins Ew) body (tb EHb)) (hs:∀pins a,PSs (X.hnd pins a) (b₀::suite) (ts a))
   (hdb:(x==("__debug__":Str))=false:=by decide) (hf:X.fn n=true\/X.env.scope.names.lookup n=some .local:=by first|exact .inl rfl|exact .inr rfl|assumption):
   PS X (.Try body [.ExceptHandler (some (.Name x np)) (some n) (b₀::suite) hpos] [] [] pos) (G9q X.K R i tb ts):=by
 intro pins s σ H D I h
 refine wpAny_Try_except ?_
 refine wpAny_mono (hb pins _ _ ?cat [] s σ H D I.hold h) (fun f s1 hf1=>?_) (fun e s1 he=>he)
 case cat=>
   intro pins' σ' H' s' a t C dd I' F' hE
   obtain⟨hsub,hE⟩:=hE
   show wpAny (model X.prog X.w) X.A (noteFrame (.ref a) X.env) _ X.xe s'
   have J:=I'.unhold
   have F:=F'.unhold
   refine B0f B J F fun s2 J2 F2=>A4c J2 F2 fun s3 J3 F3=>?_
   obtain⟨na,T,oT,ts',e3,ne3,nT3,eT3,dT3,h33⟩:=id F3
   refine wpAny_handleBy_cons (codeAny_handlers_test ?_) (by intro z;cases z)
   have K3:Inv (X.hnd pins a) [] σ' H' s3:=J3.hnd
   refine Z1 K3 hg hm ?_ hdb
   refine B3s J3.kIn e3 rfl c hsub ?_
   show codeAny _ _ _ _ _
   refine codeAny_handlers_suite_as ?_
   refine A4c J3 F3 fun s4 J4 F4=>?_
   obtain⟨na4,T4,oT4,ts4,e4,_⟩:=id F4
   have J5:=J4.track na4 e4
   refine A2d (v:= .ref a) J5 hN hi (.inl hk) rfl (fun s5 J6=>?_) hf
   refine wpAny_mono (hs pins a [] s5 _ _ _ J6.hnd (hE a t T4 na4.un)) (fun f s6 hf6=>?_) (fun _ _ z=>z.elim)
   have fin:∀{σ6:St} {H6:Hp} {Q6:Unit ->Shared ->Prop},Inv (X.hnd pins a) [] σ6 H6 s6 ->(∀s7,Inv X pins (σ6.set i none) H6 s7 ->Q6 () s7) ->
       wpAny (model X.prog X.w) X.A (do bindName X.env n .none;unbindBehindTheSuite X.env n hpos) Q6 X.xe s6:=by
     intro σ6 H6 Q6 K6 k6
     have L6:=K6.unhnd J6.ok
     refine wpAny_bind (wpAny_bindName (A2d (v:= .non) L6 hN hi (.inl hk) rfl (fun s7 J7=>?_) hf))
     unfold unbindBehindTheSuite
     have hlen:i<σ6.length:=by rw[L6.len];exact(List.getElem?_eq_some_iff.mp hi).1
     refine wpAny_onRaise (B2t J7 hN hi hk (List.getElem?_set_self hlen) fun s8 J8=>k6 s8 ?_)
     rw[List.set_set] at J8
     exact J8
   cases f with
   |next=>obtain⟨σ6,H6,K6,q⟩:=hf6;exact fin K6 fun s7 J7=>⟨_,_,J7,q⟩
   |brk=>obtain⟨σ6,H6,K6,q⟩:=hf6;exact fin K6 fun s7 J7=>⟨_,_,J7,q⟩
   |cont=>obtain⟨σ6,H6,K6,q⟩:=hf6;exact fin K6 fun s7 J7=>⟨_,_,J7,q⟩
   |ret u=>obtain⟨v,σ6,H6,K6,r,q⟩:=hf6;exact fin K6 fun s7 J7=>⟨v,_,_,J7,r,q⟩
 cases f with
 |next=>exact wpAny_execs_nil (SP.unhold hf1)
 |brk=>exact SP.unhold hf1
 |cont=>exact SP.unhold hf1
 |ret u=>exact SP.unhold hf1
end
structure B5r(K:Frag)(C:Addr):Prop where
 ga:findIn K (.ref C) "__getattribute__"=some (some (.builtin "BaseException.__getattribute__"))
 gh:findIn K (.ref C) "__getattr__"=some none
 ca:findIn K (.ref C) "__class__"=some (some (.builtin "object.__class__"))
 sn:specialIn K (.builtin "object.__class__") "__get__"=some (some (.builtin "getset_descriptor.__get__"))
 tk:takesIn K (.builtin "object.__class__")=some true
 ob:mroIn K C (.type "object")=some true
 be:subIn K (.ref C) (.type "BaseException")=some true
 cl:(clsIn K C).isSome=true
theorem A4k{prog:Program}{w:World}{A:Around}{E:Value ->Shared ->Prop}{s:Shared}{K:Frag}{a C:Addr}{oa:Obj}{od:Option Obj}{Q:Option Value ->Shared ->Prop}(F:B5r K C)(X:K.In s.heap)(I:PySem.W.InstAt s.heap a oa C od)
   (h:Q (some (.ref C)) {s with toks:=s.toks+1}):wpAny (model prog w) A (getAttr? (.ref a) "__class__") Q E s:=by
 obtain⟨hp,g,d,t,os⟩:=s
 have L0:=I.type (M:=model prog w)
 have L1:=looks_findIn (M:=model prog w) X F.ga
 have L2:=looks_findIn (M:=model prog w) X F.gh
 have L3:Looks (model prog w) hp (isInstance (.ref a) (.type "BaseException")) true:=L0.andThen (looks_subIn X F.be)
 have hf:findObj K C od "__class__"=some (.bind (.builtin "getset_descriptor.__get__") (.builtin "object.__class__")):=by
   obtain⟨cd,hc⟩:=Option.isSome_iff_exists.mp F.cl
   unfold findObj
   rw[hc,Option.bind_some,F.ca,Option.bind_some]
   simp[F.sn,F.tk]
 have L4:=looks_find (M:=model prog w) X I hf
 have hk:builtinKind "BaseException.__getattribute__"=some .slot:=by decide+kernel
 have hsplit:splitId "BaseException.__getattribute__"=some ("BaseException","__getattribute__"):=by decide+kernel
 have hargs:=PySem.F.args_bexc_ga (.ref a) (.str "__class__" t)
 have hb:=PySem.F.attr_ValueError.ga.bind (.ref a)
 unfold getAttr? getAttrBy? getAttrBy
 refine wpAny_bind (wpAny_mkText (wpAny_bind (wpAny_attempt (wpAny_holding (wpAny_bind (L0.at (wpAny_bind (L1.at ?_))))))))
 dsimp only
 rw[if_neg (show¬((onTheHeap (Value.ref C)&&Value.builtin "BaseException.__getattribute__"==Value.builtin "object.__getattribute__")=true) by
   rw[show(Value.builtin "BaseException.__getattribute__"==Value.builtin "object.__getattribute__")=false by decide+kernel,Bool.and_false];exact Bool.false_ne_true)]
 unfold getAttrByItsOwn
 refine wpAny_bind (m:=hookBefore (.ref C)) (L2.at ?_)
 refine wpAny_bind (wpAny_attempt (wpAny_holding ?_))
 unfold callGetattribute
 rw[if_neg (by decide)]
 unfold boundAndCalled
 rw[hb]
 refine wpAny_bind (wpAny_pure ?_)
 refine wpAny_call (codeAny_call_builtin PySem.F.attr_ValueError.ga.plain PySem.F.entry_bexc_ga ?_)
 have chk:∀{A':Around} {Q':Unit ->Shared ->Prop} {E':Value ->Shared ->Prop},Q' () ⟨hp,g,d,t+1,os⟩ ->wpAny (model prog w) A' (checkBuiltinCall "BaseException.__getattribute__" ⟨[.ref a,.str "__class__" t],[]⟩) Q' E' ⟨hp,g,d,t+1,os⟩:=by
   intro A' Q' E' hq
   simp only[checkBuiltinCall,hk,hsplit]
   refine wpAny_bind ?_
   refine L3.at ?_
   repeat (first|assumption|wp_step)
 refine chk ?_
 show wpAny _ _ (Builtin.«object.__getattribute__» ⟨[.ref a, .str "__class__" t], []⟩) _ _ _
 unfold Builtin.«object.__getattribute__»
 refine wpAny_bind (wpAny_pure ?_)
 refine wpAny_bind (wpAny_pure ?_)
 refine wpAny_bind (L0.at (wpAny_bind (L4.at ?_)))
 dsimp only
 show wpAny _ _ (holding [Value.builtin "object.__class__"] (call (.builtin "getset_descriptor.__get__") [.builtin "object.__class__",.ref a,.ref C])>>=ret) _ _ _
 refine wpAny_bind (wpAny_holding (wpAny_call (class_get (s:=⟨hp,g,d,t+1,os⟩) X I F.ob (wpAny_pure ?_))))
 exact handed_on rfl (wpAny_pure h)
noncomputable def V8 (X:Cx):Prop:=X.A.handled=none\/∃x o u vs,X.A.handled=some (.ref x)/\X.H₀ x=some (.frz o u)/\o.data= .fields vs/\vs[2]?=some .none
section
variable{X:Cx}{pins:List (Addr×Obj)}{σ:St}{H:Hp}{s:Shared}
theorem Inv.hdA(I:Inv X pins σ H s)(h:V8 X):Hd X.A s.heap:=by
 rcases h with z|⟨x,o,u,vs,z,e,d,n⟩
 . exact .inl z
 exact .inr ⟨x,o,vs,z,(I.hok x _ (I.base.frzs x o u e)).1,d,n⟩
theorem Inv.hdB{it:Addr}(I:Inv X pins σ H s)(h:V8 X)(hn:H it=none):∀h':Heap,Heap.ExtBut it s.heap h' ->Hd X.A h':=by
 intro h' k
 rcases h with z|⟨x,o,u,vs,z,e,d,n⟩
 . exact .inl z
 have q:=I.base.frzs x o u e
 exact .inr ⟨x,o,vs,z,k x o (fun w=>by rw[w,hn] at q;cases q) (I.hok x _ q).1,d,n⟩
end
structure D0e(P:Program)(w:World)(K:Frag)(tg:Expr)(J:It)(it:Addr)(tn:Nat ->Heap ->Prop):Prop where
 obj:∀i h,tn i h ->∃o,h.get? it=some o/\∀v,o.data≠ .cell v
 keep:∀i h h',tn i h ->(∀o,h.get? it=some o ->h'.get? it=some o) ->tn i h'
 item:∀(X:Cx),X.prog=P ->X.w=w ->X.K=K ->V8 X ->∀(i:Nat) (pins:List (Addr×Obj)) (s:Shared) (σ:St) (H:Hp) (E:Value ->Shared ->Prop),Inv X pins σ H s ->A0s X pins H it ->tn i s.heap ->J.go i H ->
   wpAny (model P w) X.A (pyNext (.ref it)) (fun r s1=>∃u,r=some u/\
     wpAny (model P w) X.A (letOwnedTupleGo tg (.ref it) u) (fun _ s2=>∃x,Inv X pins σ H s2/\V0 x u/\J.yld i H x H/\tn (i+1) s2.heap) E s1) E s
 done:∀(X:Cx),X.prog=P ->X.w=w ->X.K=K ->V8 X ->∀(i:Nat) (pins:List (Addr×Obj)) (s:Shared) (σ:St) (H:Hp) (E:Value ->Shared ->Prop),Inv X pins σ H s ->A0s X pins H it ->tn i s.heap ->J.stop i H ->
   wpAny (model P w) X.A (pyNext (.ref it)) (fun r s1=>r=none/\Inv X pins σ H s1) E s
 self:∀(A:Around) (i:Nat) (s:Shared) (Q:Value ->Shared ->Prop) (E:Value ->Shared ->Prop),tn i s.heap ->Q (.ref it) s ->wpAny (model P w) A (pyIter (.ref it)) Q E s
theorem B8k{P:Program}{w:World}{K:Frag}{tg:Expr}(a it:Addr):D0e P w K tg (Itl K a) it (fun i h=>h.IsListIter it a i) where
 obj:=fun i h ⟨o,e,c,d⟩=>⟨o,e,fun v z=>by rw[d] at z;cases z⟩
 keep:=fun i h h' st k=>st.at fun o e=>k o e
 item:=by
   intro X hP hw hK hc i pins s σ H E I hf st hg
   subst hP hw hK
   obtain⟨xs,x,hq,hx⟩:=hg
   obtain⟨its,rv,p,hz⟩:=I.list hq
   obtain⟨u,hu,ru⟩:=rv.get hx
   obtain⟨f0,f1,f2,f3,f4,f5⟩:=hf
   refine wpAny_pyNext_list_item st p.isList (x:=u) (by simpa using hu) fun h' st' sb=>?_
   have I1:Inv X pins σ H {s with heap:=h'}:=I.turned (t':=s.toks) (fun b o hb e=>(sb.2 b hb).trans e) f0 f1 f3 f4 f5
   obtain⟨o,e,c,d⟩:=id st'
   exact⟨u,rfl,B6y (s:={s with heap:=h'}) e c d (by decide) ⟨x,I1,ru,⟨rfl,fun ys hy=>by rw[I.list_inj hy hq];exact hx⟩,st'⟩⟩
 done:=by
   intro X hP hw hK hc i pins s σ H E I hf st hg
   subst hP hw hK
   obtain⟨xs,hq,hx⟩:=hg
   obtain⟨its,rv,p,hz⟩:=I.list hq
   obtain⟨f0,f1,f2,f3,f4,f5⟩:=hf
   have hl:=rv.length
   exact A3f (I.hdB hc f0) st p.isList (by simp;omega) fun h' eb=>⟨rfl,I.turned (t':=s.toks) (fun b o hb e=>eb b o hb e) f0 f1 f3 f4 f5⟩
 self:=fun _ _ _ _ _ st h=>wpAny_pyIter_listiter st h
theorem C4q{P:Program}{w:World}{K:Frag}{tg:Expr}(a it:Addr):D0e P w K tg (Itt K a) it (fun i h=>h.IsTupleIter it a i) where
 obj:=fun i h ⟨o,e,c,d⟩=>⟨o,e,fun v z=>by rw[d] at z;cases z⟩
 keep:=fun i h h' st k=>st.at fun o e=>k o e
 item:=by
   intro X hP hw hK hc i pins s σ H E I hf st hg
   subst hP hw hK
   obtain⟨xs,x,hq,hx⟩:=hg
   obtain⟨its,rv,p,hz⟩:=I.tuple hq
   obtain⟨u,hu,ru⟩:=rv.get hx
   obtain⟨f0,f1,f2,f3,f4,f5⟩:=hf
   refine wpAny_pyNext_tuple_item st (show s.heap.IsTuple a its.toArray from p) (x:=u) (by simpa using hu) fun h' st' sb=>?_
   have I1:Inv X pins σ H {s with heap:=h'}:=I.turned (t':=s.toks) (fun b o hb e=>(sb.2 b hb).trans e) f0 f1 f3 f4 f5
   obtain⟨o,e,c,d⟩:=id st'
   exact⟨u,rfl,B6y (s:={s with heap:=h'}) e c d (by decide) ⟨x,I1,ru,⟨rfl,fun ys hy=>by rw[I.tuple_inj hy hq];exact hx⟩,st'⟩⟩
 done:=by
   intro X hP hw hK hc i pins s σ H E I hf st hg
   subst hP hw hK
   obtain⟨xs,hq,hx⟩:=hg
   obtain⟨its,rv,p,hz⟩:=I.tuple hq
   obtain⟨f0,f1,f2,f3,f4,f5⟩:=hf
   have hl:=rv.length
   exact A1j (I.hdB hc f0) st p (by simp;omega) fun h' eb=>⟨rfl,I.turned (t':=s.toks) (fun b o hb e=>eb b o hb e) f0 f1 f3 f4 f5⟩
 self:=fun _ _ _ _ _ st h=>wpAny_pyIter_tupleiter st h
noncomputable def PIH (X:Cx) (tg iter:Expr) (wi:TI):Prop:=
 ∀ (pins:List (Addr×Obj)) (s:Shared) (σ:St) (H:Hp) (R:It ->Hp ->Prop),Inv X pins σ H s ->wi σ H R ->
   wpAny (model X.prog X.w) X.A (eval iter X.env) (fun v s1=>wpAny (model X.prog X.w) X.A (pyIter v) (fun itv s2=>∃(it:Addr) (tn:Nat ->Heap ->Prop) (J:It) (H':Hp),itv= .ref it/\Inv X pins σ H' s2/\D0e X.prog X.w X.K tg J it tn/\tn 0 s2.heap/\
     A0s X pins H' it/\R J H') X.xe s1) X.xe s
section
variable{X:Cx}{tg:Expr}
theorem B6v{l:Expr}{tl:TE}(hl:PE X l tl):PIH X tg l (D9c X.K tl):=by
 intro pins s σ H R I h
 refine thn (hl pins s σ H _ I h) fun v s1 hh_=>?_
 obtain⟨x,H1,I1,r1,q1⟩:=hh_
 obtain⟨a,e,⟨xs,hq⟩,q⟩:=q1
 subst e
 cases r1
 obtain⟨its,rv,p,hz⟩:=I1.list hq
 exact wpAny_pyIter_list p.isList ⟨s1.heap.objs.size,_,_,H1,rfl,I1.kept (t':=s1.toks) fun b o e=>Heap.get?_push_of_some _ e,B8k a _,⟨_,Heap.get?_push_size _ rfl,rfl,rfl⟩,I1.fpOk (Nat.le_refl _) (I1.hok.fresh (Nat.le_refl _)),q⟩
theorem A9g{l:Expr}{tl:TE}(hl:PE X l tl):PIH X tg l (G2e X.K tl):=by
 intro pins s σ H R I h
 refine thn (hl pins s σ H _ I h) fun v s1 hh_=>?_
 obtain⟨x,H1,I1,r1,q1⟩:=hh_
 obtain⟨a,e,⟨xs,hq⟩,q⟩:=q1
 subst e
 cases r1
 obtain⟨its,rv,p,hz⟩:=I1.tuple hq
 exact wpAny_pyIter_tuple (show s1.heap.IsTuple a its.toArray from p) ⟨s1.heap.objs.size,_,_,H1,rfl,I1.kept (t':=s1.toks) fun b o e=>Heap.get?_push_of_some _ e,C4q a _,⟨_,Heap.get?_push_size _ rfl,rfl,rfl⟩,I1.fpOk (Nat.le_refl _) (I1.hok.fresh (Nat.le_refl _)),q⟩
theorem D8g{es:List Expr}{k:Nat}{t:TGs}{n:Nat}{pos:Pos}(hc:V8 X)(h:PGs X es t)(hn:(assignEach es X.env).length=n:=by rfl)(hst:(assignEach es X.env).findIdx? (·.1)=none:=by rfl):PG X (.Tuple es k pos) (D9u X.K n t):=by
 intro pins s σ H v u Q I r q
 obtain⟨a,xs,ev,hq,hl,q⟩:=q
 subst ev
 cases r
 obtain⟨its,rv,p,hz⟩:=I.tuple hq
 rw[assign_Tuple]
 refine wpAny_bind (wpAny_standAt (C3g (I.hdA hc) p (by rw[hn, <-hl,rv.length];simp) hst fun h' hx=>?_))
 have I1:Inv X pins σ H {s with heap:=h'}:=I.kept (t':=s.toks) fun b o e=>hx b o (Nat.ne_of_lt (Heap.lt_size e)) e
 exact thn (h pins _ σ H xs its Q I1 rv q) fun _ s' z=>z
theorem B4f{K:Frag}{es:List Expr}{k:Nat}{t:TGs}{n:Nat}{pos:Pos}(hK:X.K=K)(hc:V8 X)(h:PGs X es t)(hn:(assignEach es X.env).length=n:=by rfl)(hst:(assignEach es X.env).findIdx? (·.1)=none:=by rfl):PG X (.Tuple es k pos) (D9u K n t):=by
 subst hK
 exact D8g hc h hn hst
end
noncomputable abbrev Cx.comp (X:Cx) (scope:Scope) (N:List Str) (C:Addr) (s₀:Shared) (H₀:Hp) (ex:List Addr) (pins:List (Addr×Obj)):Cx:=
 {X with N:=N,s₀:=s₀,H₀:=H₀,env:=compEnv scope C X.env,outer:=X.stack,ex:=ex,fn:=fun _=>false,pn:=pins,xe:=fun _ _=>False}
structure A8a(N:List Str)(sc:Scope):Prop where
 kind:sc.kind= .function
 free:∀y∈sc.names,y.2≠ .free
 cell:∀y∈sc.names,y.2≠ .cell
 loc:∀y∈sc.names,y.2= .local ->sc.names.lookup y.1=some .local
 nd:N.Nodup
noncomputable def C8h (n:Nat) (wi:TI) (g:TG) (te:TE):TE:=fun σ H Q=>wi σ H fun J H1=>∀D,H1 D=none ->
 ∃ (m:Nat) (W:Nat ->List V ->Hp ->Prop),W 0 [] (upd H1 D (.lst []))/\∀i ys H2,W i ys H2 ->i<=m/\H2 D=some (.lst ys)/\((J.stop i H2/\Q (.ref D) H2)\/(i<m/\J.go i H2/\∀x H3,J.yld i H2 x H3 ->
   g x (List.replicate n none) H3 fun σ4 H4=>te σ4 H4 fun y H6=>H6 D=some (.lst ys)/\ys.length<sizeLine/\W (i+1) (ys++ [y]) (upd H6 D (.lst (ys++ [y])))))
theorem B7s{prog:Program}{w:World}{A:Around}{s:Shared}{elt target iter:Expr}{scope:Scope}{pos:Pos}{it acc:Value}{env:Env}{R:Result ->Shared ->Prop}(I:Nat ->Shared ->Prop)
   (turn :∀n s,I n s ->wpAny (model prog w) A (pyNext it) (fun r s₁=>match r with
     |none=>R (.ok .next) s₁
     |some v=>wpAny (model prog w) A (letOwnedTupleGo target it v) (fun _ s₀=>wpAny (model prog w) A (assign target env v) (fun _ s₂=>wpAny (model prog w) A (eval elt env) (fun x s₄=>
         wpAny (model prog w) A (call (.builtin "list.append") [acc,x]) (fun _ s₅=>∃m,m<n/\I m s₅) (notedBy (model prog w) A env fun e s'=>R (.error e) s') s₄) (notedBy (model prog w) A env fun e s'=>R (.error e) s') s₂)
         (notedBy (model prog w) A env fun e s'=>R (.error e) s') s₀) (notedBy (model prog w) A env fun e s'=>R (.error e) s') s₁) (notedBy (model prog w) A env fun e s'=>R (.error e) s') s)
   (n:Nat) (h:I n s):codeAny (model prog w) A (.compLoop (.ListComp elt [⟨target,iter,[],0⟩] scope pos) 0 it acc env) R s:=by
 refine codeAny_loop rfl I (fun n s hI=>?_) n h
 show wpAny _ A ((compTurn (.ListComp elt [⟨target,iter,[],0⟩] scope pos) 0 it acc env).onRaise (fun x=>do noteFrame x env;theTreesLotGoes x)) _ _ s
 refine wpAny_noted ?_;rw[compTurn_list1]
 refine wpAny_bind (wpAny_standAt (wpAny_bind (wpAny_mono (turn n s hI) (fun r s₁ h₁=>?_) fun _ _ z=>z)))
 cases r with
 |none=>exact wpAny_pure h₁
 | some v=>
   refine wpAny_bind (wpAny_mono h₁ (fun _ s₀ q₀=>?_) fun _ _ z=>z)
   refine wpAny_bind (wpAny_mono q₀ (fun _ s₂ q₂=>?_) fun _ _ z=>z)
   exact wpAny_bind (wpAny_bind (wpAny_mono q₂ (fun x s₄ q₄=>wpAny_bind (wpAny_mono q₄ (fun _ s₅ q₅=>wpAny_pure (wpAny_pure ⟨rfl,q₅⟩)) fun _ _ z=>z)) fun _ _ z=>z))
section
variable{X:Cx}
theorem D0a{pins:List (Addr×Obj)}{σ:St}{H:Hp}{s:Shared}{scope:Scope}{N:List Str}{it:Addr}{h':Heap}(S:A8a N scope)(I:Inv X pins σ H s)(hf:A0s X pins H it)(hit:∃o,s.heap.get? it=some o)(hnb:X.base.get? it=none)
   (hns:h'.Ns s.heap.objs.size (fun _=>none)) (hsb:∀b o,s.heap.get? b=some o ->h'.get? b=some o) {tk:Nat}:
   Inv (X.comp scope N s.heap.objs.size s H [it] (X.pn++pins)) [] (List.replicate N.length none) H {s with heap:=h',toks:=tk}:=by
 obtain⟨f0,f1,f2,f3,f4,f5⟩:=hf
 obtain⟨oi,ei⟩:=hit
 have lt:it<s.heap.objs.size:=Heap.lt_size ei
 have nc:∀x c,(compEnv scope s.heap.objs.size X.env).cells.lookup x=some c ->False:=fun x c z=>by cases z
 have nk:∀x,¬((compEnv scope s.heap.objs.size X.env).kindOf x=some .cell\/(compEnv scope s.heap.objs.size X.env).kindOf x=some .free):=by
   intro x z
   have z:scope.names.lookup x=some .cell\/scope.names.lookup x=some .free:=z
   rcases z with z|z
   . exact S.cell _ (PySem.mem_of_lookup z) rfl
   . exact S.free _ (PySem.mem_of_lookup z) rfl
 refine⟨⟨I.ok.mod,S.kind,I.ok.glob,I.ok.blt,Nat.le_refl _,fun x y c z=>(nc x c z).elim,fun x z=>(nk x z).elim,fun x c _ z=>(nc x c z).elim,I.ok.hd,I.ok.frames,.inl rfl,fun b hb=>?_,I.bs,Nat.le_trans I.ok.bsz I.sz,fun b o e hb=>?_,fun b hb hfs=>?_,I.stack,I.stkFree⟩,
   rfl,I.bare,Un.kept hsb,⟨_,hns,fun i x v e1 e2 e3=>?_⟩,fun x c z=>(nc x c z).elim,I.hok.fresh (Nat.le_refl _),fun x c z=>(nc x c z).elim,fun p hp=>?_,I.hok.kept hsb,by simp⟩
 . have e:b=it:=by simpa using hb
   subst e
   exact⟨Nat.ne_of_lt lt,fun x c z=>(nc x c z).elim⟩
 . have e':b=it:=by simpa using hb
   subst e'
   rw[hnb] at e
   cases e
 . have e':b=it:=by simpa using hb
   subst e'
   rcases List.mem_cons.mp (I.stkSub b hfs) with z|z
   . exact f1 z
   . exact f2 z
 . rw[List.getElem?_replicate] at e2
   split at e2<;>cases e2
 have hp':p∈X.pn++pins:=by simpa using hp
 obtain⟨q1,q2,q3,q4,q5⟩:=I.pin p hp'
 refine⟨hsb _ _ q1,q2,Nat.ne_of_lt (Heap.lt_size q1),fun z=>?_,q5⟩
 rcases List.mem_cons.mp (I.stkSub p.1 z) with z|z
 . exact q3 z
 exact q4 z
theorem B9v{elt target iter:Expr}{scope:Scope}{pos:Pos}{N:List Str}{wi:TI}{g:TG}{te:TE}(S:A8a N scope)(hd:V8 X)(hi:PIH X target iter wi)(hex:X.ex=[])
   (hg:∀C s₀ H₀ ex pn,V8 (X.comp scope N C s₀ H₀ ex pn) ->PG (X.comp scope N C s₀ H₀ ex pn) target g)
   (he:∀C s₀ H₀ ex pn,V8 (X.comp scope N C s₀ H₀ ex pn) ->PE (X.comp scope N C s₀ H₀ ex pn) elt te)
   {pins:List (Addr×Obj)} {s:Shared} {σ:St} {H:Hp} {Q:VK} {RR:Value ->Env ->Result ->Shared ->Prop} (I:Inv X pins σ H s) (h:(C8h N.length wi g te) σ H Q)
   (hRR:∀(D C:Addr) (s6:Shared) (H5:Hp) (mm:Str ->Option Value),Inv X pins σ H5 s6 ->s6.heap.Ns C mm ->A0s X pins H5 C ->Q (.ref D) H5 ->RR (.ref D) (compEnv scope C X.env) (.ok .next) s6):
   wpAny (model X.prog X.w) X.A (eval iter X.env) (fun v s1=>wpAny (model X.prog X.w) X.A (pyIter v) (fun itv s2=>wpAny (model X.prog X.w) X.A (newList []) (fun acc s3=>wpAny (model X.prog X.w) X.A (newFunctionEnv scope X.env.globals [] [] X.env.qual none .none (some X.env)) (fun cenv s4=>
     codeAny (model X.prog X.w) X.A (.compStart (.ListComp elt [⟨target,iter,[],0⟩] scope pos) 0 itv acc {cenv with scope:=scope}) (RR acc {cenv with scope:=scope}) s4) X.xe s3) X.xe s2) X.xe s1) X.xe s:=by
 refine thn (hi pins s σ H _ I h) fun v s1 h1=>thn h1 fun itv s2 h2=>?_
 obtain⟨it,tn,J,H2,rfl,I2,T,st2,f2,R⟩:=h2
 obtain⟨oi,ei,di⟩:=T.obj _ _ st2
 have hf2:=I2.hok.fresh (Nat.le_refl _)
 refine wpAny_newObj_type ?_
 have I3:Inv X pins σ (upd H2 s2.heap.objs.size (.lst [])) {s2 with heap:=s2.heap.push {cls:= .type "list",dict:=none,data:= .seq ([]:List Value).toArray}}:=Inv.lnew (t':=s2.toks) I2 .nil (Nat.zero_le _)
 refine wpAny_newFunctionEnv S.cell (by intro y hy;simp at hy) (fun h4 hns hsb=>?_) S.kind
 dsimp only at hns hsb ⊢
 generalize hG:s2.heap.push {cls:= .type "list",dict:=none,data:= .seq ([]:List Value).toArray}=G at I3 hns hsb ⊢
 generalize hD:s2.heap.objs.size=D at I3 hf2
 have nD:it≠D:=by rw[<-hD];exact Nat.ne_of_lt (Heap.lt_size ei)
 have eiG:G.get? it=some oi:=by rw[<-hG];exact Heap.get?_push_of_some _ ei
 have kp:∀b o,G.get? b=some o ->h4.get? b=some o:=fun b o e=>hsb.extBut b o (Nat.ne_of_lt (Heap.lt_size e)) (Heap.get?_push_of_some _ e)
 have f3:A0s X pins (upd H2 D (.lst [])) it:=⟨by rw[C7 nD];exact f2.1,f2.2⟩
 have nb:X.base.get? it=none:=by
   cases q:X.base.get? it with
   |none=>rfl
   | some o=>
     have:=(I.ok.bs it o q).1
     rcases f2.2.2.2.1 with z|z
     . rw[hex] at z;simp at z
     . exact absurd (Nat.lt_of_lt_of_le (Heap.lt_size this) z) (Nat.lt_irrefl _)
 have hns':h4.Ns G.objs.size (fun _=>none):=by
   obtain⟨o,es,ep,q1,q2,q3,q4⟩:=hns
   exact⟨o,es,ep,q1,q2,q3,fun x=>by rw[q4];rfl⟩
 have I4:=D0a (tk:=s2.toks+([]:List (Str×Value)).length) S I3 f3 ⟨oi,eiG⟩ nb hns' kp
 have hdc:V8 (X.comp scope N G.objs.size {s2 with heap:=G} (upd H2 D (.lst [])) [it] (X.pn++pins)):=by
   rcases hd with z|⟨x,o,u,vs,z,e,d,n⟩
   . exact .inl z
   . refine .inr ⟨x,o,u,vs,z,?_,d,n⟩
     have q:=I2.base.frzs x o u e
     show upd H2 D (.lst []) x=_
     rw[C7 fun w=>by rw[w,hf2] at q;cases q]
     exact q
 obtain⟨m,W,w0,turn⟩:=R D hf2
 have gg:=hg _ _ _ _ _ hdc
 have ee:=he _ _ _ _ _ hdc
 have fpc:∀{H':Hp} {σ':St} {s':Shared} {pl:List (Addr×Obj)},Inv (X.comp scope N G.objs.size {s2 with heap:=G} (upd H2 D (.lst [])) [it] (X.pn++pins)) pl σ' H' s' ->H' it=none ->(∀p∈pl,p.1≠it) ->A0s (X.comp scope N G.objs.size {s2 with heap:=G} (upd H2 D (.lst [])) [it] (X.pn++pins)) pl H' it:=by
   intro H' σ' s' pl J' hn hp
   refine⟨hn,Nat.ne_of_lt (Heap.lt_size eiG),?_,.inl (List.mem_singleton.mpr rfl),(fun x c z=>nomatch z),fun p hpp=>?_⟩
   . intro z
     rcases List.mem_cons.mp (I.stkSub it z) with z|z
     . exact f2.2.1 z
     . exact f2.2.2.1 z
   . rcases List.mem_append.mp hpp with z|z
     . exact f2.2.2.2.2.2 p z
     . exact hp p z
 have loop:codeAny (model X.prog X.w) X.A (.compLoop (.ListComp elt [⟨target,iter,[],0⟩] scope pos) 0 (.ref it) (.ref D) (compEnv scope G.objs.size X.env))
     (RR (.ref D) (compEnv scope G.objs.size X.env))
     {s2 with heap:=h4,toks:=s2.toks+([]:List (Str×Value)).length}:=by
   refine B7s (fun k s'=>∃i ys H',k=m+1-i/\Inv (X.comp scope N G.objs.size {s2 with heap:=G} (upd H2 D (.lst [])) [it] (X.pn++pins)) [] (List.replicate N.length none) H' s'/\tn i s'.heap/\H' it=none/\W i ys H') ?_ (m+1)
     ⟨0,[],_,rfl,I4,T.keep _ _ _ st2 fun o e=>kp it o (by rw[<-hG];exact Heap.get?_push_of_some _ e),f3.1,w0⟩
   rintro k s5 ⟨i,ys,H5,rfl,I5,st5,n5,w5⟩
   obtain⟨hi5,hD5,w5⟩:=turn i ys H5 w5
   rcases w5 with⟨stop,q⟩|⟨lt5,go,step⟩
   . refine wpAny_mono (T.done (X.comp scope N G.objs.size {s2 with heap:=G} (upd H2 D (.lst [])) [it] (X.pn++pins)) rfl rfl rfl hdc i [] s5 _ H5 (fun _ _=>False) I5 (fpc I5 n5 (by simp)) st5 stop) (fun r s6 z=>?_) (fun _ _ z=>z.elim)
     obtain⟨rfl,I6⟩:=z
     obtain⟨mm,hn6,_⟩:=I6.loc
     have B6:=I6.base
     have J6:Inv X pins σ H5 s6:=by
       refine I3.call' (ch:=[it]) I6.os ⟨B6.keep,B6.slot,B6.free,B6.there,B6.tups,B6.frzs,B6.tbls⟩ I6.hok I6.bare (fun b hb=>?_)
       have e:b=it:=by simpa using hb
       subst e
       exact⟨f2.2.2.2.1,f2.2.1,f2.2.2.2.2.1,f2.2.2.2.2.2⟩
     have szG:X.s₀.heap.objs.size<=G.objs.size:=I3.sz
     refine hRR D G.objs.size s6 H5 mm J6 hn6 ⟨I6.free,?_,?_,.inr szG,?_,?_⟩ q
     . exact Nat.ne_of_gt I3.lt
     . intro z
       obtain⟨_,o,ho,_⟩:=I3.funs.mem z
       exact Nat.lt_irrefl _ (Heap.lt_size ho)
     . rintro x c z rfl
       obtain⟨v',o,ho,_⟩:=I3.cell x _ z
       exact Nat.lt_irrefl _ (Heap.lt_size ho)
     . rintro p hp z
       have zz:=(I3.pin p hp).1
       rw[z] at zz
       exact Nat.lt_irrefl _ (Heap.lt_size zz)
   . refine wpAny_mono (T.item (X.comp scope N G.objs.size {s2 with heap:=G} (upd H2 D (.lst [])) [it] (X.pn++pins)) rfl rfl rfl hdc i [] s5 _ H5 (fun _ _=>False) I5 (fpc I5 n5 (by simp)) st5 go) (fun r s6 z=>?_) (fun _ _ z=>z.elim)
     obtain⟨u,rfl,z⟩:=z
     refine wpAny_mono z (fun _ s7 z=>?_) (fun _ _ z=>z.elim)
     obtain⟨x,I7,rx,yl,st7⟩:=z
     obtain⟨o7,e7,d7⟩:=T.obj _ _ st7
     obtain⟨p0,p1,p2,_⟩:=fpc I7 n5 (by simp)
     have I7':Inv (X.comp scope N G.objs.size {s2 with heap:=G} (upd H2 D (.lst [])) [it] (X.pn++pins)) [(it,o7)] (List.replicate N.length none) H5 s7:=I7.pins_of fun p hp=>by
       have e:p=(it,o7):=by simpa using hp
       subst e
       exact⟨e7,p0,p1,p2,d7⟩
     have back:∀{i':Nat} {ys':List V} {H':Hp} {σ':St} {s':Shared},i'=i+1 ->Inv (X.comp scope N G.objs.size {s2 with heap:=G} (upd H2 D (.lst [])) [it] (X.pn++pins)) [(it,o7)] σ' H' s' ->W i' ys' H' ->
         ∃k',k'<m+1-i/\∃i ys H',k'=m+1-i/\Inv (X.comp scope N G.objs.size {s2 with heap:=G} (upd H2 D (.lst [])) [it] (X.pn++pins)) [] (List.replicate N.length none) H' s'/\tn i s'.heap/\H' it=none/\W i ys H':=by
       rintro i' ys' H' σ' s' rfl J' w'
       obtain⟨q1,q2,_⟩:=J'.pin (it,o7) (List.mem_append_right _ (List.mem_singleton.mpr rfl))
       have jl:σ'.length=N.length:=J'.len
       refine⟨m+1-(i+1),by omega,i+1,ys',H',rfl,Inv.weak (J'.pins_of fun p hp=>absurd hp (by simp)) (by rw[jl];simp) (fun j v z=>?_),T.keep _ _ _ st7 fun o z=>?_,q2,w'⟩
       . rw[List.getElem?_replicate] at z
         split at z<;>cases z
       . rw[e7] at z
         cases z
         exact q1
     refine wpAny_mono (gg [(it,o7)] s7 _ H5 x u _ I7' rx (step x H5 yl)) (fun _ s8 z=>?_) (fun _ _ z=>z.elim)
     obtain⟨σ8,H8,I8,q8⟩:=z
     refine wpAny_mono (ee [(it,o7)] s8 σ8 H8 _ I8 q8) (fun y s10 z=>?_) (fun _ _ z=>z.elim)
     obtain⟨yv,H10,I10,ry,hD10,hz10,w10⟩:=z
     refine wpAny_mono (A3a (X:=X.comp scope N G.objs.size {s2 with heap:=G} (upd H2 D (.lst [])) [it] (X.pn++pins)) [(it,o7)] s10 σ8 H10 (.ref D) [yv] (.ref D) [y] (fun _ H11=>W (i+1) (ys++ [yv]) H11) I10 rfl (.cons ry .nil) ⟨D,ys,yv,rfl,rfl,hD10,hz10,w10⟩) (fun _ s11 z=>?_) (fun _ _ z=>z.elim)
     obtain⟨_,H11,I11,_,w11⟩:=z
     exact back rfl I11 w11
 exact codeAny_compStart_list loop (T.self _ 0 _ _ _ (T.keep _ _ _ st2 fun o e=>kp it o (by rw[<-hG];exact Heap.get?_push_of_some _ e)) loop)
theorem B2v{pins:List (Addr×Obj)}{σ:St}{H:Hp}{s:Shared}{C:Addr}{h':Heap}(I:Inv X pins σ H s)(f:A0s X pins H C)(sb:Heap.SameBut C s.heap h'):Inv X pins σ H {s with heap:=h'}:=
 I.turned (t':=s.toks) (fun b o hb e=>(sb.2 b hb).trans e) f.1 f.2.1 f.2.2.2.1 f.2.2.2.2.1 f.2.2.2.2.2
theorem D0c{elt target iter:Expr}{scope:Scope}{pos:Pos}{N:List Str}{wi:TI}{g:TG}{te:TE}(S:A8a N scope)(hd:V8 X)(hi:PIH X target iter wi)(hex:X.ex=[])
   (hg:∀C s₀ H₀ ex pn,V8 (X.comp scope N C s₀ H₀ ex pn) ->PG (X.comp scope N C s₀ H₀ ex pn) target g)
   (he:∀C s₀ H₀ ex pn,V8 (X.comp scope N C s₀ H₀ ex pn) ->PE (X.comp scope N C s₀ H₀ ex pn) elt te)
   (hs:∀x,foldedSetIterable iter X.env x=pure x:=by intro _;rfl):PE X (.ListComp elt [⟨target,iter,[],0⟩] scope pos) (C8h N.length wi g te):=by
 intro pins s σ H Q I h
 refine wpAny_ListComp S.free S.kind S.loc (B9v S hd hi hex hg he I h (RR:=fun acc ce r s'=>∃m,s'.heap.Ns ce.locals m/\∀h',Heap.SameBut ce.locals s'.heap h' ->match r with
   | .ok _=>EP X pins σ Q acc {s' with heap:=h'}
   | .error x=>wpAny (model X.prog X.w) X.A (passOn "comprehension.variables-let-go" x ce) (EP X pins σ Q) X.xe {s' with heap:=h'}) ?_) hs
 intro D C s6 H5 mm I6 n6 f6 q
 exact⟨mm,n6,fun h' sb=>⟨.ref D,H5,B2v I6 f6 sb,rfl,q⟩⟩
end
section
variable{X:Cx}{a b c:Expr}{ta tb tc:TE}{pos:Pos}
theorem G0:OpR X (binaryOp .Mult) (rI IntMulOk fun i j=> .int (i*j)):=opI fun _ _ _ _ _ _ _ hc q=>mul_int q hc
theorem D7:OpR X (binaryOp .FloorDiv) (rI (fun _ j=>0<j/\j.natAbs.log2<9000) fun i j=> .int (i/j)):=opI fun i j _ _ _ _ _ hc q=>by
 have h1:(0:Int)<j:=hc.1
 exact floordiv_int (by omega) (by rw[Int.fdiv_eq_ediv_of_nonneg i (by omega)];exact q) (.inl (PyProof.noPylong_of_log2 hc.2))
theorem A0r{i:Int}{k:Nat}(h:i.natAbs<2^k)(hk:0<k):i.natAbs.log2<k:=by
 by_cases z:i.natAbs=0
 . rw[z];simpa using hk
 exact(Nat.log2_lt z).mpr h
theorem B1n{i:Int}(h:i.natAbs<2^1000):Builtin.Int.intBits i<=2^20:=by
 unfold Builtin.Int.intBits
 split
 . exact Nat.zero_le _
 have:=A0r h (by decide)
 have e:(2:Nat)^20=1048576:=by decide
 omega
theorem Z3{i j:Int}(h:i.natAbs<2^1000)(h':j.natAbs<2^1000):IntMulOk i j:=IntMulOk.of_bits (B1n h) (B1n h')
inductive TyE(K:Frag)(H:Hp):V ->Value ->Prop where
 |of {x:V} {t:Value} (h:A8b K H x t):TyE K H x t
 |exc {a C t:Addr} {T:Value} {u:HO} (e:H a=some (.frz (Z4 (.ref C) t none T) u)) (k:B5r K C):TyE K H (.ref a) (.ref C)
 |excD {a C t:Addr} {T:Value} {d:Addr} {u:HO} {fs:List (Str×V)} (e:H a=some (.frz (Z4 (.ref C) t (some d) T) u)) (hd:H d=some (.xd fs)) (k:B5r K C):TyE K H (.ref a) (.ref C)
 |tupK {a:Addr} {o:Obj} (l:K.lookup a=some o) (c:o.cls= .type "tuple"):TyE K H (.ref a) (.type "tuple")
theorem B9j{pins:List (Addr×Obj)}{σ:St}{H:Hp}{s:Shared}{A:Around}{E:Value ->Shared ->Prop}{Q:Value ->Shared ->Prop}{c:Value}{b:Bool}{x:V}{u t:Value}(I:Inv X pins σ H s)(rx:V0 x u)(ty:TyE X.K H x t)
   (e:kitOne X.K t c=some b) (h:∀tk,Q (.bool b) {s with toks:=tk}):wpAny (model X.prog X.w) A (call (.builtin "isinstance") [u,c]) Q E s:=by
 cases ty with
 |of h'=>exact C5h I rx h' e h
 | exc ea k=>
   cases rx
   rename_i a C t0 T u0
   have o1:s.heap.get? a=some (Z4 (.ref C) t0 none T):=(I.hok a _ ea).1
   refine kia_one (H:=fun h=>PySem.W.InstAt h a (Z4 (.ref C) t0 none T) C none) ?_ I.kIn ⟨o1,rfl,rfl,trivial⟩ e (fun z=>nomatch z) h
   refine⟨fun M h _ J=>J.type,fun M h K _=>A3x K k.cl,fun h tp dd its n sl K htp=>?_,fun K J q=>A4k k K J q⟩
   refine Bool.eq_false_iff.mpr fun q=>?_
   have e:C=tp:=Value.ref.inj (beq_iff_eq.mp q)
   subst e
   have z:=k.cl
   unfold clsIn at z
   split at z
   . rename_i ho
     have y:=(K _ _ ho).symm.trans htp
     cases y
   . cases z
 | tupK l c=>
   cases rx
   exact PySem.W.kia_one PySem.W.kitx_tuple I.kIn ⟨_,I.kIn _ _ l,c⟩ e (fun z=>nomatch z) h
 | excD ea hd k=>
   cases rx
   rename_i a C t0 T d u0 fs
   have o1:s.heap.get? a=some (Z4 (.ref C) t0 (some d) T):=(I.hok a _ ea).1
   obtain⟨mA,nA,_⟩:=(show∃mA,s.heap.Ns1 d mA/\∀f,A4b (fs.lookup f) (mA f) from I.hok d _ hd)
   obtain⟨od,o2,_⟩:=A7m nA
   refine kia_one (H:=fun h=>PySem.W.InstAt h a (Z4 (.ref C) t0 (some d) T) C (some od)) ?_ I.kIn ⟨o1,rfl,rfl,o2⟩ e (fun z=>nomatch z) h
   refine⟨fun M h _ J=>J.type,fun M h K _=>A3x K k.cl,fun h tp dd its n sl K htp=>?_,fun K J q=>A4k k K J q⟩
   refine Bool.eq_false_iff.mpr fun q=>?_
   have e:C=tp:=Value.ref.inj (beq_iff_eq.mp q)
   subst e
   have z:=k.cl
   unfold clsIn at z
   split at z
   . rename_i ho
     have y:=(K _ _ ho).symm.trans htp
     cases y
   . cases z
noncomputable def D8j:V ->Option Value
 | .ty n=>some (.type n)
 | .ref a=>some (.ref a)
 |_=>none
theorem B6c:A1n X (.builtin "isinstance") (fun xs H Q=>∃x c cv t b,xs=[x,c]/\D8j c=some cv/\TyE X.K H x t/\kitOne X.K t cv=some b/\Q (.bl b) H):=by
 intro pins s σ H xs us Q I r h
 obtain⟨x,c,cv,t,b,rfl,hc,ty,e,q⟩:=h
 obtain⟨u,v,rfl,ru,rv⟩:=G7.two r
 have:v=cv:=by
   cases c<;>simp only[D8j] at hc<;>first|(cases hc;exact rv)|cases hc
 subst this
 exact B9j I ru ty e fun tk=>⟨.bl b,H,I.tok tk,rfl,q⟩
mutual
inductive RdD(K:Frag)(H:Hp):V ->PyData ->Prop where
 |non:RdD K H .non .none
 |bl (b:Bool):RdD K H (.bl b) (.bool b)
 |int (i:Int):RdD K H (.int i) (.int i)
 |str (x:Str):RdD K H (.str x) (.str x)
 |tup {a:Addr} {xs:List V} {ds:List PyData} (h:SqT K H a xs) (r:B2a K H xs ds):RdD K H (.ref a) (.tuple ds)
 |lst {a:Addr} {xs:List V} {ds:List PyData} (h:SqL K H a xs) (r:B2a K H xs ds):RdD K H (.ref a) (.list ds)
inductive B2a(K:Frag)(H:Hp):List V ->List PyData ->Prop where
 |nil:B2a K H [] []
 |cons {x:V} {xs:List V} {d:PyData} {ds:List PyData} (h:RdD K H x d) (r:B2a K H xs ds):B2a K H (x::xs) (d::ds)
end
mutual
theorem RdD.reads{pins:List (Addr×Obj)}{σ:St}{H:Hp}{s:Shared}(I:Inv X pins σ H s):∀{x:V} {d:PyData} {u:Value},RdD X.K H x d ->V0 x u ->∃as,Reads s.heap u d as
 |_,_,_,.non,r=>by cases r;exact⟨_,.none⟩
 |_,_,_,.bl b,r=>by cases r;exact⟨_,.bool b⟩
 |_,_,_,.int i,r=>by obtain⟨t,rfl⟩:=r;exact⟨_,.int i t⟩
 |_,_,_,.str x,r=>by obtain⟨t,rfl⟩:=r;exact⟨_,.str x t⟩
 | _,_,_,.tup h q,r=>by
   cases r
   obtain⟨its,rv,⟨o,e,c,n,d⟩,_⟩:=I.tuple h
   obtain⟨as,z⟩:=B2a.reads I q rv
   exact⟨_,reads_tuple_at e c d (by simpa using z)⟩
 | _,_,_,.lst h q,r=>by
   cases r
   obtain⟨its,rv,p,_⟩:=I.list h
   obtain⟨o,e,c,n,d⟩:=p.isList
   obtain⟨as,z⟩:=B2a.reads I q rv
   exact⟨_,reads_list_at e c d (by simpa using z)⟩
theorem B2a.reads{pins:List (Addr×Obj)}{σ:St}{H:Hp}{s:Shared}(I:Inv X pins σ H s):∀{xs:List V} {ds:List PyData} {us:List Value},B2a X.K H xs ds ->G7 xs us ->∃as,ReadsAll s.heap us ds as
 |_,_,_,.nil,r=>by cases r;exact⟨_,.nil⟩
 | _,_,_,.cons h q,r=>by
   cases r with
   | cons r1 r2=>
     obtain⟨as,z⟩:=RdD.reads I h r1
     obtain⟨bs,y⟩:=B2a.reads I q r2
     exact⟨_,.cons z y⟩
end
noncomputable def G1x (K:Frag) (n:Bool):R2:=fun x y H Q=>∃d e,RdD K H x d/\RdD K H y e/\SeqAt.shaped d=true/\SeqAt.shaped e=true/\Q (.bl (if n then !PyData.eqv d e else PyData.eqv d e)) H
theorem C5y(hu:X.A.units+64<cLine):OpR X (compareOp .Eq) (G1x X.K false):=by
 intro pins s σ H x y v u Q I rx ry q
 obtain⟨d,e,hx,hy,sd,se,q⟩:=q
 obtain⟨as,z⟩:=hx.reads I rx
 obtain⟨bs,z'⟩:=hy.reads I ry
 exact eq_dataH z z' sd se hu ⟨.bl (PyData.eqv d e),H,I,rfl,q⟩
theorem B8f(hu:X.A.units+64<cLine):OpR X (compareOp .NotEq) (G1x X.K true):=by
 intro pins s σ H x y v u Q I rx ry q
 obtain⟨d,e,hx,hy,sd,se,q⟩:=q
 obtain⟨as,z⟩:=hx.reads I rx
 obtain⟨bs,z'⟩:=hy.reads I ry
 exact ne_dataH z z' sd se hu ⟨.bl (!PyData.eqv d e),H,I,rfl,q⟩
inductive B8b(X:Cx):Expr ->TE ->Prop where
 |lit {x:Str} {j:Nat} {pos:Pos}:B8b X (.Constant (.str x) j pos) (tC (.str x))
 |int {v:Expr} {tv:TE} {pos:Pos} (h:PE X v tv):B8b X (.FormattedValue v (-1) none pos) (fun σ H Q=>tv σ H fun y H1=>∃i,y= .int i/\i.natAbs.log2<1920/\Q (.str (toString i)) H1)
theorem B8b.pe{e:Expr}{t:TE}(h:B8b X e t):PE X e t:=by
 cases h with
 |lit=>exact C9
 | int h=>
   intro pins s σ H Q I q
   refine FormattedValue_plain (thn (h pins s σ H _ I q) fun u s1 hh_=>?_)
   obtain⟨y,H1,I1,r,i,e,l,q⟩:=hh_
   subst e
   obtain⟨t,rfl⟩:=r
   exact formatField_int_small l ⟨.str (toString i),H1,I1.tok _,⟨_,rfl⟩,q⟩
inductive A8c(X:Cx):List Expr ->(Str ->TE) ->Prop where
 |nil:A8c X [] (fun out _ H Q=>out.length<=sizeLine/\Q (.str out) H)
 |cons {e:Expr} {es:List Expr} {t:TE} {r:Str ->TE} (h:B8b X e t) (hr:A8c X es r):A8c X (e::es) (fun out σ H Q=>t σ H fun x H1=>∃y,x= .str y/\(out++y).length<=sizeLine/\r (out++y) σ H1 Q)
theorem A8c.run{es:List Expr}{t:Str ->TE}(h:A8c X es t):∀(out:Str) (pins:List (Addr×Obj)) (s:Shared) (σ:St) (H:Hp) (Q:VK),Inv X pins σ H s ->t out σ H Q ->
   wpAny (model X.prog X.w) X.A (joinParts out (evalEach es X.env)) (EP X pins σ Q) X.xe s:=by
 induction h with
 | nil=>
   intro out pins s σ H Q I q
   exact joinParts_nil ⟨.str out,H,I.tok _,⟨_,rfl⟩,q.2⟩ q.1
 | @cons e es t r h hr ih=>
   intro out pins s σ H Q I q
   show wpAny _ _ (joinParts out (eval e X.env::evalEach es X.env)) _ _ _
   refine joinParts_cons (thn (h.pe pins s σ H _ I q) fun u s1 hh_=>?_)
   obtain⟨x,H1,I1,rx,y,ey,z,q⟩:=hh_
   subst ey
   obtain⟨t',rfl⟩:=rx
   exact⟨z,ih _ pins s1 σ H1 Q I1 q⟩
theorem C1n{e1 e2:Expr}{es:List Expr}{t:Str ->TE}{pos:Pos}(h:A8c X (e1::e2::es) t):PE X (.JoinedStr (e1::e2::es) pos) (t Str.empty):=by
 intro pins s σ H Q I q
 exact JoinedStr_many (h.run _ pins s σ H Q I q)
end
structure V5(k:Nat)(A:Around):Prop where
 dp:A.depth+3*k+5<recursionLimit
 un:A.units+16*k+200<cLine
theorem A0h.h{k:Nat}{A:Around}(r:A0h k A):V5 k A:=⟨r.dp,r.un⟩
theorem A0h.hm{k:Nat}{A:Around}(r:A0h k A)(h:Option Value):V5 k (A.mark h):=⟨r.dp,r.un⟩
theorem V5.mono{j k:Nat}{A:Around}(r:V5 k A)(h:j<=k):V5 j A:=⟨by have:=r.dp;omega,by have:=r.un;omega⟩
theorem V5.deeper{k:Nat}{A:Around}(r:V5 (k+1) A)(env:Env):V5 k (A.deeper env):=
 ⟨by have:=r.dp;show A.depth+1+3*k+5<_;omega,by have:=r.un;show A.units+3+16*k+200<_;omega⟩
theorem V5.u64{k:Nat}{A:Around}(r:V5 k A):A.units+64<cLine:=by have:=r.un;omega
theorem V5.depth{k:Nat}{A:Around}(r:V5 k A):A.depth<recursionLimit:=by have:=r.dp;omega
noncomputable def HdH (A:Around) (H:Hp):Prop:=A.handled=none\/∃x o u vs,A.handled=some (.ref x)/\H x=some (.frz o u)/\o.data= .fields vs/\vs[2]?=some .none
structure B3w(P:Program)(w:World)(K:Frag)(mg:Str ->Option Value)(base:Heap)(k:Nat)(f:Addr)(fd:FuncData)(ps:List Str)(sp:Sp):Prop where
 len:∀vs H Q E,sp vs H Q E ->vs.length=ps.length
 run:∀(A:Around) (outer:List Env) (s:Shared) (H:Hp) (args:Args) (us:List Value) (vs:List V) (Q:VK),V5 k A ->A9b P w K mg base A outer s H ->HdH A H ->BindsTo s fd args (ps.zip us) ->G7 vs us ->sp vs H Q E0 ->
   codeAny (model P w) A (.call (.ref f) args) (CR CX0 outer P w H s Q E0) s
theorem Inv.loud{X:Cx}{pins:List (Addr×Obj)}{σ:St}{H:Hp}{s:Shared}{A:Around}{E:Value ->Shared ->Prop}(hA:A.frames=X.A.frames)(I:Inv X pins σ H s):Inv {X with A:=A,calm:=false,xe:=E} pins σ H s:=
 ⟨⟨I.ok.mod,I.ok.kind,I.ok.glob,I.ok.blt,I.ok.above,I.ok.inj,I.ok.has,I.ok.cab,(fun z=>nomatch z),hA.trans I.ok.frames,I.ok.stk,I.ok.exf,I.ok.bs,I.ok.bsz,I.ok.noex,I.ok.exfs,I.ok.funs,I.ok.frf⟩,
   I.os,I.bare,I.base,I.loc,I.cell,I.free,I.freeC,I.pin,I.hok,I.len⟩
noncomputable abbrev quiet (A:Around):Around:={A with handled:=none}
theorem A9b.quiet{P:Program}{w:World}{K:Frag}{mg:Str ->Option Value}{base:Heap}{A:Around}{outer:List Env}{s:Shared}{H:Hp}(e:A9b P w K mg base A outer s H):A9b P w K mg base (quiet A) outer s H:=
 ⟨e.frames,e.mod,e.bs,e.bsz,e.funs,e.frf,e.hok,e.bare⟩
section
variable{P:Program}{w:World}{K:Frag}{mg:Str ->Option Value}{base:Heap}
end
section
variable{X:Cx}{k:Nat}{f:Addr}{fd:FuncData}{ps:List Str}{sp:Sp}{x:Str}{p pos:Pos}{e:Expr}{es:List Expr}{t:TA}
noncomputable def B4s (A:Around) (sp:Sp) (t:TA):TE:=fun σ H Q=>t σ H fun vs H1=>HdH A H1/\sp vs H1 Q E0
theorem C7a(F:B3w X.prog X.w X.K X.mg X.base k f fd ps sp)(hr:V5 k X.A)(hg:Gl X x)(hm:X.mg x=some (.ref f))(hk:PySem.W.keepIn X.K (.ref f)=true)(hb:V4 X.K fd ps [])
   (ha:PA X (e::es) t) (hdb:(x==("__debug__":Str))=false:=by decide) (he:starEach (e::es) X.env=(false,eval e X.env)::starEach es X.env:=by rfl)
   (hpl:(backTo pos (starEach es X.env)).any (·.1)=false:=by rfl):PE X (.Call (.Name x p) (e::es) [] pos) (B4s X.A sp t):=by
 intro pins s σ H Q I h
 refine wpAny_Call_Name_kw (Z1 I hg hm ?_ hdb)
 refine PySem.W.callWith_K (h₀:=X.base) I.ok.mod.kin hk (thn (ha pos pins s σ H _ I h) fun us s1 ⟨vs,H1,I1,r,hd,q⟩=>⟨I1.kIn,?_⟩) he hpl
 have hl:(us++ []).length=ps.length:=by rw[List.append_nil, <-r.length];exact F.len _ _ _ _ q
 have hb':=hb s1 us I1.kIn hl
 rw[List.append_nil] at hb'
 refine wpAny_call (codeAny_mono (F.run X.A X.stack s1 H1 ⟨us,[]⟩ us vs Q hr I1.env0 hd hb' r q) fun r s' hq=>?_)
 cases r with
 |error e=>exact False.elim hq
 | ok fl=>
   cases fl with
   |ret u=>exact I1.after hq
   |next=>exact False.elim hq
   |brk=>exact False.elim hq
   |cont=>exact False.elim hq
end
theorem Inv.big{X:Cx}{pins:List (Addr×Obj)}{σ:St}{H:Hp}{s:Shared}(I:Inv X pins σ H s):sysModules<s.heap.objs.size:=by
 have h:mainGlobals<s.heap.objs.size:=(I.mod.glob.keeps I.bk).lt
 exact Nat.lt_trans (by decide) h
theorem C8a{P:Program}{w:World}{H:Hp}(h:Heap)(hb:sysModules<h.objs.size):Y7 P w H (h.push {cls:= .type "dict",data:= .dict #[]}) h.objs.size (.dK []):=
 ⟨Nat.zero_le _,beq_eq_false_iff_ne.mpr (Ne.symm (Nat.ne_of_lt hb)),[],.nil,Heap.DictOf.new h⟩
noncomputable def G1g:TE:=fun _ H Q=>∀p,H p=none ->Q (.ref p) (upd H p (.dK []))
theorem B1u{X:Cx}{pos:Pos}:PE X (.Dict [] [] pos) G1g:=fun pins s σ H Q I h=>
 wpAny_Dict_empty ⟨.ref s.heap.objs.size,_,I.laid (a:=s.heap.objs.size) (o:= .dK []) (t':=s.toks) (fun _ _ q=>Heap.get?_push_of_some _ q) (Nat.le_refl _) (C8a s.heap I.big),rfl,h _ (I.hok.fresh (Nat.le_refl _))⟩
noncomputable abbrev EKF:EK:=fun _ _ _ _=>False
theorem A2b{X:Cx}:V3 X EKF:=fun _ _ _ _ _ _ _ _ _ _ h=>h.elim
structure Def(K:Frag)(mg:Str ->Option Value)(x:Str)(ps:List Str)(st:Stmt)(f:Addr)(fd:FuncData):Prop where
 F:Fun K x x st f fd
 g:mg x=some (.ref f)
 b:V4 K fd ps []
theorem A4n{K:Frag}{h:Heap}{mg:Str ->Option Value}{x:Str}{ps:List Str}{st:Stmt}{f:Addr}{oc:Value}{od an:Option Addr}{osl:Array (Option Value)}{kV doc pm cdv ct:Value}(X:K.In h)(G:h.Ns mainGlobals mg)
   (a:nsIn K mainGlobals x=some (some (.ref f))) (l:K.lookup f=some ⟨oc,od,.func (fnOf x x (U3 st) (J9 st) (A5 st) .none kV doc pm an cdv ct),osl⟩) (c:codeIn K cdv x=true) (k:keepIn K (.ref f)=true)
   (hb:∀(kV doc pm:Value) (an:Option Addr) (cdv ct:Value) (us:List Value),us.length=ps.length ->bindArgs (fnOf x x (U3 st) (J9 st) (A5 st) .none kV doc pm an cdv ct) ⟨us,[]⟩=pure (ps.zip us)):
   Def K mg x ps st f (fnOf x x (U3 st) (J9 st) (A5 st) .none kV doc pm an cdv ct):=
 ⟨A2s (st:=st) l c k,mg_of X G a,(A2s (st:=st) l c k).binds hb⟩
theorem G5{c A B:Prop} [Decidable c] (h:¬c) (b:B):if decide c=true then A else B:=by rw[decide_eq_false h];exact V9 b
theorem A0k{c A B:Prop} [Decidable c] (h:c) (a:A):if decide c=true then A else B:=by rw[decide_eq_true h];exact Z7 a
theorem U8{c A B:Prop} [Decidable c] (a:c ->A) (b:¬c ->B):if decide c=true then A else B:=by
 by_cases h:c
 . exact A0k h (a h)
 exact G5 h (b h)
noncomputable def G4f (t:TS):TS:=fun D σ H=>∃J:St ->Hp ->Prop,t {D with nx:=J} σ H/\∀σ' H',J σ' H' ->D.nx σ' H'
theorem B0{X:Cx}{st:Stmt}{t:TS}(h:PS X st t):PS X st (G4f t):=by
 intro pins s σ H D I q
 obtain⟨J,q,k⟩:=q
 refine thn (h pins s σ H _ I q) fun f s' z=>?_
 cases f with
 |next=>obtain⟨σ',H',I',y⟩:=z;exact⟨σ',H',I',k _ _ y⟩
 |brk=>exact z
 |cont=>exact z
 |ret u=>exact z
theorem ixs{xs:List Int}{i:Int}(h0:0<=i)(h1:i<xs.length):∃v,v∈xs/\atI (xs.map V.int) i=some (.int v):=by
 obtain⟨j,rfl⟩:=Int.eq_ofNat_of_zero_le h0
 have hj:j<xs.length:=by omega
 exact⟨xs[j],List.getElem_mem hj,Y0 (by simp[hj])⟩
theorem ixv{xs:List V}{i:Int}(h0:0<=i)(h1:i<xs.length):∃v,v∈xs/\atI xs i=some v:=by
 obtain⟨j,rfl⟩:=Int.eq_ofNat_of_zero_le h0
 have hj:j<xs.length:=by omega
 exact⟨xs[j],List.getElem_mem hj,Y0 (by simp[hj])⟩
theorem B7.upd{H:Hp}{p:Addr}{o:HO}(h:H p=none):B7 H (L2.upd H p o):=fun b u e=>by rw[C7 (D9 e h)];exact e
theorem D0{n:Nat}(h:n<=1000):n<=sizeLine:=Nat.le_of_lt (A0v h)
section
variable{X:Cx}{k j:Nat}{f:Addr}{fd:FuncData}{ps:List Str}{sp:Sp}{EH:EK}{x:Str}{st:Stmt}{p pos:Pos}{e:Expr}{es:List Expr}{t:TA}
theorem U9(D:Def X.K X.mg x ps st f fd)(F:G8 X.prog X.w X.K X.mg X.base (CX1 X.prog X.w) j f fd ps sp)(hr:A0h k X.A)(hx:V3 X EH)(ha:PA X (e::es) t)(hj:j<=k:=by decide)(hg:Gl X x:=by rfl)(hex:X.ex=[]:=by rfl)(hdb:(x==("__debug__":Str))=false:=by decide)
   (he:starEach (e::es) X.env=(false,eval e X.env)::starEach es X.env:=by rfl) (hpl:(backTo pos (starEach es X.env)).any (·.1)=false:=by rfl):PE X (.Call (.Name x p) (e::es) [] pos) (A2r sp [] EH t):=
 C6h (F.mono hj) hr hg D.g D.F.kp D.b .nil hx ha hex hdb he hpl
theorem G0t(D:Def X.K X.mg x ps st f fd)(F:G8 X.prog X.w X.K X.mg X.base (CX1 X.prog X.w) j f fd ps sp)(hr:A0h k X.A)(hx:V3 X EH)(hj:j<=k:=by decide)(hg:Gl X x:=by rfl)(hex:X.ex=[]:=by rfl)(hdb:(x==("__debug__":Str))=false:=by decide):
   PE X (.Call (.Name x p) [] [] pos) (A2r sp [] EH B4q):=
 C4y (F.mono hj) hr hg D.g D.F.kp D.b .nil hx hex hdb
theorem pty{n:Str}{T:String}(hm:X.mg n=none)(hv:bootBuiltins n=some (.type T))(hg:Gl X n:=by rfl)(hn:n≠"__name__":=by decide)(hdb:(n==("__debug__":Str))=false:=by decide):PE X (.Name n pos) (tC (.ty T)):=D7d hg hm hv rfl hn hdb
theorem A7c{n:Str}{C:Addr}(hm:X.mg n=some (.ref C))(hg:Gl X n:=by rfl)(hdb:(n==("__debug__":Str))=false:=by decide):PE X (.Name n pos) (tC (.ref C)):=D8e hg hm rfl hdb
theorem A8y{a b:Expr}{ta tb:TE}(hm:X.mg "isinstance"=none)(ha:PE X a ta)(hb:PE X b tb)(hg:Gl X "isinstance":=by rfl)
   (h1:starEach [a,b] X.env=(false,eval a X.env)::starEach [b] X.env:=by rfl) (h2:starEach [b] X.env=(false,eval b X.env)::starEach [] X.env:=by rfl) (h3:(backTo pos (starEach [b] X.env)).any (·.1)=false:=by rfl):
   PE X (.Call (.Name "isinstance" p) [a,b] [] pos) (tCB (fun xs H Q=>∃x c cv t b,xs=[x,c]/\D8j c=some cv/\TyE X.K H x t/\kitOne X.K t cv=some b/\Q (.bl b) H) (B6e ta (B6e tb B4q))):=
 Y3 B6c hg hm boot_isinstance (A0 ha (A0 hb A4 h2) h1) (he:=h1) (hpl:=h3)
theorem A8n{K:Frag}{a b:Expr}{ta tb:TE}(hK:X.K=K)(hm:X.mg "isinstance"=none)(ha:PE X a ta)(hb:PE X b tb)(hg:Gl X "isinstance":=by rfl)
   (h1:starEach [a,b] X.env=(false,eval a X.env)::starEach [b] X.env:=by rfl) (h2:starEach [b] X.env=(false,eval b X.env)::starEach [] X.env:=by rfl) (h3:(backTo pos (starEach [b] X.env)).any (·.1)=false:=by rfl):
   PE X (.Call (.Name "isinstance" p) [a,b] [] pos) (tCB (fun xs H Q=>∃x c cv t b,xs=[x,c]/\D8j c=some cv/\TyE K H x t/\kitOne K t cv=some b/\Q (.bl b) H) (B6e ta (B6e tb B4q))):=by
 subst hK
 exact A8y hm ha hb hg h1 h2 h3
theorem D9w(D:Def X.K X.mg x ps st f fd)(F:B3w X.prog X.w X.K X.mg X.base j f fd ps sp)(hr:V5 k X.A)(ha:PA X (e::es) t)(hj:j<=k:=by decide)(hg:Gl X x:=by rfl)(hdb:(x==("__debug__":Str))=false:=by decide)
   (he:starEach (e::es) X.env=(false,eval e X.env)::starEach es X.env:=by rfl) (hpl:(backTo pos (starEach es X.env)).any (·.1)=false:=by rfl):PE X (.Call (.Name x p) (e::es) [] pos) (B4s X.A sp t):=
 C7a ⟨F.len,fun A outer s H args us vs Q hr=>F.run A outer s H args us vs Q (hr.mono hj)⟩ hr hg D.g D.F.kp D.b ha hdb he hpl
end
section
variable{X:Cx}{k j:Nat}{f:Addr}{fd:FuncData}{ps:List Str}{sp:Sp}{x:Str}{st:Stmt}{p pos:Pos}{e:Expr}{es:List Expr}{t:TA}
noncomputable def B4c (a:Addr) (sp:Sp) (t:TA):TE:=fun σ H Q=>t σ H fun vs H1=>(∃o u fs,H1 a=some (.frz o u)/\o.data= .fields fs/\fs[2]?=some .none)/\sp vs H1 Q E0
theorem C1t{a:Addr}(hA:X.A.handled=some (.ref a))(D:Def X.K X.mg x ps st f fd)(F:B3w X.prog X.w X.K X.mg X.base j f fd ps sp)(hr:V5 k X.A)(ha:PA X (e::es) t)(hj:j<=k:=by decide)(hg:Gl X x:=by rfl)(hdb:(x==("__debug__":Str))=false:=by decide)
   (he:starEach (e::es) X.env=(false,eval e X.env)::starEach es X.env:=by rfl) (hpl:(backTo pos (starEach es X.env)).any (·.1)=false:=by rfl):PE X (.Call (.Name x p) (e::es) [] pos) (B4c a sp t):=by
 have z:B4c a sp t=B4s X.A sp t:=by
   funext σ H Q
   unfold B4c B4s
   congr 1
   funext vs H1
   refine propext ⟨fun⟨⟨o,u,fs,h1,h2,h3⟩,q⟩=>⟨.inr ⟨a,o,u,fs,hA,h1,h2,h3⟩,q⟩,fun⟨h,q⟩=>⟨?_,q⟩⟩
   rcases h with h|⟨x,o,u,fs,h0,h1,h2,h3⟩
   . rw[hA] at h;cases h
   . rw[hA] at h0;cases h0;exact⟨o,u,fs,h1,h2,h3⟩
 rw[z]
 exact D9w D F hr ha hj hg hdb he hpl
theorem D6h{K:Frag}(hK:X.K=K)(hu:X.A.units+64<cLine):OpR X (compareOp .NotEq) (G1x K true):=by subst hK;exact B8f hu
end
structure Mk0(K:Frag)(C:Addr):Prop where
 makes:makesIn K C=true
 init:findIn K (.ref C) "__init__"=some (some (.builtin "object.__init__"))
 kp:keepIn K (.ref C)=true
section
variable{X:Cx}{k j:Nat}{f C:Addr}{fd:FuncData}{ps:List Str}{sp:Sp}{dvs:List V}{ds:List Value}{EH:EK}{x m:Str}{p pos apos:Pos}{e o:Expr}{es:List Expr}{ta:TE}{t:TA}
noncomputable def G2a (C:Addr):TE:=fun _ H Q=>∀x dx,H x=none ->H dx=none ->dx≠x ->Q (.ref x) (upd (upd H dx (.own x)) x (.ins C dx []))
theorem D7t{pins:List (Addr×Obj)}{σ:St}{H:Hp}{s:Shared}{Q:VK}(M:Mk0 X.K C)(I:Inv X pins σ H s)(h:G2a C σ H Q):wpAny (model X.prog X.w) X.A (call (.ref C) []) (EP X pins σ Q) X.xe s:=by
 have hq:=h (s.heap.objs.size+1) s.heap.objs.size (I.hok.fresh (Nat.le_succ _)) (I.hok.fresh (Nat.le_refl _)) (Nat.ne_of_lt (Nat.lt_succ_self _))
 have I2:=Inv.made (C:=C) I
 have Y:=makes_of (M:=model X.prog X.w) I.kIn M.makes
 refine wpAny_call (C5s I.kIn M.makes M.init (fun self=>Looks.of_pure (oi_bind self)) ?_)
 have e2:((s.heap.push emptyDict).push (instObj C s.heap.objs.size)).get? (s.heap.objs.size+1)=some (instObj C s.heap.objs.size):=by
   have:=Heap.get?_push_size (s.heap.push emptyDict) (o:=instObj C s.heap.objs.size) rfl
   rwa[Heap.size_push] at this
 have t1:Looks (model X.prog X.w) ((s.heap.push emptyDict).push (instObj C s.heap.objs.size)) (typeOf (.ref (s.heap.objs.size+1))) (.ref C):=(Looks.ld e2).andThen .now
 have t2:Looks (model X.prog X.w) ((s.heap.push emptyDict).push (instObj C s.heap.objs.size)) (isInstance (.ref (s.heap.objs.size+1)) (.type "object")) true:=t1.andThen (Y.top.keeps fun b o e=>Heap.get?_push_of_some _ (Heap.get?_push_of_some _ e))
 refine codeAny_call_builtin oi_plain entry_oi (@check_slot (model X.prog X.w) _ _ _ "object.__init__" "object" "__init__" (.ref (s.heap.objs.size+1)) [] [] _ oi_kind oi_split t2 (oi_args (.ref (s.heap.objs.size+1))) ?_)
 rw[oi_run]
 exact wpAny_pure (And.intro rfl ⟨V.ref (s.heap.objs.size+1),_,I2,rfl,hq⟩)
theorem A4q(M:Mk0 X.K C)(hg:Gl X x)(hm:X.mg x=some (.ref C))(hdb:(x==("__debug__":Str))=false:=by decide):PE X (.Call (.Name x p) [] [] pos) (G2a C):=by
 intro pins s σ H Q I h
 refine wpAny_Call_Name_kw (Z1 I hg hm ?_ hdb)
 exact callWith_K0 I.kIn M.kp (D7t M I h)
noncomputable def B5h (C:Addr) (m:Str) (sp:Sp) (dvs:List V) (EH:EK) (ta:TE) (t:TA):TE:=fun σ H Q=>ta σ H fun x H1=>∃a dx fs,x= .ref a/\H1 a=some (.ins C dx fs)/\fs.lookup m=none/\
 t σ H1 fun vs H2=>sp (x::(vs++dvs)) H2 Q (fun C d H'=>EH C d σ H')
theorem G4g{pl:Sem Bool}(he:PE X o ta)(c:Cls X.K C)(hm:A5v X.K C m f)(F:G8 X.prog X.w X.K X.mg X.base (CX1 X.prog X.w) j f fd ps sp)(hr:A0h k X.A)(hb:V4 X.K fd ps ds)(hd:G7 dvs ds)(hx:V3 X EH)(ha:PA X (e::es) t)
   (hj:j<=k:=by decide) (hex:X.ex=[]:=by rfl)
   (hst:starEach (e::es) X.env=(false,eval e X.env)::starEach es X.env:=by rfl) (hpl:(backTo pos (starEach es X.env)).any (·.1)=false:=by rfl)
   (ht:eval (.Call (.Attribute o m apos) (e::es) [] pos) X.env=(do
     let ov<-eval o X.env
     standAt apos.atName
     let(f,first)<-holding [ov] (getMethod ov m pl)
     callWith pos f first (backTo pos (starEach (e::es) X.env)) (backToKw pos (keywordEach [] X.env))):=by rfl):
   PE X (.Call (.Attribute o m apos) (e::es) [] pos) (B5h C m sp dvs EH ta t):=by
 intro pins s σ H Q I h
 refine methodCall_KW (pl:=pl) (thn (he pins s σ H _ I h) fun u s1 hh_=>?_) ht
 obtain⟨x,H1,I1,rx,a,dx,fs,ex,ea,l,q⟩:=hh_
 subst ex
 obtain rfl:u=Value.ref a:=rx
 refine A1y I1 ea c hm l ?_
 refine callWith_K (first:=[.ref a]) (h₀:=X.base) I.ok.mod.kin hm.kp (thn (ha pos pins s1 σ H1 _ I1 q) fun us s2 ⟨vs,H2,I2,r,q2⟩=>⟨I2.kIn,?_⟩) hst hpl
 exact A9r (us:= .ref a::us) (vs:= .ref a::vs) (F.mono hj) hr hb hd hx hex I2 (.cons rfl r) q2
theorem B9k{pl:Sem Bool}(he:PE X o ta)(c:Cls X.K C)(hm:A5v X.K C m f)(F:G8 X.prog X.w X.K X.mg X.base (CX1 X.prog X.w) j f fd ps sp)(hr:A0h k X.A)(hb:V4 X.K fd ps ds)(hd:G7 dvs ds)(hx:V3 X EH)
   (hj:j<=k:=by decide) (hex:X.ex=[]:=by rfl)
   (ht:eval (.Call (.Attribute o m apos) [] [] pos) X.env=(do
     let ov<-eval o X.env
     standAt apos.atName
     let(f,first)<-holding [ov] (getMethod ov m pl)
     callWith pos f first (backTo pos (starEach [] X.env)) (backToKw pos (keywordEach [] X.env))):=by rfl):
   PE X (.Call (.Attribute o m apos) [] [] pos) (B5h C m sp dvs EH ta B4q):=by
 intro pins s σ H Q I h
 refine methodCall_KW (pl:=pl) (thn (he pins s σ H _ I h) fun u s1 hh_=>?_) ht
 obtain⟨x,H1,I1,rx,a,dx,fs,ex,ea,l,q⟩:=hh_
 subst ex
 obtain rfl:u=Value.ref a:=rx
 refine A1y I1 ea c hm l ?_
 exact callWith_K0 (first:=[.ref a]) I1.kIn hm.kp (A9r (us:=[.ref a]) (vs:=[.ref a]) (F.mono hj) hr hb hd hx hex I1 (.cons rfl .nil) q)
noncomputable def C7s (C:Addr) (sp:Sp) (dvs:List V) (EH:EK) (t:TA):TE:=fun σ H Q=>t σ H fun vs H1=>∀x dx,H1 x=none ->H1 dx=none ->dx≠x ->
 sp (.ref x::(vs++dvs)) (upd (upd H1 dx (.own x)) x (.ins C dx [])) (fun v H2=>v= .non/\Q (.ref x) H2) (fun C d H'=>EH C d σ H')
end
theorem D5v{n:Nat}(h:n<=sizeLine):Builtin.Str.tooLong n=false:=by
 unfold Builtin.Str.tooLong
 exact decide_eq_false (by omega)
section
variable{X:Cx}
end
structure D0g(K:Frag)(x qual:Str)(st:Stmt)(dV:Value)(f:Addr)(fd:FuncData):Prop where
 ex:∃(oc:Value) (od:Option Addr) (kV doc pm:Value) (an:Option Addr) (cdv ct:Value) (osl:Array (Option Value)),
   fd=fnOf x qual (U3 st) (J9 st) (A5 st) dV kV doc pm an cdv ct/\K.lookup f=some ⟨oc,od,.func fd,osl⟩/\codeIn K cdv qual=true
 kp:keepIn K (.ref f)=true
section
variable{P:Program}{w:World}{K:Frag}{mg:Str ->Option Value}{base:Heap}
theorem C0w{x qual:Str}{st:Stmt}{dV:Value}{f:Addr}{oc:Value}{od an:Option Addr}{osl:Array (Option Value)}{kV doc pm cdv ct:Value}(l:K.lookup f=some ⟨oc,od,.func (fnOf x qual (U3 st) (J9 st) (A5 st) dV kV doc pm an cdv ct),osl⟩)
   (c:codeIn K cdv qual=true) (k:keepIn K (.ref f)=true):D0g K x qual st dV f (fnOf x qual (U3 st) (J9 st) (A5 st) dV kV doc pm an cdv ct):=⟨⟨oc,od,kV,doc,pm,an,cdv,ct,osl,rfl,l,c⟩,k⟩
theorem C0f{fd:FuncData}{ps:List Str}{ds:List Value}{T:Addr}{o:Obj}{items:Array Value}{n:Nat}(hd:fd.defaults= .ref T)(ho:K.lookup T=some o)(hs:o.data= .seq items n)
   (h:∀us:List Value,(us++ds).length=ps.length ->∃k,bindArgs fd ⟨us,[]⟩=seqItems? fd.defaults>>=k/\k (some items)=pure (ps.zip (us++ds))):V4 K fd ps ds:=fun s us X hl=>by
 obtain⟨k,h1,h2⟩:=h us hl
 exact binds_K X hd ho hs h1 h2
end
section
variable{X:Cx}{k j:Nat}{f C:Addr}{fd:FuncData}{ps ks:List Str}{sp:Sp}{EH:EK}{x m:Str}{p pos apos:Pos}{e o:Expr}{es:List Expr}{kws:List Keyword}{ta:TE}{t tk:TA}{g:List Value ->List Value ->List Value}{gV:List V ->List V ->List V}
end
section
variable{X:Cx}{K:Frag}{e:Expr}{f:Str}{pos:Pos}{ta:TE}
theorem B6t(h:X.K=K):IxR X (G4s K):=by subst h;exact V7
theorem A5u(h:X.K=K):OpR X (compareOp .In) (rIn K false):=by subst h;exact A7u
theorem B2m(h:X.K=K):OpR X (compareOp .NotIn) (rIn K true):=by subst h;exact A6j
theorem B2j(h:X.K=K):A1n X (.type "list") (fun xs H Q=>∃p ys,xs=[.ref p]/\(SqL K H p ys\/SqT K H p ys)/\∀l,H l=none ->Q (.ref l) (upd H l (.lst ys))):=by subst h;exact A3m
end
end L2
namespace TR
open PySem L2 PySem.W PyProof.Rows
structure Own(mg:Str ->Option Value):Prop where
 isi:mg "isinstance"=none
 int_:mg "int"=none
 bool_:mg "bool"=none
 str_:mg "str"=none
 list_:mg "list"=none
 tuple_:mg "tuple"=none
 dict_:mg "dict"=none
 len_:mg "len"=none
 range_:mg "range"=none
 min_:mg "min"=none
 max_:mg "max"=none
 abs_:mg "abs"=none
 any_:mg "any"=none
 all_:mg "all"=none
 sum_:mg "sum"=none
 repr_:mg "repr"=none
 enumerate_:mg "enumerate"=none
 reversed_:mg "reversed"=none
 zip_:mg "zip"=none
 sorted_:mg "sorted"=none
 divmod_:mg "divmod"=none
 set_:mg "set"=none
 ValueError_:mg "ValueError"=none
structure Kit(K:Frag):Prop where
 int_int:kitOne K (.type "int") (.type "int")=some true
 int_bool:kitOne K (.type "int") (.type "bool")=some false
 int_str:kitOne K (.type "int") (.type "str")=some false
 int_list:kitOne K (.type "int") (.type "list")=some false
 int_tuple:kitOne K (.type "int") (.type "tuple")=some false
 int_dict:kitOne K (.type "int") (.type "dict")=some false
 bool_int:kitOne K (.type "bool") (.type "int")=some true
 bool_bool:kitOne K (.type "bool") (.type "bool")=some true
 bool_str:kitOne K (.type "bool") (.type "str")=some false
 bool_list:kitOne K (.type "bool") (.type "list")=some false
 bool_tuple:kitOne K (.type "bool") (.type "tuple")=some false
 bool_dict:kitOne K (.type "bool") (.type "dict")=some false
 str_int:kitOne K (.type "str") (.type "int")=some false
 str_bool:kitOne K (.type "str") (.type "bool")=some false
 str_str:kitOne K (.type "str") (.type "str")=some true
 str_list:kitOne K (.type "str") (.type "list")=some false
 str_tuple:kitOne K (.type "str") (.type "tuple")=some false
 str_dict:kitOne K (.type "str") (.type "dict")=some false
 list_int:kitOne K (.type "list") (.type "int")=some false
 list_bool:kitOne K (.type "list") (.type "bool")=some false
 list_str:kitOne K (.type "list") (.type "str")=some false
 list_list:kitOne K (.type "list") (.type "list")=some true
 list_tuple:kitOne K (.type "list") (.type "tuple")=some false
 list_dict:kitOne K (.type "list") (.type "dict")=some false
 tuple_int:kitOne K (.type "tuple") (.type "int")=some false
 tuple_bool:kitOne K (.type "tuple") (.type "bool")=some false
 tuple_str:kitOne K (.type "tuple") (.type "str")=some false
 tuple_list:kitOne K (.type "tuple") (.type "list")=some false
 tuple_tuple:kitOne K (.type "tuple") (.type "tuple")=some true
 tuple_dict:kitOne K (.type "tuple") (.type "dict")=some false
 dict_int:kitOne K (.type "dict") (.type "int")=some false
 dict_bool:kitOne K (.type "dict") (.type "bool")=some false
 dict_str:kitOne K (.type "dict") (.type "str")=some false
 dict_list:kitOne K (.type "dict") (.type "list")=some false
 dict_tuple:kitOne K (.type "dict") (.type "tuple")=some false
 dict_dict:kitOne K (.type "dict") (.type "dict")=some true
 NoneType_int:kitOne K (.type "NoneType") (.type "int")=some false
 NoneType_bool:kitOne K (.type "NoneType") (.type "bool")=some false
 NoneType_str:kitOne K (.type "NoneType") (.type "str")=some false
 NoneType_list:kitOne K (.type "NoneType") (.type "list")=some false
 NoneType_tuple:kitOne K (.type "NoneType") (.type "tuple")=some false
 NoneType_dict:kitOne K (.type "NoneType") (.type "dict")=some false
theorem scK{N P:List Str}{sc:Scope}(a:sc.kind= .function:=by rfl)(b:sc.isCoroutine=false:=by rfl)(c:sc.isGenerator=false:=by rfl)(d:N.Nodup:=by decide+kernel)(e:N.take P.length=P:=by rfl)(f:∀x∈P,sc.names.lookup x=some .local\/sc.names.lookup x=some .cell:=by decide+kernel)(g:∀y∈sc.names,y.2≠ .free:=by decide+kernel):B8 N P sc:=⟨a,b,c,d,e,f,g⟩
theorem B8a{K:Frag}{H:Hp}(i:Int):TyE K H (.int i) (.type "int"):= .of (.int i)
theorem J0s{K:Frag}{H:Hp}(b:Bool):TyE K H (.bl b) (.type "bool"):= .of (.bl b)
theorem B6n{K:Frag}{H:Hp}(z:Str):TyE K H (.str z) (.type "str"):= .of (.str z)
theorem G4x{K:Frag}{H:Hp}:TyE K H .non (.type "NoneType"):= .of .non
theorem C2k{K:Frag}{H:Hp}{a:Addr}{xs:List V}(h:H a=some (.lst xs)):TyE K H (.ref a) (.type "list"):= .of (.lst h)
theorem D9a{K:Frag}{H:Hp}{a:Addr}{xs:List V}(h:H a=some (.tup xs)):TyE K H (.ref a) (.type "tuple"):= .of (.tup h)
theorem G6c{K:Frag}{H:Hp}{a:Addr}{xs:List (Key×V)}(h:H a=some (.dK xs)):TyE K H (.ref a) (.type "dict"):= .of (.dK h)
noncomputable def A2y (lo hi:Int) (v:V):Prop:=∃i,v= .int i/\lo<=i/\i<=hi
noncomputable def B2h (K:Frag) (H:Hp) (lo hi:Int) (v:V):Prop:=∃t b1 b2,TyE K H v t/\kitOne K t (.type "int")=some b1/\kitOne K t (.type "bool")=some b2/\((b1&& !b2)=false\/∃i,v= .int i/\(i<lo\/hi<i))
section
variable{K:Frag}{H:Hp}{lo hi:Int}
end
noncomputable def Exc (p:Addr) (H H':Hp):Prop:=∀b o,H b=some o ->b≠p ->H' b=some o
theorem Exc.refl(p:Addr)(H:Hp):Exc p H H:=fun _ _ h _=>h
theorem Exc.trans{p:Addr}{H H1 H2:Hp}(a:Exc p H H1)(b:Exc p H1 H2):Exc p H H2:=fun c o h n=>b c o (a c o h n) n
theorem Exc.upd{p:Addr}{H:Hp}{o:HO}:Exc p H (L2.upd H p o):=fun b u e n=>by rw[C7 n];exact e
theorem Exc.of{p:Addr}{H H':Hp}(s:B7 H H'):Exc p H H':=fun b o h _=>s b o h
noncomputable def Has (P:Program) (w:World) (K:Frag) (mg:Str ->Option Value) (base:Heap) (C:Addr) (m:Str) (k:Nat) (ps:List Str) (sp:Sp):Prop:=∃f fd,A5v K C m f/\G8 P w K mg base (CX1 P w) k f fd ps sp/\V4 K fd ps []
noncomputable def A4a (z:Str) (b:Bool):List Str:=if b then [z] else []
structure J0z(K:Frag)(C C1 C2 C3 C4 C5:Addr)(b1 b2 b3 b4 b5:Bool):Prop where
 k:B5r K C
 h1:kitOne K (.ref C) (.ref C1)=some b1
 h2:kitOne K (.ref C) (.ref C2)=some b2
 h3:kitOne K (.ref C) (.ref C3)=some b3
 h4:kitOne K (.ref C) (.ref C4)=some b4
 h5:kitOne K (.ref C) (.ref C5)=some b5
 hv:kitOne K (.ref C) (.type "ValueError")=some true
theorem G0k{us:List Value}(h:us.length=2):∃a b,us=[a,b]:=by
 obtain⟨a,t,rfl⟩:=List.exists_cons_of_length_eq_add_one h
 obtain⟨b,t,rfl⟩:=List.exists_cons_of_length_eq_add_one (Nat.succ.inj h)
 exact⟨a,b,by rw[List.eq_nil_of_length_eq_zero (Nat.succ.inj (Nat.succ.inj h))]⟩
theorem G5f{us:List Value}(h:us.length=3):∃a b c,us=[a,b,c]:=by
 obtain⟨a,t,rfl⟩:=List.exists_cons_of_length_eq_add_one h
 obtain⟨b,c,e⟩:=G0k (Nat.succ.inj h)
 exact⟨a,b,c,by rw[e]⟩
theorem G9f{us:List Value}(h:us.length=4):∃a b c d,us=[a,b,c,d]:=by
 obtain⟨a,t,rfl⟩:=List.exists_cons_of_length_eq_add_one h
 obtain⟨b,c,d,e⟩:=G5f (Nat.succ.inj h)
 exact⟨a,b,c,d,by rw[e]⟩
theorem J0q{us:List Value}(h:us.length=5):∃a b c d e,us=[a,b,c,d,e]:=by
 obtain⟨a,t,rfl⟩:=List.exists_cons_of_length_eq_add_one h
 obtain⟨b,c,d,e,z⟩:=G9f (Nat.succ.inj h)
 exact⟨a,b,c,d,e,by rw[z]⟩
theorem D5g{us ds:List Value}{n:Nat}(h:(us++ds).length=n):us.length=n-ds.length:=by rw[List.length_append] at h;omega
end TR
namespace L2
open PySem PySem.Spec PyProof.Rows
section
variable{κ:Type} [DecidableEq κ]
noncomputable def A7v (kvs:List (κ×V)) (k:κ):Option V:=(kvs.find? fun kv=>decide (kv.1=k)).map (·.2)
noncomputable def A7z (kvs:List (κ×V)) (k:κ) (v:V):List (κ×V):=
 if(kvs.any fun kv=>decide (kv.1=k))=true then kvs.map (fun kv=>if kv.1=k then(kv.1,v) else kv) else kvs++ [(k,v)]
theorem B1f{p:κ×V}{r:List (κ×V)}{k:κ}(e:p.1=k):A7v (p::r) k=some p.2:=by simp[A7v,List.find?_cons,e]
theorem B1d{p:κ×V}{r:List (κ×V)}{k:κ}(e:¬p.1=k):A7v (p::r) k=A7v r k:=by simp[A7v,List.find?_cons,e]
theorem B6w(k:κ):∀kvs:List (κ×V),(kvs.any fun kv=>decide (kv.1=k))=(A7v kvs k).isSome
 | []=>rfl
 | p::r=>by
   rw[List.any_cons]
   by_cases e:p.1=k
   . simp only[B1f e,decide_eq_true e,Bool.true_or,Option.isSome_some]
   . rw[B1d e,decide_eq_false e,Bool.false_or];exact B6w k r
theorem A8u(kvs:List (κ×V))(k:κ)(v:V):(A7z kvs k v).length<=kvs.length+1:=by
 unfold A7z
 split
 . rw[List.length_map];omega
 rw[List.length_append,List.length_cons,List.length_nil];omega
theorem A4b.isSome_eq{o:Option V}{u:Option Value}(r:A4b o u):o.isSome=u.isSome:=by
 cases o with
 | none=>cases u with
   |none=>rfl
   |some _=>exact(show False from r).elim
 | some _=>cases u with
   |none=>exact(show False from r).elim
   |some _=>rfl
theorem KV.val{kvs:List (κ×V)}{vs:List (κ×Value)}(r:KV kvs vs)(k:κ):A4b (A7v kvs k) (valueAt vs k):=by
 unfold KV at r
 induction r with
 |nil=>exact True.intro
 | @cons p q ps qs h t ih=>
   obtain⟨h1,h2⟩:=h
   by_cases e:p.1=k
   . have e':q.1=k:=h1.symm.trans e
     have b:valueAt (q::qs) k=some q.2:=by simp[valueAt,List.find?_cons,e']
     rw[B1f e,b];exact h2
   . have e':¬q.1=k:=fun z=>e (h1.trans z)
     have b:valueAt (q::qs) k=valueAt qs k:=by simp[valueAt,List.find?_cons,e']
     rw[B1d e,b];exact ih
theorem KV.any{kvs:List (κ×V)}{vs:List (κ×Value)}(r:KV kvs vs)(k:κ):(kvs.any fun kv=>decide (kv.1=k))=vs.any fun kv=>decide (kv.1=k):=by
 unfold KV at r
 induction r with
 |nil=>rfl
 |cons h t ih=>rw[List.any_cons,List.any_cons,ih,h.1]
theorem KV.repl{kvs:List (κ×V)}{vs:List (κ×Value)}(r:KV kvs vs)(k:κ){y:V}{u:Value}(ry:V0 y u):
   KV (kvs.map fun kv=>if kv.1=k then(kv.1,y) else kv) (vs.map fun kv=>if kv.1=k then(kv.1,u) else kv):=by
 unfold KV at r ⊢
 induction r with
 |nil=>exact .nil
 | @cons p q ps qs h t ih=>
   rw[List.map_cons,List.map_cons]
   refine .cons ?_ ih
   obtain⟨h1,h2⟩:=h
   by_cases e:p.1=k
   . rw[if_pos e,if_pos (h1.symm.trans e)];exact⟨h1,ry⟩
   . rw[if_neg e,if_neg (fun z=>e (h1.trans z))];exact⟨h1,h2⟩
theorem KV.put{kvs:List (κ×V)}{vs:List (κ×Value)}(r:KV kvs vs)(k:κ){y:V}{u:Value}(ry:V0 y u):KV (A7z kvs k y) (stored vs k u):=by
 unfold A7z stored
 rw[r.any k]
 by_cases e:(vs.any fun kv=>decide (kv.1=k))=true
 . rw[if_pos e,if_pos e];exact r.repl k ry
 rw[if_neg e,if_neg e];exact Paired.snoc r ⟨rfl,ry⟩
theorem KV.length{kvs:List (κ×V)}{vs:List (κ×Value)}(r:KV kvs vs):kvs.length=vs.length:=Paired.length r
end
theorem C6y{P:Program}{w:World}{k:Key}{u:Value}(r:V0 (kV k) u):(A0c P w).is k u=true:=by
 cases k with
 |inl i=>obtain⟨t,e⟩:=(show∃t,u=Value.int i t from r);subst e;exact B6s P w i t
 |inr x=>obtain⟨t,e⟩:=(show∃t,u=Value.str x t from r);subst e;exact B6z P w x t
theorem B3r{P:Program}{w:World}:∀{ks:List Key} {us:List Value},G7 (ks.map kV) us ->ItemsAre (A0c P w) ks us
 | [],_,r=>by rw[List.map_nil] at r;cases r;exact .nil
 | k::ks,_,r=>by
   rw[List.map_cons] at r
   cases r with
   |cons h t=>exact .cons (C6y h) (B3r t)
noncomputable abbrev KT (H:Hp):List (List Key×V) ->List (List Key×Addr×Value) ->Prop:=Paired fun p q=>p.1=q.1/\H q.2.1=some (.tup (p.1.map kV))/\V0 p.2 q.2.2
theorem KT.val{H:Hp}{kvs:List (List Key×V)}{xs:List (List Key×Addr×Value)}(r:KT H kvs xs)(k:List Key):A4b (A7v kvs k) ((atKey xs k).map (·.2)):=by
 induction r with
 |nil=>exact True.intro
 | @cons p q ps qs h t ih=>
   obtain⟨h1,_,h2⟩:=h
   by_cases e:p.1=k
   . have e':q.1=k:=h1.symm.trans e
     have b:atKey (q::qs) k=some q.2:=by simp[atKey,List.find?_cons,e']
     rw[B1f e,b];exact h2
   . have e':¬q.1=k:=fun z=>e (h1.trans z)
     have b:atKey (q::qs) k=atKey qs k:=by simp[atKey,List.find?_cons,e']
     rw[B1d e,b];exact ih
theorem KT.repl{H:Hp}{kvs:List (List Key×V)}{xs:List (List Key×Addr×Value)}(r:KT H kvs xs)(k:List Key){y:V}{u:Value}(ry:V0 y u):
   KT H (kvs.map fun kv=>if kv.1=k then(kv.1,y) else kv) (xs.map (putAt k u)):=by
 induction r with
 |nil=>exact .nil
 | @cons p q ps qs h t ih=>
   rw[List.map_cons,List.map_cons]
   refine .cons ?_ ih
   obtain⟨h1,h2,h3⟩:=h
   unfold putAt
   by_cases e:p.1=k
   . rw[if_pos e,if_pos (h1.symm.trans e)];exact⟨h1,h2,ry⟩
   . rw[if_neg e,if_neg (fun z=>e (h1.trans z))];exact⟨h1,h2,h3⟩
theorem KT.put{H:Hp}{kvs:List (List Key×V)}{xs:List (List Key×Addr×Value)}(r:KT H kvs xs)(k:List Key){b:Addr}{y:V}{u:Value}(hb:H b=some (.tup (k.map kV)))(ry:V0 y u):
   KT H (A7z kvs k y) (storedH xs k b u):=by
 have e:(kvs.any fun kv=>decide (kv.1=k))=(atKey xs k).isSome:=by
   rw[B6w,(r.val k).isSome_eq,Option.isSome_map]
 unfold A7z storedH
 rw[e]
 by_cases q:(atKey xs k).isSome=true
 . rw[if_pos q,if_pos q];exact r.repl k ry
 rw[if_neg q,if_neg q];exact Paired.snoc r ⟨rfl,hb,ry⟩
theorem KT.keeps{H H':Hp}{kvs:List (List Key×V)}{xs:List (List Key×Addr×Value)}(r:KT H kvs xs)(ht:∀b ys,H b=some (.tup ys) ->H' b=some (.tup ys)):KT H' kvs xs:=
 Paired.mapP r fun _ _ z=>⟨z.1,ht _ _ z.2.1,z.2.2⟩
section
variable{P:Program}{w:World}{H:Hp}{h:Heap}{a:Addr}
theorem D8y{u:HO}(ok:HOk P w H h)(e:Rd H a u):Y7 P w H h a u:=e.ok ok
theorem D9b{kvs:List (Key×V)}(ok:HOk P w H h)(e:Rd H a (.dK kvs)):kvs.length<=sizeLine/\(a==sysModules)=false/\∃vs,KV kvs vs/\h.DictOf (A0c P w) a vs:=
 show Y7 P w H h a (.dK kvs) from D8y ok e
theorem G5d{kvs:List (Key×V)}(ok:HOk P w H h)(e:H a=some (.dK kvs)):kvs.length<=sizeLine/\(a==sysModules)=false/\∃vs,KV kvs vs/\h.DictOf (A0c P w) a vs:=D9b ok (.inl e)
theorem B9x{ks:List Key}(ok:HOk P w H h)(e:H a=some (.tup (ks.map kV))):(tupleKind (A0c P w)).is h ks a:=by
 obtain⟨_,its,r,o,h1,h2,n,h3⟩:=(show Y7 P w H h a (.tup (ks.map kV)) from ok a _ e)
 exact⟨o,its.toArray,n,h1,h2,h3,by simpa using B3r r⟩
theorem D8x{kvs:List (List Key×V)}(ok:HOk P w H h)(e:Rd H a (.dT kvs)):kvs.length<=sizeLine/\(a==sysModules)=false/\
   ∃xs,KT H kvs xs/\h.DictOfH (tupleKind (A0c P w)) a xs:=by
 obtain⟨z,y,xs,r,o,es,ep,h1,h2,h3,h4,h5⟩:=(show Y7 P w H h a (.dT kvs) from D8y ok e)
 refine⟨z,y,xs,r,o,es,ep,h1,h2,h3,h4,fun x hx=>?_,h5⟩
 have all:∀{l:List (List Key×V)} {m:List (List Key×Addr×Value)},KT H l m ->∀x∈m,(tupleKind (A0c P w)).is h x.1 x.2.1:=by
   intro l m q
   induction q with
   |nil=>intro x hx;exact nomatch hx
   | @cons p q ps qs hq t ih=>
     intro x hx
     rcases List.mem_cons.mp hx with e|hx
     . subst e
       exact B9x ok (by rw[<-hq.1];exact hq.2.1)
     . exact ih x hx
 exact all r x hx
theorem G5r{kvs:List (List Key×V)}(ok:HOk P w H h)(e:H a=some (.dT kvs)):kvs.length<=sizeLine/\(a==sysModules)=false/\
   ∃xs,KT H kvs xs/\h.DictOfH (tupleKind (A0c P w)) a xs:=D8x ok (.inl e)
end
noncomputable def C5t (H:Hp) (a:Addr) (y:V) (r:Option V):Prop:=
 (∃kvs k,Rd H a (.dK kvs)/\y=kV k/\r=A7v kvs k)\/∃kvs k b,Rd H a (.dT kvs)/\y= .ref b/\H b=some (.tup (k.map kV))/\r=A7v kvs k
noncomputable def D0f (H:Hp) (a:Addr) (y v:V) (H':Hp):Prop:=
 (∃kvs k,H a=some (.dK kvs)/\y=kV k/\kvs.length<sizeLine/\H'=upd H a (.dK (A7z kvs k v)))\/
 ∃kvs k b,H a=some (.dT kvs)/\y= .ref b/\H b=some (.tup (k.map kV))/\kvs.length<sizeLine/\H'=upd H a (.dT (A7z kvs k v))
theorem C5t.k{H:Hp}{a:Addr}{kvs:List (Key×V)}{k:Key}(e:H a=some (.dK kvs)):C5t H a (kV k) (A7v kvs k):= .inl ⟨kvs,k,.inl e,rfl,rfl⟩
theorem D0f.k{H:Hp}{a:Addr}{kvs:List (Key×V)}{k:Key}{v:V}(e:H a=some (.dK kvs))(hl:kvs.length<sizeLine):D0f H a (kV k) v (upd H a (.dK (A7z kvs k v))):= .inl ⟨kvs,k,e,rfl,hl,rfl⟩
section
variable{X:Cx}{pins:List (Addr×Obj)}{σ:St}{H:Hp}{s:Shared}{a:Addr}{y v:V}{u r:Value}{o:Option V}{A:Around}{E:Value ->Shared ->Prop}
theorem G9c{Q:Value ->Shared ->Prop}(hu:A.units+1<cLine)(I:Inv X pins σ H s)(g:C5t H a y o)(ry:V0 y u)(h:∀s',Inv X pins σ H s' ->Q (.bool o.isSome) s'):
   wpAny (model X.prog X.w) A (compareOp .In u (.ref a)) Q E s:=by
 rcases g with⟨kvs,k,e,ey,l⟩|⟨kvs,k,b,e,ey,eb,l⟩
 . subst ey
   obtain⟨z,hd,vs,rel,dd⟩:=D9b I.hok e
   refine wpAny_in_of (C6y ry) hd dd.mapOf ?_
   rw[<-(rel.val k).isSome_eq, <-l]
   exact h _ (I.tok _)
 subst ey
 cases(show u=Value.ref b from ry)
 obtain⟨z,hd,xs,rel,dd⟩:=D8x I.hok e
 refine wpAny_in_heap (tupleKind_room_in1 hu) (B9x I.hok eb) hd dd ?_
 have q:=(rel.val k).isSome_eq
 rw[Option.isSome_map] at q
 rw[<-q, <-l]
 exact h _ (I.tok _)
theorem C0x{h':Heap}{t':Nat}{ob:HO}(I:Inv X pins σ H s)(mu:Mut (H a))(hs:Heap.SameBut a s.heap h')(he:∃q,h'.get? a=some q)(new:Y7 X.prog X.w (upd H a ob) h' a ob):
   Inv X pins σ (upd H a ob) {s with heap:=h',toks:=t'}:=
 I.write (x:=a) (e:=a) mu (.inl rfl) (fun b q hb z=>(hs.2 b hb).trans z) he new
theorem G1a{P:Program}{w:World}{H':Hp}{h':Heap}{kvs:List (Key×V)}{vs:List (Key×Value)}(z:kvs.length<=sizeLine)(hd:(a==sysModules)=false)(rel:KV kvs vs)(dd:h'.DictOf (A0c P w) a vs):
   Y7 P w H' h' a (.dK kvs):=⟨z,hd,vs,rel,dd⟩
theorem C3k{H':Hp}{Q:Unit ->Shared ->Prop}(hu:A.units+1<cLine)(I:Inv X pins σ H s)(g:D0f H a y v H')(ry:V0 y u)(rv:V0 v r)(h:∀s',Inv X pins σ H' s' ->Q () s'):
   wpAny (model X.prog X.w) A (setItem (.ref a) u r) Q E s:=by
 rcases g with⟨kvs,k,e,ey,l,eH⟩|⟨kvs,k,b,e,ey,eb,l,eH⟩
 . subst ey eH
   obtain⟨z,hd,vs,rel,dd⟩:=G5d I.hok e
   have hz:vs.length<=sizeLine:=by rw[<-rel.length];exact z
   have hl:(A7z kvs k v).length<=sizeLine:=by have:=A8u kvs k v;omega
   refine wpAny_setItem_pairs (hsz:=hz) (C6y ry) dd fun h' dd' hs=>h _ ?_
   have he:∃q,h'.get? a=some q:=let⟨q,_,_,hq,_⟩:=dd';⟨q,hq⟩
   exact C0x I (by rw[e];exact True.intro) hs he (G1a hl hd (rel.put k rv) dd')
 subst ey eH
 cases(show u=Value.ref b from ry)
 obtain⟨z,hd,xs,rel,dd⟩:=G5r I.hok e
 have hz:xs.length<=sizeLine:=by rw[<-Paired.length rel];exact z
 have hl:(A7z kvs k v).length<=sizeLine:=by have:=A8u kvs k v;omega
 refine wpAny_setItem_heap (hsz:=hz) (tupleKind_room_in1 hu) (B9x I.hok eb) dd fun h' dd' hs=>h _ ?_
 obtain⟨q,es,ep,hq,h2,h3,h4,_,h5⟩:=dd'
 refine C0x I (by rw[e];exact True.intro) hs ⟨q,hq⟩ ⟨hl,hd,_,(rel.put k eb rv).keeps fun c ys ec=>?_,q,es,ep,hq,h2,h3,h4,h5⟩
 rw[C7 (U4 ec e (fun z=>nomatch z))]
 exact ec
end
section
variable{X:Cx}{pins:List (Addr×Obj)}{σ:St}{H:Hp}{s:Shared}{a:Addr}{kvs:List (Key×V)}{k:Key}{u:Value}{A:Around}{E:Value ->Shared ->Prop}
end
noncomputable def J0k (ty td:TE):TE:=fun σ H Q=>ty σ H fun y H1=>td σ H1 fun x H2=>∃a o,x= .ref a/\C5t H2 a y o/\Q (.bl o.isSome) H2
noncomputable def G6u (td ty tv:TE):TS:=fun D σ H=>tv σ H fun v H1=>td σ H1 fun x H2=>ty σ H2 fun y H3=>∃a H4,x= .ref a/\D0f H3 a y v H4/\D.nx σ H4
section
variable{X:Cx}{o i e value:Expr}{pos pos' tpos:Pos}{td ty tv:TE}
theorem C9d(hu:X.A.units+1<cLine)(hi:PE X i ty)(ho:PE X o td):PC X .In i o (J0k ty td):=by
 intro pins s σ H Q I h
 refine thn (hi pins s σ H _ I h) fun iv s1 ⟨y,H1,I1,ry,q1⟩=>thn (ho pins s1 σ H1 _ I1 q1) fun u s2 hh_=>?_
 obtain⟨x,H2,I2,rx,a,ov,ex,g,q2⟩:=hh_
 subst ex
 obtain rfl:u=Value.ref a:=rx
 exact G9c hu I2 g ry fun s3 I3=>⟨.bl ov.isSome,H2,I3,rfl,q2⟩
theorem D6z(hu:X.A.units+1<cLine)(ho:PE X o td)(hi:PE X i ty)(hv:PE X value tv)(hs:swapsWith value (some (.Subscript o i pos')) pos.line X.env=pure false):
   PS X (.Assign [.Subscript o i pos'] value pos) (G6u td ty tv):=by
 intro pins s σ H D I h
 refine wpAny_Assign_Subscript (thn (hv pins s σ H _ I h) fun r s1 ⟨v,H1,I1,rv,q1⟩=>thn (ho pins s1 σ H1 _ I1 q1) fun u s2 ⟨x,H2,I2,rx,q2⟩=>thn (hi pins s2 σ H2 _ I2 q2) fun iv s3 hh_=>?_) hs
 obtain⟨y,H3,I3,ry,a,H4,ex,g,q3⟩:=hh_
 subst ex
 obtain rfl:u=Value.ref a:=rx
 exact C3k hu I3 g ry rv fun s4 I4=>⟨σ,H4,I4,q3⟩
end
section
variable{X:Cx}{pos:Pos}
end
end L2
namespace L2
open PySem PySem.Spec PyProof.Rows PySem.W
noncomputable def A1a (F:List Str) (env:Env):List (Str×Addr):=F.map fun x=>(x,(env.cells.lookup x).getD 0)
noncomputable def A2z (js:List Nat) (σ:St):St:=js.map fun j=>(σ[j]?).getD none
noncomputable abbrev Cx.compF (X:Cx) (scope:Scope) (N F:List Str) (C:Addr) (s₀:Shared) (H₀:Hp) (ex:List Addr) (pins:List (Addr×Obj)):Cx:=
 {X with N:=N++F,s₀:=s₀,H₀:=H₀,env:=compEnvC scope (A1a F X.env) C X.env,outer:=X.stack,ex:=ex,fn:=fun _=>false,pn:=pins,xe:=fun _ _=>False}
structure D5(N F:List Str)(js:List Nat)(sc:Scope)(XN:List Str)(env:Env):Prop where
 kind:sc.kind= .function
 cell:∀y∈sc.names,y.2≠ .cell
 loc:∀y∈sc.names,y.2= .local ->sc.names.lookup y.1=some .local
 nd:(N++F).Nodup
 clos:closureFor sc env=pure (A1a F env)
 fr:∀y∈(relabel sc env).names,y.2= .cell\/y.2= .free ->y.1∈F
 at_:∀(k:Nat) (x:Str),F[k]?=some x ->(∃j:Nat,js[k]?=some j/\XN[j]?=some x)/\(∃c,env.cells.lookup x=some c)/\env.kindOf x=some .cell/\(relabel sc env).names.lookup x=some .cell
 jl:js.length=F.length
noncomputable def A7s (n:Nat) (js:List Nat) (wi:TI) (g:TG) (tc:TT) (te:TE):TE:=fun σ H Q=>wi σ H fun J H1=>∀D,H1 D=none ->
 ∃ (m:Nat) (W:Nat ->List V ->Hp ->Prop),W 0 [] (upd H1 D (.lst []))/\∀i ys H2,W i ys H2 ->i<=m/\H2 D=some (.lst ys)/\((J.stop i H2/\Q (.ref D) H2)\/(i<m/\J.go i H2/\∀x H3,J.yld i H2 x H3 ->
   g x (List.replicate n none++A2z js σ) H3 fun σ4 H4=>tc σ4 H4 fun b H5=>if b=true then te σ4 H5 fun y H6=>H6 D=some (.lst ys)/\ys.length<sizeLine/\W (i+1) (ys++ [y]) (upd H6 D (.lst (ys++ [y]))) else W (i+1) ys H5))
noncomputable def B4d (n:Nat) (js:List Nat) (wi:TI) (g:TG) (te:TE):TE:=fun σ H Q=>wi σ H fun J H1=>∀D,H1 D=none ->
 ∃ (m:Nat) (W:Nat ->List V ->Hp ->Prop),W 0 [] (upd H1 D (.lst []))/\∀i ys H2,W i ys H2 ->i<=m/\H2 D=some (.lst ys)/\((J.stop i H2/\Q (.ref D) H2)\/(i<m/\J.go i H2/\∀x H3,J.yld i H2 x H3 ->
   g x (List.replicate n none++A2z js σ) H3 fun σ4 H4=>te σ4 H4 fun y H6=>H6 D=some (.lst ys)/\ys.length<sizeLine/\W (i+1) (ys++ [y]) (upd H6 D (.lst (ys++ [y])))))
theorem G0f{F:List Str}{env:Env}{x:Str}{c:Addr}(h:(A1a F env).lookup x=some c):x∈F/\c=(env.cells.lookup x).getD 0:=by
 have:=PySem.mem_of_lookup h
 obtain⟨y,hy,e⟩:=List.mem_map.mp this
 cases e
 exact⟨hy,rfl⟩
theorem C6p{env:Env}{x:Str}:∀{F:List Str},x∈F ->(A1a F env).lookup x=some ((env.cells.lookup x).getD 0)
 | y ::F,h=>by
   show List.lookup x ((y,(env.cells.lookup y).getD 0)::A1a F env)=_
   by_cases e:x=y
   . subst e;simp[List.lookup]
   . have hb:(x==y)=false:=beq_eq_false_iff_ne.mpr e
     rw[List.lookup_cons,hb]
     exact C6p (by rcases List.mem_cons.mp h with z|z;exact absurd z e;exact z)
section
variable{X:Cx}{N F:List Str}{js:List Nat}{scope:Scope}
theorem D5.sub(S:D5 N F js scope X.N X.env):∀x c,(A1a F X.env).lookup x=some c ->X.env.cells.lookup x=some c:=fun x c z=>by
 obtain⟨hx,rfl⟩:=G0f z
 obtain⟨k,hk⟩:=List.mem_iff_getElem?.mp hx
 obtain⟨_,⟨c,hc⟩,_⟩:=S.at_ k x hk
 rw[hc];rfl
theorem D5.has(S:D5 N F js scope X.N X.env){x:Str}(hx:x∈F):∃c,(A1a F X.env).lookup x=some c/\X.env.cells.lookup x=some c:=
 ⟨_,C6p hx,S.sub _ _ (C6p hx)⟩
theorem A4z{pins:List (Addr×Obj)}{σ:St}{H:Hp}{s:Shared}(S:D5 N F js scope X.N X.env)(I:Inv X pins σ H s){h':Heap}{m:Str ->Option Value}{C:Addr}(hc:∀x c v,X.env.cells.lookup x=some c ->s.heap.IsCell c v ->h'.IsCell c v):
   ∀(i:Nat) (x:Str) (v:V),(N++F)[i]?=some x ->(List.replicate N.length none++A2z js σ)[i]?=some (some v) ->∃u,V0 v u/\G5c (compEnvC scope (A1a F X.env) C X.env) h' m x u:=by
 intro i x v e1 e2
 by_cases hi:i<N.length
 . rw[List.getElem?_append_left (by simpa using hi),List.getElem?_replicate] at e2
   split at e2<;>cases e2
 rw[List.getElem?_append_right (by omega)] at e1
 rw[List.getElem?_append_right (by simp;omega)] at e2
 rw[List.length_replicate] at e2
 obtain⟨⟨j,hj,hx⟩,⟨c,hcc⟩,kx,kr⟩:=S.at_ _ x e1
 unfold A2z at e2
 rw[List.getElem?_map,hj] at e2
 have e2:(σ[j]?).getD none=some v:=Option.some.inj e2
 have e3:σ[j]?=some (some v):=by
   cases q:σ[j]? with
   |none=>rw[q] at e2;cases e2
   |some o=>rw[q] at e2;exact congrArg some e2
 obtain⟨m0,_,hl⟩:=I.loc
 obtain⟨u,r,l⟩:=hl j x v hx e3 (.inr (.inl kx))
 refine⟨u,r,.inr ⟨.inl kr,c,?_,?_⟩⟩
 . obtain⟨c',h1,h2⟩:=S.has (List.mem_of_getElem? e1)
   rw[hcc] at h2
   cases h2
   exact h1
 rcases l with⟨k,_⟩|⟨_,c',h1,h2⟩
 . rw[kx] at k;cases k
 rw[hcc] at h1
 cases h1
 exact hc x c _ hcc h2
theorem B5b(S:D5 N F js scope X.N X.env)(σ:St):(List.replicate N.length none++A2z js σ:St).length=(N++F).length:=by
 unfold A2z
 rw[List.length_append,List.length_replicate,List.length_map,S.jl,List.length_append]
theorem C4k{pins:List (Addr×Obj)}{σ:St}{H:Hp}{s:Shared}{it:Addr}{h':Heap}(S:D5 N F js scope X.N X.env)(I:Inv X pins σ H s)(hf:A0s X pins H it)(hit:∃o,s.heap.get? it=some o)(hnb:X.base.get? it=none)
   (hns:h'.Ns s.heap.objs.size (fun _=>none)) (hsb:∀b o,s.heap.get? b=some o ->h'.get? b=some o) {tk:Nat}:
   Inv (X.compF scope N F s.heap.objs.size s H [it] (X.pn++pins)) [] (List.replicate N.length none++A2z js σ) H {s with heap:=h',toks:=tk}:=by
 obtain⟨f0,f1,f2,f3,f4,f5⟩:=hf
 obtain⟨oi,ei⟩:=hit
 have lt:it<s.heap.objs.size:=Heap.lt_size ei
 have ck:∀c v,s.heap.IsCell c v ->h'.IsCell c v:=fun c v ⟨o,e,d⟩=>⟨o,hsb _ _ e,d⟩
 have inF:∀x,((compEnvC scope (A1a F X.env) s.heap.objs.size X.env).kindOf x=some .cell\/(compEnvC scope (A1a F X.env) s.heap.objs.size X.env).kindOf x=some .free) ->x∈F:=by
   intro x z
   have z:(relabel scope X.env).names.lookup x=some .cell\/(relabel scope X.env).names.lookup x=some .free:=z
   rcases z with z|z
   . exact S.fr _ (PySem.mem_of_lookup z) (.inl rfl)
   . exact S.fr _ (PySem.mem_of_lookup z) (.inr rfl)
 refine⟨⟨I.ok.mod,S.kind,I.ok.glob,I.ok.blt,Nat.le_refl _,fun x y c z z'=>I.ok.inj x y c (S.sub x c z) (S.sub y c z'),fun x z=>?_,fun x c z _=>(nomatch z),I.ok.hd,I.ok.frames,.inl rfl,fun b hb=>?_,I.bs,Nat.le_trans I.ok.bsz I.sz,fun b o e hb=>?_,fun b hb hfs=>?_,I.stack,I.stkFree⟩,
   rfl,I.bare,Un.kept hsb,⟨_,hns,fun i x v e1 e2 e3=>A4z S I (fun x c v _ z=>ck c v z) i x v e1 e2⟩,fun x c z=>?_,I.hok.fresh (Nat.le_refl _),fun x c z=>I.freeC x c (S.sub x c z),fun p hp=>?_,I.hok.kept hsb,B5b S σ⟩
 . obtain⟨c,h1,_⟩:=S.has (inF x z)
   exact⟨c,h1⟩
 . have e:b=it:=by simpa using hb
   subst e
   exact⟨Nat.ne_of_lt lt,fun x c z=>f4 x c (S.sub x c z)⟩
 . have e':b=it:=by simpa using hb
   subst e'
   rw[hnb] at e
   cases e
 . have e':b=it:=by simpa using hb
   subst e'
   rcases List.mem_cons.mp (I.stkSub b hfs) with z|z
   . exact f1 z
   . exact f2 z
 . obtain⟨v,z'⟩:=I.cell x c (S.sub x c z)
   exact⟨v,ck c v z'⟩
 have hp':p∈X.pn++pins:=by simpa using hp
 obtain⟨q1,q2,q3,q4,q5⟩:=I.pin p hp'
 refine⟨hsb _ _ q1,q2,Nat.ne_of_lt (Heap.lt_size q1),fun z=>?_,q5⟩
 rcases List.mem_cons.mp (I.stkSub p.1 z) with z|z
 . exact q3 z
 exact q4 z
theorem C5e{pins pl:List (Addr×Obj)}{σ σ':St}{H H':Hp}{s s':Shared}{it:Addr}(S:D5 N F js scope X.N X.env)(I:Inv X pins σ H s)(hf:A0s X pins H it)(J:Inv (X.compF scope N F s.heap.objs.size s H [it] (X.pn++pins)) pl σ' H' s'):
   Inv (X.compF scope N F s.heap.objs.size s H [it] (X.pn++pins)) [] (List.replicate N.length none++A2z js σ) H' s':=by
 obtain⟨m,hn,_⟩:=J.loc
 refine⟨J.ok,J.os,J.bare,J.base,⟨m,hn,fun i x v e1 e2 e3=>A4z S I (fun x c v z q=>?_) i x v e1 e2⟩,J.cell,J.free,J.freeC,fun p hp=>J.pin p (by
   have hp:p∈(X.pn++pins)++ []:=hp
   rw[List.append_nil] at hp
   exact List.mem_append_left _ hp),J.hok,B5b S σ⟩
 obtain⟨o,e,d⟩:=q
 have ne:c ∉ [it]:=fun w=>hf.2.2.2.2.1 x c z (by simpa using w)
 obtain⟨sl,q⟩:=J.base.any e (I.freeC x c z) ne
 exact⟨_,q,d⟩
theorem B1m{elt target iter c:Expr}{scope:Scope}{pos:Pos}{N F:List Str}{js:List Nat}{wi:TI}{g:TG}{tc:TT}{te:TE}(S:D5 N F js scope X.N X.env)(hd:V8 X)(hi:PIH X target iter wi)(hex:X.ex=[])
   (hg:∀C s₀ H₀ ex pn,V8 (X.compF scope N F C s₀ H₀ ex pn) ->PG (X.compF scope N F C s₀ H₀ ex pn) target g)
   (hc:∀C s₀ H₀ ex pn,V8 (X.compF scope N F C s₀ H₀ ex pn) ->PT (X.compF scope N F C s₀ H₀ ex pn) c tc)
   (he:∀C s₀ H₀ ex pn,V8 (X.compF scope N F C s₀ H₀ ex pn) ->PE (X.compF scope N F C s₀ H₀ ex pn) elt te)
   {pins:List (Addr×Obj)} {s:Shared} {σ:St} {H:Hp} {Q:VK} {RR:Value ->Env ->Result ->Shared ->Prop} (I:Inv X pins σ H s) (h:(A7s N.length js wi g tc te) σ H Q)
   (hRR:∀(D C:Addr) (s6:Shared) (H5:Hp) (mm:Str ->Option Value),Inv X pins σ H5 s6 ->s6.heap.Ns C mm ->A0s X pins H5 C ->Q (.ref D) H5 ->RR (.ref D) (compEnvC scope (A1a F X.env) C X.env) (.ok .next) s6):
   wpAny (model X.prog X.w) X.A (eval iter X.env) (fun v s1=>wpAny (model X.prog X.w) X.A (pyIter v) (fun itv s2=>wpAny (model X.prog X.w) X.A (newList []) (fun acc s3=>wpAny (model X.prog X.w) X.A (newFunctionEnv scope X.env.globals (A1a F X.env) [] X.env.qual none .none (some X.env)) (fun cenv s4=>
     codeAny (model X.prog X.w) X.A (.compStart (.ListComp elt [⟨target,iter,[c],0⟩] scope pos) 0 itv acc {cenv with scope:=relabel scope X.env}) (RR acc {cenv with scope:=relabel scope X.env}) s4) X.xe s3) X.xe s2) X.xe s1) X.xe s:=by
 refine thn (hi pins s σ H _ I h) fun v s1 h1=>thn h1 fun itv s2 h2=>?_
 obtain⟨it,tn,J,H2,rfl,I2,T,st2,f2,R⟩:=h2
 obtain⟨oi,ei,di⟩:=T.obj _ _ st2
 have hf2:=I2.hok.fresh (Nat.le_refl _)
 refine wpAny_newObj_type ?_
 have I3:Inv X pins σ (upd H2 s2.heap.objs.size (.lst [])) {s2 with heap:=s2.heap.push {cls:= .type "list",dict:=none,data:= .seq ([]:List Value).toArray}}:=Inv.lnew (t':=s2.toks) I2 .nil (Nat.zero_le _)
 refine wpAny_newFunctionEnv S.cell (by intro y hy;simp at hy) (fun h4 hns hsb=>?_) S.kind
 dsimp only at hns hsb ⊢
 generalize hG:s2.heap.push {cls:= .type "list",dict:=none,data:= .seq ([]:List Value).toArray}=G at I3 hns hsb ⊢
 generalize hD:s2.heap.objs.size=D at I3 hf2
 have nD:it≠D:=by rw[<-hD];exact Nat.ne_of_lt (Heap.lt_size ei)
 have eiG:G.get? it=some oi:=by rw[<-hG];exact Heap.get?_push_of_some _ ei
 have kp:∀b o,G.get? b=some o ->h4.get? b=some o:=fun b o e=>hsb.extBut b o (Nat.ne_of_lt (Heap.lt_size e)) (Heap.get?_push_of_some _ e)
 have f3:A0s X pins (upd H2 D (.lst [])) it:=⟨by rw[C7 nD];exact f2.1,f2.2⟩
 have nb:X.base.get? it=none:=by
   cases q:X.base.get? it with
   |none=>rfl
   | some o=>
     have:=(I.ok.bs it o q).1
     rcases f2.2.2.2.1 with z|z
     . rw[hex] at z;simp at z
     . exact absurd (Nat.lt_of_lt_of_le (Heap.lt_size this) z) (Nat.lt_irrefl _)
 have hns':h4.Ns G.objs.size (fun _=>none):=by
   obtain⟨o,es,ep,q1,q2,q3,q4⟩:=hns
   exact⟨o,es,ep,q1,q2,q3,fun x=>by rw[q4];rfl⟩
 have I4:=C4k (tk:=s2.toks+([]:List (Str×Value)).length) S I3 f3 ⟨oi,eiG⟩ nb hns' kp
 have hdc:V8 (X.compF scope N F G.objs.size {s2 with heap:=G} (upd H2 D (.lst [])) [it] (X.pn++pins)):=by
   rcases hd with z|⟨x,o,u,vs,z,e,d,n⟩
   . exact .inl z
   . refine .inr ⟨x,o,u,vs,z,?_,d,n⟩
     have q:=I2.base.frzs x o u e
     show upd H2 D (.lst []) x=_
     rw[C7 fun w=>by rw[w,hf2] at q;cases q]
     exact q
 obtain⟨m,W,w0,turn⟩:=R D hf2
 have gg:=hg _ _ _ _ _ hdc
 have cc:=hc _ _ _ _ _ hdc
 have ee:=he _ _ _ _ _ hdc
 have fpc:∀{H':Hp} {σ':St} {s':Shared} {pl:List (Addr×Obj)},Inv (X.compF scope N F G.objs.size {s2 with heap:=G} (upd H2 D (.lst [])) [it] (X.pn++pins)) pl σ' H' s' ->H' it=none ->(∀p∈pl,p.1≠it) ->A0s (X.compF scope N F G.objs.size {s2 with heap:=G} (upd H2 D (.lst [])) [it] (X.pn++pins)) pl H' it:=by
   intro H' σ' s' pl J' hn hp
   refine⟨hn,Nat.ne_of_lt (Heap.lt_size eiG),?_,.inl (List.mem_singleton.mpr rfl),(fun x c z=>f2.2.2.2.2.1 x c (S.sub x c z)),fun p hpp=>?_⟩
   . intro z
     rcases List.mem_cons.mp (I.stkSub it z) with z|z
     . exact f2.2.1 z
     . exact f2.2.2.1 z
   . rcases List.mem_append.mp hpp with z|z
     . exact f2.2.2.2.2.2 p z
     . exact hp p z
 have loop:codeAny (model X.prog X.w) X.A (.compLoop (.ListComp elt [⟨target,iter,[c],0⟩] scope pos) 0 (.ref it) (.ref D) (compEnvC scope (A1a F X.env) G.objs.size X.env))
     (RR (.ref D) (compEnvC scope (A1a F X.env) G.objs.size X.env))
     {s2 with heap:=h4,toks:=s2.toks+([]:List (Str×Value)).length}:=by
   refine kct_loop (fun k s'=>∃i ys H',k=m+1-i/\Inv (X.compF scope N F G.objs.size {s2 with heap:=G} (upd H2 D (.lst [])) [it] (X.pn++pins)) [] (List.replicate N.length none++A2z js σ) H' s'/\tn i s'.heap/\H' it=none/\W i ys H') ?_ (m+1)
     ⟨0,[],_,rfl,I4,T.keep _ _ _ st2 fun o e=>kp it o (by rw[<-hG];exact Heap.get?_push_of_some _ e),f3.1,w0⟩
   rintro k s5 ⟨i,ys,H5,rfl,I5,st5,n5,w5⟩
   obtain⟨hi5,hD5,w5⟩:=turn i ys H5 w5
   rcases w5 with⟨stop,q⟩|⟨lt5,go,step⟩
   . refine wpAny_mono (T.done (X.compF scope N F G.objs.size {s2 with heap:=G} (upd H2 D (.lst [])) [it] (X.pn++pins)) rfl rfl rfl hdc i [] s5 _ H5 (fun _ _=>False) I5 (fpc I5 n5 (by simp)) st5 stop) (fun r s6 z=>?_) (fun _ _ z=>z.elim)
     obtain⟨rfl,I6⟩:=z
     obtain⟨mm,hn6,_⟩:=I6.loc
     have B6:=I6.base
     have J6:Inv X pins σ H5 s6:=by
       refine I3.call' (ch:=[it]) I6.os ⟨B6.keep,B6.slot,B6.free,B6.there,B6.tups,B6.frzs,B6.tbls⟩ I6.hok I6.bare (fun b hb=>?_)
       have e:b=it:=by simpa using hb
       subst e
       exact⟨f2.2.2.2.1,f2.2.1,f2.2.2.2.2.1,f2.2.2.2.2.2⟩
     have szG:X.s₀.heap.objs.size<=G.objs.size:=I3.sz
     refine hRR D G.objs.size s6 H5 mm J6 hn6 ⟨I6.free,?_,?_,.inr szG,?_,?_⟩ q
     . exact Nat.ne_of_gt I3.lt
     . intro z
       obtain⟨_,o,ho,_⟩:=I3.funs.mem z
       exact Nat.lt_irrefl _ (Heap.lt_size ho)
     . rintro x c z rfl
       obtain⟨v',o,ho,_⟩:=I3.cell x _ z
       exact Nat.lt_irrefl _ (Heap.lt_size ho)
     . rintro p hp z
       have zz:=(I3.pin p hp).1
       rw[z] at zz
       exact Nat.lt_irrefl _ (Heap.lt_size zz)
   . refine wpAny_mono (T.item (X.compF scope N F G.objs.size {s2 with heap:=G} (upd H2 D (.lst [])) [it] (X.pn++pins)) rfl rfl rfl hdc i [] s5 _ H5 (fun _ _=>False) I5 (fpc I5 n5 (by simp)) st5 go) (fun r s6 z=>?_) (fun _ _ z=>z.elim)
     obtain⟨u,rfl,z⟩:=z
     refine wpAny_mono z (fun _ s7 z=>?_) (fun _ _ z=>z.elim)
     obtain⟨x,I7,rx,yl,st7⟩:=z
     obtain⟨o7,e7,d7⟩:=T.obj _ _ st7
     obtain⟨p0,p1,p2,_⟩:=fpc I7 n5 (by simp)
     have I7':Inv (X.compF scope N F G.objs.size {s2 with heap:=G} (upd H2 D (.lst [])) [it] (X.pn++pins)) [(it,o7)] (List.replicate N.length none++A2z js σ) H5 s7:=I7.pins_of fun p hp=>by
       have e:p=(it,o7):=by simpa using hp
       subst e
       exact⟨e7,p0,p1,p2,d7⟩
     have back:∀{i':Nat} {ys':List V} {H':Hp} {σ':St} {s':Shared},i'=i+1 ->Inv (X.compF scope N F G.objs.size {s2 with heap:=G} (upd H2 D (.lst [])) [it] (X.pn++pins)) [(it,o7)] σ' H' s' ->W i' ys' H' ->
         ∃k',k'<m+1-i/\∃i ys H',k'=m+1-i/\Inv (X.compF scope N F G.objs.size {s2 with heap:=G} (upd H2 D (.lst [])) [it] (X.pn++pins)) [] (List.replicate N.length none++A2z js σ) H' s'/\tn i s'.heap/\H' it=none/\W i ys H':=by
       rintro i' ys' H' σ' s' rfl J' w'
       obtain⟨q1,q2,_⟩:=J'.pin (it,o7) (List.mem_append_right _ (List.mem_singleton.mpr rfl))
       refine⟨m+1-(i+1),by omega,i+1,ys',H',rfl,C5e S I3 f3 J',T.keep _ _ _ st7 fun o z=>?_,q2,w'⟩
       rw[e7] at z
       cases z
       exact q1
     refine wpAny_mono (gg [(it,o7)] s7 _ H5 x u _ I7' rx (step x H5 yl)) (fun _ s8 z=>?_) (fun _ _ z=>z.elim)
     obtain⟨σ8,H8,I8,q8⟩:=z
     refine wpAny_mono (cc [(it,o7)] s8 σ8 H8 _ I8 q8) (fun b s9 z=>?_) (fun _ _ z=>z.elim)
     obtain⟨H9,I9,q9⟩:=z
     cases b with
     | false=>
       simp only[Bool.false_eq_true,if_false] at q9 ⊢
       exact back rfl I9 q9
     | true=>
       simp only[if_true] at q9 ⊢
       refine wpAny_mono (ee [(it,o7)] s9 σ8 H9 _ I9 q9) (fun y s10 z=>?_) (fun _ _ z=>z.elim)
       obtain⟨yv,H10,I10,ry,hD10,hz10,w10⟩:=z
       refine wpAny_mono (A3a (X:=X.compF scope N F G.objs.size {s2 with heap:=G} (upd H2 D (.lst [])) [it] (X.pn++pins)) [(it,o7)] s10 σ8 H10 (.ref D) [yv] (.ref D) [y] (fun _ H11=>W (i+1) (ys++ [yv]) H11) I10 rfl (.cons ry .nil) ⟨D,ys,yv,rfl,rfl,hD10,hz10,w10⟩) (fun _ s11 z=>?_) (fun _ _ z=>z.elim)
       obtain⟨_,H11,I11,_,w11⟩:=z
       exact back rfl I11 w11
 exact codeAny_compStart_list loop (T.self _ 0 _ _ _ (T.keep _ _ _ st2 fun o e=>kp it o (by rw[<-hG];exact Heap.get?_push_of_some _ e)) loop)
theorem B7m{elt target iter:Expr}{c:Expr}{tc:TT}{pos:Pos}{wi:TI}{g:TG}{te:TE}(S:D5 N F js scope X.N X.env)(hd:V8 X)(hi:PIH X target iter wi)(hex:X.ex=[])
   (hg:∀C s₀ H₀ ex pn,V8 (X.compF scope N F C s₀ H₀ ex pn) ->PG (X.compF scope N F C s₀ H₀ ex pn) target g)
   (hc:∀C s₀ H₀ ex pn,V8 (X.compF scope N F C s₀ H₀ ex pn) ->PT (X.compF scope N F C s₀ H₀ ex pn) c tc)
   (he:∀C s₀ H₀ ex pn,V8 (X.compF scope N F C s₀ H₀ ex pn) ->PE (X.compF scope N F C s₀ H₀ ex pn) elt te)
   (hs:∀x,foldedSetIterable iter X.env x=pure x:=by intro _;rfl):PE X (.ListComp elt [⟨target,iter,[c],0⟩] scope pos) (A7s N.length js wi g tc te):=by
 intro pins s σ H Q I h
 rw[eval_ListComp]
 refine wpAny_comprehension_free (use:=none) rfl hs S.clos S.kind S.loc (B1m S hd hi hex hg hc he I h (RR:=fun acc ce r s'=>compPost (model X.prog X.w) X.A X.xe none (EP X pins σ Q) acc ce.locals r s') ?_)
 intro D C s6 H5 mm I6 n6 f6 q
 exact⟨mm,n6,fun h' sb=>⟨.ref D,H5,B2v I6 f6 sb,rfl,q⟩⟩
theorem C9c{i:Nat}{y:Str}{py spos:Pos}{elt target iter:Expr}{c:Expr}{tc:TT}{pos:Pos}{wi:TI}{g:TG}{te:TE}(S:D5 N F js scope X.N X.env)(hd:V8 X)(hi:PIH X target iter wi)(hex:X.ex=[])
   (hg:∀C s₀ H₀ ex pn,V8 (X.compF scope N F C s₀ H₀ ex pn) ->PG (X.compF scope N F C s₀ H₀ ex pn) target g)
   (hc:∀C s₀ H₀ ex pn,V8 (X.compF scope N F C s₀ H₀ ex pn) ->PT (X.compF scope N F C s₀ H₀ ex pn) c tc)
   (he:∀C s₀ H₀ ex pn,V8 (X.compF scope N F C s₀ H₀ ex pn) ->PE (X.compF scope N F C s₀ H₀ ex pn) elt te) (hN:X.N.Nodup) (hi':X.N[i]?=some y) (hy:Loc X.env.scope y)
   (hf:X.fn y=true\/X.env.scope.names.lookup y=some .local:=by first|exact .inl rfl|exact .inr rfl|assumption)
   (hsw:swapsWith (.ListComp elt [⟨target,iter,[c],0⟩] scope pos) (some (.Name y py)) spos.line X.env=pure true:=by rfl)
   (hs:∀x,foldedSetIterable iter X.env x=pure x:=by intro _;rfl):PS X (.Assign [.Name y py] (.ListComp elt [⟨target,iter,[c],0⟩] scope pos) spos) (D5x (A7s N.length js wi g tc te) (B6f i)):=by
 intro pins s σ H D I h
 rw[exec_Assign_Name_used _ _ _ _ hsw]
 refine wpAny_bind (wpAny_standAt (wpAny_bind ?_))
 show wpAny _ X.A (do let _<-comprehension (.ListComp elt [⟨target,iter,[c],0⟩] scope pos) scope X.env _ (newList []) false (eval iter X.env) (some (assign (.Name y py) X.env))) _ _ s
 refine wpAny_bind (wpAny_mono (wpAny_comprehension_free (Q:=fun _ s'=>SP X pins D .next s') rfl hs S.clos S.kind S.loc (B1m S hd hi hex hg hc he I h (RR:=fun acc ce r s'=>compPost (model X.prog X.w) X.A X.xe (some (assign (.Name y py) X.env)) (fun _ s'=>SP X pins D .next s') acc ce.locals r s') ?_))
   (fun _ s' hq=>wpAny_pure (wpAny_pure hq)) fun _ _ e=>e)
 intro D' C s6 H5 mm I6 n6 f6 q
 refine wpAny_assign_Name (A7a (v:= .ref D') I6 hN hi' hy rfl (fun s7 I7 st=>?_) hf)
 obtain⟨a,sb,ha⟩:=st
 have na:C≠a:=by
   rcases ha with rfl|ha
   . exact f6.2.1
   . exact(f6.2.2.2.2.1 y a ha).symm
 exact⟨mm,n6.sameBut sb na,fun h' sb'=>⟨_,_,B2v I7 f6 sb',q⟩⟩
end
structure D0h(N F:List Str)(sc:Scope):Prop where
 kind:sc.kind= .function
 cell:∀y∈sc.names,y.2≠ .cell
 loc:∀y∈sc.names,y.2= .local ->sc.names.lookup y.1=some .local
 fr:∀y∈sc.names,y.2= .free ->y.1∈F
 nd:(N++F).Nodup
theorem A5q{sc:Scope}{env:Env}{F:List Str}(cell:∀y∈sc.names,y.2≠ .cell)(fr:∀y∈sc.names,y.2= .free ->y.1∈F):∀y∈(relabel sc env).names,y.2= .cell\/y.2= .free ->y.1∈F:=by
 intro y hy h
 obtain⟨⟨n,k⟩,hm,e⟩:=List.mem_map.mp hy
 dsimp only at e
 split at e
 . rename_i hc
   subst e
   simp only[Bool.and_eq_true] at hc
   exact fr (n,k) hm (by simpa using hc.1.1)
 subst e
 rcases h with h|h
 . exact absurd h (cell (n,k) hm)
 exact fr (n,k) hm h
theorem D5.of1{N:List Str}{x:Str}{j:Nat}{sc:Scope}{XN:List Str}{env:Env}(S:D0h N [x] sc)(clos:closureFor sc env=pure (A1a [x] env))(hj:XN[j]?=some x)(hc:∃c,env.cells.lookup x=some c)(hk:env.kindOf x=some .cell)
   (hr:(relabel sc env).names.lookup x=some .cell):D5 N [x] [j] sc XN env:=
 ⟨S.kind,S.cell,S.loc,S.nd,clos,A5q S.cell S.fr,fun k y h=>match k,h with
   |0,h=>by cases h;exact⟨⟨j,rfl,hj⟩,hc,hk,hr⟩
   |k+1,h=>by simp at h,rfl⟩
theorem D5.of2{N:List Str}{x y:Str}{j k:Nat}{sc:Scope}{XN:List Str}{env:Env}(S:D0h N [x,y] sc)(clos:closureFor sc env=pure (A1a [x,y] env))(hj:XN[j]?=some x)(hc:∃c,env.cells.lookup x=some c)(hk:env.kindOf x=some .cell)
   (hr:(relabel sc env).names.lookup x=some .cell) (hj':XN[k]?=some y) (hc':∃c,env.cells.lookup y=some c) (hk':env.kindOf y=some .cell) (hr':(relabel sc env).names.lookup y=some .cell):D5 N [x,y] [j,k] sc XN env:=
 ⟨S.kind,S.cell,S.loc,S.nd,clos,A5q S.cell S.fr,fun i z h=>match i,h with
   |0,h=>by cases h;exact⟨⟨j,rfl,hj⟩,hc,hk,hr⟩
   |1,h=>by cases h;exact⟨⟨k,rfl,hj'⟩,hc',hk',hr'⟩
   |i+2,h=>by simp at h,rfl⟩
theorem A1p(z:Str):∀zs:List Str,inV (.str z) (zs.map V.str)=zs.contains z
 | []=>rfl
 | y::zs=>by
   show(eqV (.str y) (.str z)||inV (.str z) (zs.map V.str))=_
   rw[A1p z zs,List.contains_cons]
   show((y==z)||_)=_
   rw[BEq.comm]
theorem A0u:∀zs:List Str,(zs.map V.str).all A6a=true
 | []=>rfl
 |_::zs=>A0u zs
theorem A6e{K:Frag}{H:Hp}{σ σf:L2.St}{a:Addr}{zs:List Str}{f:Str ->Bool}{tc:TT}{te:TE}{Q:VK}(hl:∀H,SqT K H a (zs.map V.str))(hz:zs.length<=100)
   (ht:∀(z:Str) (H':Hp) (Qb:Bool ->Hp ->Prop),B7 H H' ->Qb (f z) H' ->tc (some (.str z)::σf) H' Qb) (he:∀(z:Str) (H':Hp) (Qv:VK),Qv (.str z) H' ->te (some (.str z)::σf) H' Qv)
   (k:∀D H',B7 H H' ->H D=none ->H' D=some (.lst ((zs.filter f).map V.str)) ->Q (.ref D) H') {js:List Nat} (hj:A2z js σ=σf):A7s 1 js (G2e K (tC (.ref a))) (B6f 0) tc te σ H Q:=by
 refine⟨a,rfl,⟨_,hl H⟩,fun D hD=>⟨zs.length,fun i ys H2=>i<=zs.length/\ys=((zs.take i).filter f).map V.str/\H2=upd H D (.lst ys),⟨Nat.zero_le _,rfl,rfl⟩,?_⟩⟩
 rintro i ys H2 ⟨hi,rfl,rfl⟩
 refine⟨hi,A6,?_⟩
 have sm:B7 H (upd H D (.lst (((zs.take i).filter f).map V.str))):=B7.upd hD
 have lz:(((zs.take i).filter f).map V.str).length<=100:=by
   rw[List.length_map]
   exact Nat.le_trans (List.length_filter_le _ _) (by rw[List.length_take];omega)
 by_cases hlt:i<zs.length
 . refine .inr ⟨hlt,⟨_,V.str zs[i],hl _,by simp[hlt]⟩,fun x H3 y=>?_⟩
   obtain⟨rfl,y⟩:=y
   have ex:x=V.str zs[i]:=by
     have:=y _ (hl _)
     simp[hlt] at this
     exact this.symm
   subst ex
   rw[hj]
   show tc (some (.str zs[i])::σf) _ _
   refine ht _ _ _ sm ?_
   have et:(zs.take (i+1)).filter f=(zs.take i).filter f++(if f zs[i] then [zs[i]] else []):=by
     rw[List.take_succ_eq_append_getElem hlt,List.filter_append]
     congr 1
     cases hb:f zs[i]<;>simp[hb]
   cases hb:f zs[i] with
   | false=>
     refine V9 ⟨hlt,?_,rfl⟩
     rw[et,hb];simp
   | true=>
     refine Z7 (he _ _ _ ⟨A6,Nat.lt_of_le_of_lt lz (A0v (by decide)),hlt,?_,?_⟩)
     . rw[et,hb];simp
     . rw[D6b]
 have e:i=zs.length:=by omega
 subst e
 refine .inl ⟨⟨_,hl _,by simp⟩,k D _ sm hD ?_⟩
 rw[List.take_length]
 exact A6
end L2
namespace L2
open PySem
section
variable{prog:Program}{w:World}{A:Around}{E:Value ->Shared ->Prop}{h:Heap}{g:Array GenState}{d:Drawn}{t:Nat}{os:OsState}
variable{nm q:Str}{C N:Addr}{bs bm bmB:List Value}{hdct:Bool}{sn:List Str}{sub:List Value}{ab:Bool}{col:Option Bool}{dd:Option Addr}{k0 k1 k2 k3 k5:Option Value}{B newId initId:String}
theorem A5g(F:ExcBaseFacts B newId initId bmB)(T:OwnTail h bmB bm){mN:Str ->Option Value}{rest:List Value}{fI:Addr}{oI:Obj}{Q:Fin ->Shared ->Prop}
   (hC:h.get? C=some (excClassObj nm q C N bs bm hdct sn sub ab col dd k0 k1 k2 k3 k5 newId)) (hn:h.Ns N mN) (hi:mN "__init__"=some (.ref fI))
   (hfI:h.get? fI=some oI) (hfc:oI.cls= .type "function")
   (hq:∀h' e,Heap.MadeExcOf h h' e (.ref C) rest ->
     wpAny (model prog w) A (call (.ref fI) (.ref e::rest)) (fun r s'=>r= .none/\Q (.done (.ret (.ref e))) s') E ⟨h',g,d,t,os⟩) (hrest:rest.length<=sizeLine):
   wpAny (model prog w) A (Builtin.«type.__call__» ⟨.ref C :: rest, []⟩) Q E ⟨h, g, d, t, os⟩ := by
 repeat (first|with_reducible refine wpAny_loadPart_at hC ?_|with_reducible refine wpAny_madeBy_exc hC ?_|wp_step)
 refine codeAny_call_builtin_code (Code.quiet_builtin _ F.quiet) (wpAny_check_new_subT F T hC ?_)
 refine codeAny_exc_new_subT F T hC ?_ hrest
 show wpAny _ _ _ _ _ _
 have hC₁:=Heap.get?_push_of_some {cls:= .ref C,data:= .fields #[.ref h.objs.size,.none,.none,.none,.bool false,.none]}
   (Heap.get?_push_of_some {cls:= .type "tuple",data:= .seq rest.toArray} hC)
 have hfI₁:=Heap.get?_push_of_some {cls:= .ref C,data:= .fields #[.ref h.objs.size,.none,.none,.none,.bool false,.none]}
   (Heap.get?_push_of_some {cls:= .type "tuple",data:= .seq rest.toArray} hfI)
 have hn₁:((h.push {cls:= .type "tuple",data:= .seq rest.toArray}).push {cls:= .ref C,data:= .fields #[.ref h.objs.size,.none,.none,.none,.bool false,.none]}).Ns N mN:=
   let⟨o,es,ep,e,r⟩:=hn;⟨o,es,ep,Heap.get?_push_of_some _ (Heap.get?_push_of_some _ e),r⟩
 have hget:((h.push {cls:= .type "tuple",data:= .seq rest.toArray}).push
     {cls:= .ref C,data:= .fields #[.ref h.objs.size,.none,.none,.none,.bool false,.none]}).get? (h.objs.size+1)=some
     {cls:= .ref C,data:= .fields #[.ref h.objs.size,.none,.none,.none,.bool false,.none]}:=by heap_get
 have hcC:(Value.ref C::bm).contains (.ref C)=true:=by simp
 have T₁:=T.keeps (h':=(h.push {cls:= .type "tuple",data:= .seq rest.toArray}).push {cls:= .ref C,data:= .fields #[.ref h.objs.size,.none,.none,.none,.bool false,.none]})
   fun b o e=>Heap.get?_push_of_some _ (Heap.get?_push_of_some _ e)
 unfold isInstance
 repeat (first|with_reducible refine wpAny_loadPart_at hget ?_|(with_reducible refine wpAny_isSubtype_exc hC₁ ?_;rw[hcC])|wp_step)
 show wpAny _ _ (typeLookup (.ref C) _) _ _ _
 refine wpAny_typeLookup_tail hC₁ hn₁ T₁ F.mroIs F.init.lookup ?_
 rw[hi]
 refine wpAny_holding (wpAny_bind ?_)
 unfold bindSpecial
 refine wpAny_bind (wpAny_typeOf (T:="function") ⟨_,hfI₁,hfc⟩ ?_)
 rw[if_pos (by decide)]
 refine wpAny_pure (wpAny_bind (wpAny_mono (hq _ (h.objs.size+1) ⟨fun b o hb=>Heap.get?_push_of_some _ (Heap.get?_push_of_some _ hb),Heap.get?_none_of_le (Nat.le_succ _),h.objs.size,hget,Heap.get?_none_of_le (Nat.le_refl _),?_⟩) (fun r s' hr=>?_) fun _ _ x=>x))
 . exact Heap.get?_push_of_some _ (Heap.get?_push_at rfl rfl)
 obtain⟨rfl,hQ⟩:=hr
 wp_walk
 exact hQ
theorem B0j(F:ExcBaseFacts B newId initId bmB)(T:OwnTail h bmB bm){mN:Str ->Option Value}{rest:List Value}{fI:Addr}{oI:Obj}{Q:Value ->Shared ->Prop}
   (hC:h.get? C=some (excClassObj nm q C N bs bm hdct sn sub ab col dd k0 k1 k2 k3 k5 newId)) (hn:h.Ns N mN) (hi:mN "__init__"=some (.ref fI))
   (hfI:h.get? fI=some oI) (hfc:oI.cls= .type "function")
   (hq:∀h' e,Heap.MadeExcOf h h' e (.ref C) rest ->
     wpAny (model prog w) (A.under (.builtin "type.__call__" ⟨.ref C::rest,[]⟩)) (call (.ref fI) (.ref e::rest)) (fun r s'=>r= .none/\Q (.ref e) s') E ⟨h',g,d,t,os⟩) (hrest:rest.length<=sizeLine):
   wpAny (model prog w) A (call (.ref C) rest) Q E ⟨h,g,d,t,os⟩:=by
 have f1:=tc_lookup
 have f2:=tc_bind (.ref C)
 have hT:(⟨h,g,d,t,os⟩:Shared).TypeIs (.ref C) "type":=⟨_,hC,rfl⟩
 refine wpAny_call (codeAny_of_tree ?_)
 show wpAny _ _ (callAny (.ref C) _) _ _ _
 repeat (any_goals (first|assumption|with_reducible refine wpAny_loadPart_at hC ?_|wp_step))
 refine⟨rfl,?_⟩
 refine codeAny_call_builtin_at (Code.quiet_builtin _ (by decide+kernel)) entry_typeCall (wpAny_check_type_call_sub hC (A5g (hrest:=hrest) F T hC hn hi hfI hfc fun h' e hm=>?_))
 exact hq h' e hm
end
section
variable{M:Model}{prog:Program}{w:World}{A:Around}{E:Value ->Shared ->Prop}{s:Shared}{env:Env}
variable{nm q:Str}{C N:Addr}{bs bm bmB:List Value}{hdct:Bool}{sn:List Str}{sub:List Value}{ab:Bool}{col:Option Bool}{dd:Option Addr}{k0 k1 k2 k3 k5:Option Value}{B newId initId:String}
theorem A4u{x:Sem Value}{Q:Flow ->Shared ->Prop}(hbase:bm.contains (.type "BaseException")=true)(hh:A.handled=none)
   (h:wpAny M A x (fun v s₁=>∃e t de,v= .ref e/\s₁.heap.get? C=some (excClassObj nm q C N bs bm hdct sn sub ab col dd k0 k1 k2 k3 k5 newId)/\
     s₁.heap.get? e=some {cls:= .ref C,dict:=de,data:= .fields #[.ref t,.none,.none,.none,.bool false,.none]}/\E (.ref e) s₁) E s):
   wpAny M A (raiseStmt env (some x) none) Q E s:=by
 have hcB:(Value.ref C::bm).contains (.type "BaseException")=true:=by rw[List.contains_cons,hbase,Bool.or_true]
 unfold raiseStmt
 refine wpAny_bind (wpAny_mono h (fun v s₁ h₁=>?_) fun _ _ x=>x)
 obtain⟨e,t,de,rfl,hC,he,hE⟩:=h₁
 obtain⟨hp,g,d,tk,os⟩:=s₁
 repeat (first|with_reducible refine wpAny_loadPart_at he ?_|with_reducible refine wpAny_loadPart_at hC ?_|(with_reducible refine wpAny_isSubtype_exc hC ?_;rw[hcB])|wp_step)
 exact wpAny_raiseNew_none hh hE
theorem A7n(F:ExcBaseFacts B newId initId bmB){mN:Str ->Option Value}{x:Str}{np cpos pos:Pos}{args:List Expr}{Q:Flow ->Shared ->Prop}{fI:Addr}{oI:Obj}
   (hbase:bm.contains (.type "BaseException")=true) (hh:A.handled=none) (hplain:(backTo cpos (starEach args env)).any (·.1)=false) (hi:mN "__init__"=some (.ref fI)) (hfc:oI.cls= .type "function")
   (h:wpAny (model prog w) A (eval (.Name x np) env) (fun f s₁=>f= .ref C/\wpAny (model prog w) A (evalArgs (.ref C) true (backTo cpos (starEach args env)) [])
     (fun a s₂=>a.kw=[]/\a.pos.length<=sizeLine/\s₂.heap.get? C=some (excClassObj nm q C N bs bm hdct sn sub ab col dd k0 k1 k2 k3 k5 newId)/\s₂.heap.Ns N mN/\OwnTail s₂.heap bmB bm/\s₂.heap.get? fI=some oI/\
       ∀ h' e,Heap.MadeExcOf s₂.heap h' e (.ref C) a.pos ->wpAny (model prog w) (A.under (.builtin "type.__call__" ⟨.ref C::a.pos,[]⟩)) (call (.ref fI) (.ref e::a.pos))
         (fun r s₃=>r= .none/\s₃.heap.get? C=some (excClassObj nm q C N bs bm hdct sn sub ab col dd k0 k1 k2 k3 k5 newId)/\(∃t de,s₃.heap.get? e=some {cls:= .ref C,dict:=de,data:= .fields #[.ref t,.none,.none,.none,.bool false,.none]})/\E (.ref e) s₃) E {s₂ with heap:=h'}) E s₁) E s):
   wpAny (model prog w) A (exec (.Raise (some (.Call (.Name x np) args [] cpos)) none pos) env) Q E s:=by
 rw[arm_exec_Raise]
 first
   |refine wpAny_bind (wpAny_standAt (A4u (C:=C) (nm:=nm) (q:=q) (N:=N) (bs:=bs) (bm:=bm) (hdct:=hdct) (sn:=sn) (sub:=sub) (ab:=ab) (col:=col) (dd:=dd) (k0:=k0) (k1:=k1) (k2:=k2) (k3:=k3) (k5:=k5) (newId:=newId) hbase hh (wpAny_bind (wpAny_mono (wpAny_Call_ofName (wpAny_mono h (fun f s₁ h₁=>?_) fun _ _ x=>x)) (fun v s₃ h₃=>wpAny_bind (wpAny_standAt (wpAny_pure h₃))) fun _ _ x=>x))))
   |(simp only[evalOpt,Option.map];refine wpAny_bind (wpAny_standAt (A4u (C:=C) (nm:=nm) (q:=q) (N:=N) (bs:=bs) (bm:=bm) (hdct:=hdct) (sn:=sn) (sub:=sub) (ab:=ab) (col:=col) (dd:=dd) (k0:=k0) (k1:=k1) (k2:=k2) (k3:=k3) (k5:=k5) (newId:=newId) hbase hh (wpAny_bind (wpAny_mono (wpAny_Call_ofName (wpAny_mono h (fun f s₁ h₁=>?_) fun _ _ x=>x)) (fun v s₃ h₃=>wpAny_bind (wpAny_standAt (wpAny_pure h₃))) fun _ _ x=>x)))))
 obtain⟨rfl,h₁⟩:=h₁
 unfold callWith
 refine wpAny_bind (wpAny_holding (wpAny_mono h₁ (fun a s₂ h₂=>wpAny_bind (wpAny_standAt ?_)) fun _ _ x=>x))
 obtain⟨apos,akw⟩:=a
 obtain⟨hkw,hlen,hC,hn,T,hf,h₂⟩:=h₂
 obtain rfl:akw=[]:=hkw
 obtain⟨hp,g,d,tk,os⟩:=s₂
 simp only[hplain]
 refine wpAny_bind (wpAny_keeperOf_exc hC ?_)
 refine wpAny_bind (B0j F T hC hn hi hf hfc (fun h' e hm=>wpAny_mono (h₂ h' e hm) (fun r s₃ z=>⟨z.1,wpAny_bind (wpAny_holding (wpAny_point (wpAny_pure ?_)))⟩) fun _ _ x=>x) hlen)
 obtain⟨_,hC3,⟨t,de,he⟩,hE⟩:=z
 exact⟨e,t,de,rfl,hC3,he,hE⟩
end
end L2
namespace L2
open PySem PySem.Spec PyProof.Rows PySem.W
noncomputable abbrev C1v:List Value:=[.type "ValueError",.type "Exception",.type "BaseException",.type "object"]
structure C0p(K:Frag)(C fI:Addr):Prop where
 cls:∃nm q N bs bm sn sub ab col dd k0 k1 k2 k3 k5,K.lookup C=some (excClassObj nm q C N bs bm true sn sub ab col dd k0 k1 k2 k3 k5 "ValueError.__new__")/\nsOkIn K N=true/\nsIn K N "__init__"=some (some (.ref fI))/\tailIn K C1v bm=true
 fn:∃o,K.lookup fI=some o/\o.cls= .type "function"
 sa:findIn K (.ref C) "__setattr__"=some (some (.builtin "object.__setattr__"))
 ob:mroIn K C (.type "object")=some true
theorem B8x{K:Frag}{h:Heap}{N:Addr}{mg:Str ->Option Value}{n:Str}{v:Value}(X:K.In h)(G:h.Ns N mg)(e:nsIn K N n=some (some v)):mg n=some v:=by
 obtain⟨o,es,ep,ho,hd,_,hf⟩:=G
 unfold nsIn at e
 split at e
 . rename_i c d es' n' sl q
   have:=X _ _ q
   rw[ho] at this
   cases this
   cases hd
   split at e
   . rename_i en he
     cases e
     rw[<-hf]
     unfold nsFind findBy
     rw[<-Array.find?_toList,he]
     rfl
   . split at e<;>cases e
 cases e
theorem A8j{h:Heap}(self:Value):∀{l:List Value},OwnTail h C1v l ->refuseLoop self "__setattr__" l=pure ()
 |_,.base=>PySem.F.store_ValueError.passes self
 |_,.own _ _ _ t=>by rw[refuseLoop_ref];exact A8j self t
section
variable{prog:Program}{w:World}{A:Around}{s:Shared}{K:Frag}{C e fI:Addr}{t:Addr}{R:Result ->Shared ->Prop}{name:Str}{tk:Tok}{v:Value}
theorem D5n(X:K.In s.heap)(F:C0p K C fI)(he:s.heap.get? e=some (Z4 (.ref C) t none .none))(ht:findIn K (.ref C) name=some none)
   (h:∀h' tk' d,(∀b ob,b≠e ->s.heap.get? b=some ob ->h'.get? b=some ob) ->h'.get? e=some (Z4 (.ref C) t (some d) .none) ->h'.Ns1 d (fun y=>if y=name then some v else none) ->s.heap.get? d=none ->d≠e ->
     R (.ok (.ret .none)) {s with heap:=h',toks:=tk'}):
   codeAny (model prog w) A (.call (.builtin "object.__setattr__") ⟨[.ref e,.str name tk,v],[]⟩) R s:=by
 have SF:=PySem.F.store_object
 obtain⟨nm,q,N,bs,bm,sn,sub,ab,col,dd,k0,k1,k2,k3,k5,lC,nO,nI,tl⟩:=F.cls
 have hC:=X _ _ lC
 have I:PySem.W.InstAt s.heap e (Z4 (.ref C) t none .none) C none:=⟨he,rfl,rfl,trivial⟩
 have hc:clsIn K C=some {name:=nm,bases:=bs,mro:= .ref C::bm,ns:=N,qualname:=q,hasDict:=true,slotNames:=sn,subclasses:=sub,abstract:=ab,collection:=col,hasDel:=false}:=by
   unfold clsIn
   rw[lC]
 have sub':Looks (model prog w) s.heap (isInstance (.ref e) (.type "object")) true:=I.type.andThen (looks_mroIn X F.ob)
 refine codeAny_call_builtin SF.slot.plain SF.entry (@check_slot (model prog w) _ _ s "object.__setattr__" "object" "__setattr__" (.ref e) [.str name tk,v] [] _ SF.kind SF.split sub' (SF.args (.ref e) (.str name tk) v) ?_)
 have hm:Looks (model prog w) s.heap (mroOf (.ref C)) (.ref C::bm):=(looks_clsIn X hc).andThen .now
 have L3:Looks (model prog w) s.heap (Builtin.ObjectAttr.storeTaker? none) none:= .now
 rw[osa_eq,refuse_eq]
 refine wpAny_bind (wpAny_bind (I.type.here (wpAny_bind (hm.here ?_))))
 rw[refuseLoop_ref,A8j _ (tail_of_in X tl)]
 refine wpAny_pure (wpAny_bind (I.type.here (wpAny_bind ((looks_findIn X ht).here (wpAny_bind (L3.here ?_))))))
 dsimp only
 refine wpAny_bind (wpAny_pure (wpAny_bind (wpAny_bind (wpAny_loadPart he (wpAny_bind (PySem.W.Looks.here (PySem.W.looks_clsIn X hc) ?_))))))
 have hx₁:(s.heap.push {cls:= .type "dict",data:= .dict #[]}).get? e=some (Z4 (.ref C) t none .none):=Heap.get?_push_of_some _ he
 have hxs:e≠s.heap.objs.size:=Nat.ne_of_lt (Heap.lt_size he)
 show wpAny (model prog w) A.in1 (do
     let d<-alloc {cls:=Value.type "dict",data:=Data.dict #[]}
     update e fun o=>{cls:=o.cls,dict:=some d,data:=o.data,slots:=o.slots}
     pure (some d)) _ _ _
 refine wpAny_bind (wpAny_alloc' ?_)
 refine wpAny_bind (wpAny_update' hx₁ ?_)
 refine wpAny_pure ?_
 have hgd:((s.heap.push {cls:= .type "dict",data:= .dict #[]}).update e fun o=>{cls:=o.cls,dict:=some s.heap.objs.size,data:=o.data,slots:=o.slots}).get? s.heap.objs.size
     =some {cls:= .type "dict",data:= .dict #[]}:=
   (Heap.get?_update_ne _ _ _ _ hxs.symm).trans (Heap.get?_push_at rfl rfl)
 have hnd:((s.heap.push {cls:= .type "dict",data:= .dict #[]}).update e fun o=>{cls:=o.cls,dict:=some s.heap.objs.size,data:=o.data,slots:=o.slots}).Ns s.heap.objs.size (fun _=>none):=
   ⟨_, #[],_,hgd,rfl,fun e he=>absurd he (by simp),fun _=>rfl⟩
 show wpAny _ _ (Builtin.ObjectAttr.storeInDict s.heap.objs.size (.str name tk) name v) _ _ _
 unfold Builtin.ObjectAttr.storeInDict Builtin.ObjectAttr.newKeyGuard
 refine wpAny_bind (wpAny_pure (wpAny_bind (wpAny_nsSet1 (Heap.Ns1.of_empty hnd) fun h' hn' hs=>?_)))
 obtain⟨oD,esD,epD,hoD,hdD,hcD⟩:=hn'.count (Within.cons name v Within.nil)
 refine wpAny_bind (wpAny_lookBehind hoD (by rw[hdD];exact pastItsLine_dict (Nat.le_trans hcD (by rw[List.length_cons,List.length_nil,sizeLine_eq];omega))) ?_)
 have hx':h'.get? e=some (Z4 (.ref C) t (some s.heap.objs.size) .none):=(hs.2 e hxs).trans (Heap.get?_update_self _ hx₁ rfl)
 refine wpAny_pure (h h' _ s.heap.objs.size (fun b ob hbx hb=>?_) hx' hn' (Heap.get?_none_of_le (Nat.le_refl _)) hxs.symm)
 exact(hs.2 b (Nat.ne_of_lt (Heap.lt_size hb))).trans ((Heap.get?_update_ne _ _ _ _ hbx).trans (Heap.get?_push_of_some _ hb))
end
noncomputable def A2k (e C t:Addr) (d:Option Addr):Heap ->Prop:=fun h=>h.get? e=some (Z4 (.ref C) t d .none)
theorem C9k{P:Program}{w:World}{H:Hp}{h:Heap}{e C t:Addr}{d:Option Addr}(q:h.get? e=some (Z4 (.ref C) t d .none)):Y7 P w H h e (.ext (A2k e C t d)):=
 ⟨q,⟨_,q⟩,fun _ _ z k=>k _ z⟩
section
variable{X:Cx}{pins:List (Addr×Obj)}{σ:St}{H:Hp}{s:Shared}
theorem Inv.trackO{a:Addr}{ho:HO}(I:Inv X pins σ H s)(n:Nw X pins H a)(ok:Y7 X.prog X.w (upd H a ho) s.heap a ho):Inv X pins σ (upd H a ho) s:=by
 have ne:∀b u,H b=some u ->b≠a:=fun b u z q=>by rw[q,n.un] at z;cases z
 have up:∀b,b≠a ->upd H a ho b=H b:=fun b hb=>C7 hb
 refine⟨I.ok,I.os,I.bare,⟨I.base.keep,I.base.slot,fun b u z m hx=>?_,I.base.there,fun b xs z=>?_,fun b u v z=>?_,fun b ps z=>?_⟩,I.loc,I.cell,?_,fun x c z=>?_,fun p hp=>?_,fun b u z=>?_,I.len⟩
 . rw[up b fun q=>by rw[q,n.old] at z;cases z]
   exact I.base.free b u z m hx
 . have:=I.base.tups b xs z
   rw[up b (ne b _ this)];exact this
 . have:=I.base.frzs b u v z
   rw[up b (ne b _ this)];exact this
 . obtain⟨more,this⟩:=I.base.tbls b ps z
   exact⟨more,by rw[up b (ne b _ this)];exact this⟩
 . rw[up _ (Ne.symm n.loc)];exact I.free
 . rw[up _ (n.cell x c z)];exact I.freeC x c z
 . obtain⟨q1,q2,q3⟩:=I.pin p hp
   exact⟨q1,by rw[up _ (n.pin p hp)];exact q2,q3⟩
 by_cases hb:b=a
 . subst hb
   rw[A6] at z
   cases z
   exact ok
 rw[up b hb] at z
 exact(I.hok b u z).stay (fun _ _ _ q=>q) (fun c q=>by rw[up c (ne c _ q)];exact q) (fun c xs q=>by rw[up c (ne c _ q)];exact q)
noncomputable def rem (H:Hp) (a:Addr):Hp:=fun b=>if b=a then none else H b
theorem B1t{a:Addr}:rem H a a=none:=by unfold rem;rw[if_pos rfl]
theorem A3h{a b:Addr}(h:b≠a):rem H a b=H b:=by unfold rem;rw[if_neg h]
theorem Inv.forget{a:Addr}{φ:Heap ->Prop}(I:Inv X pins σ H s)(e:H a=some (.ext φ)):Inv X pins σ (rem H a) s:=by
 have ne:∀b u,H b=some u ->(∀φ,u≠ .ext φ) ->b≠a:=fun b u z q w=>by rw[w,e] at z;cases z;exact q _ rfl
 have non:∀b,H b=none ->rem H a b=none:=fun b z=>by
   by_cases q:b=a
   . rw[q];exact B1t
   . rw[A3h q];exact z
 refine⟨I.ok,I.os,I.bare,⟨I.base.keep,I.base.slot,fun b u z m hx=>non b (I.base.free b u z m hx),I.base.there,fun b xs z=>?_,fun b u v z=>?_,fun b ps z=>?_⟩,I.loc,I.cell,non _ I.free,fun x c z=>non _ (I.freeC x c z),fun p hp=>?_,fun b u z=>?_,I.len⟩
 . have:=I.base.tups b xs z
   rw[A3h (ne b _ this (fun _ q=>nomatch q))];exact this
 . have:=I.base.frzs b u v z
   rw[A3h (ne b _ this (fun _ q=>nomatch q))];exact this
 . obtain⟨more,this⟩:=I.base.tbls b ps z
   exact⟨more,by rw[A3h (ne b _ this (fun _ q=>nomatch q))];exact this⟩
 . obtain⟨q1,q2,q3⟩:=I.pin p hp
   exact⟨q1,non _ q2,q3⟩
 have hb:b≠a:=fun q=>by rw[q,B1t] at z;cases z
 rw[A3h hb] at z
 exact(I.hok b u z).stay (fun _ _ _ q=>q) (fun c q=>by rw[A3h (ne c _ q (fun _ w=>nomatch w))];exact q) (fun c xs q=>by rw[A3h (ne c _ q (fun _ w=>nomatch w))];exact q)
end
noncomputable def G4v (C:Addr) (ta tv:TE) (f:Str):TS:=fun D σ H=>tv σ H fun y H1=>ta σ H1 fun x H2=>∃e t,x= .ref e/\H2 e=some (.ext (A2k e C t none))/\
 ∀d,H2 d=none ->d≠e ->D.nx σ (upd (upd H2 e (.ext (A2k e C t (some d)))) d (.xd [(f,y)]))
section
variable{X:Cx}{o value:Expr}{f:Str}{pos pos':Pos}{ta tv:TE}{C fI:Addr}
theorem D7y(F:C0p X.K C fI)(hf:findIn X.K (.ref C) f=some none)(ha:PE X o ta)(hv:PE X value tv)(hs:swapsWith value (some (.Attribute o f pos')) pos.line X.env=pure false)(hex:X.ex=[]:=by rfl):
   PS X (.Assign [.Attribute o f pos'] value pos) (G4v C ta tv f):=by
 intro pins s σ H D I h
 refine plainObj_wpAny_Assign_Attribute (thn (hv pins s σ H _ I h) fun u s1 ⟨y,H1,I1,ry,q⟩=>thn (ha pins s1 σ H1 _ I1 q) fun ov s2 hh_=>?_) hs
 obtain⟨x,H2,I2,rx,e,t,ex,ea,q2⟩:=hh_
 subst ex
 obtain rfl:ov=Value.ref e:=rx
 have he:s2.heap.get? e=some (Z4 (.ref C) t none .none):=(I2.hok e _ ea).1
 refine set_plain I2.kIn (⟨he,rfl,rfl,trivial⟩:PySem.W.InstAt s2.heap e (Z4 (.ref C) t none .none) C none) F.sa (D5n (s:={s2 with toks:=s2.toks+1}) I2.kIn F he hf fun h' tk' d k1 k2 k3 k4 k5=>?_)
 have nd:H2 d=none:=I2.hok.new k4
 have I3:Inv X pins σ (upd H2 e (.ext (A2k e C t (some d)))) {s2 with heap:=h',toks:=tk'}:=
   I2.write (x:=e) (e:=e) (by rw[ea];exact trivial) (.inl rfl) (fun b u hb z=>k1 b u hb z) ⟨_,k2⟩ (C9k k2)
 have nw:Nw X pins (upd H2 e (.ext (A2k e C t (some d)))) d:=I2.nw hex k4 (by rw[C7 k5];exact nd)
 refine⟨σ,_,I3.trackO (ho:= .xd [(f,y)]) nw ⟨_,k3,fun g=>?_⟩,q2 d nd k5⟩
 show A4b (List.lookup g [(f,y)]) (if g=f then some u else none)
 by_cases z:g=f
 . rw[if_pos z,z]
   have:List.lookup f [(f,y)]=some y:=by simp[List.lookup]
   rw[this];exact ry
 rw[if_neg z]
 have:List.lookup g [(f,y)]=none:=by
   have hb:(g==f)=false:=beq_eq_false_iff_ne.mpr z
   simp[List.lookup,hb]
 rw[this];exact trivial
end
noncomputable def B0r (C:Addr) (f:Str):Sp:=fun vs H Q _=>∃e t v,vs=[.ref e,v]/\H e=some (.ext (A2k e C t none))/\∀d,H d=none ->d≠e ->Q .non (upd (upd H e (.ext (A2k e C t (some d)))) d (.xd [(f,v)]))
noncomputable def C2e (C:Addr) (f:Str) (EH:EK) (t:TA):TS:=fun _ σ H=>t σ H fun vs H1=>∃v,vs=[v]/\∀d H2,B7 H1 H2 ->H1 d=none ->H2 d=some (.xd [(f,v)]) ->EH (.ref C) (some d) σ H2
section
variable{X:Cx}{x f:Str}{p cpos pos:Pos}{e:Expr}{t:TA}{C fI:Addr}{fdI:FuncData}{ps:List Str}{EH:EK}{j k:Nat}
theorem C4v(hm:X.mg x=some (.ref C))(F:C0p X.K C fI)(G:G8 X.prog X.w X.K X.mg X.base CX0 j fI fdI ps (B0r C f))(bI:V4 X.K fdI ps [])(hr:A0h k X.A)(hx:V3 X EH)(ha:PA X [e] t)(hj:j+1<=k:=by decide)(hg:Gl X x:=by rfl)(hex:X.ex=[]:=by rfl)
   (hdb:(x==("__debug__":Str))=false:=by decide) (he:starEach [e] X.env=(false,eval e X.env)::starEach [] X.env:=by rfl) (hpl:(backTo cpos (starEach [] X.env)).any (·.1)=false:=by rfl):
   PS X (.Raise (some (.Call (.Name x p) [e] [] cpos)) none pos) (C2e C f EH t):=by
 intro pins s σ H D I h
 obtain⟨nm,q,N,bs,bm,sn,sub,ab,col,dd,k0,k1,k2,k3,k5,lC,nO,nI,tl⟩:=F.cls
 obtain⟨oI,lI,cI⟩:=F.fn
 have T0:OwnTail X.base C1v bm:=tail_of_in I.ok.mod.kin tl
 have hN0:X.base.Ns N (X.base.nsMap N):= .of_isNs (isNs_of_in I.ok.mod.kin nO)
 have hi0:X.base.nsMap N "__init__"=some (.ref fI):=B8x I.ok.mod.kin hN0 nI
 refine A7n (C:=C) (nm:=nm) (q:=q) (N:=N) (bs:=bs) (bm:=bm) (hdct:=true) (sn:=sn) (sub:=sub) (ab:=ab) (col:=col) (dd:=dd) (k0:=k0) (k1:=k1) (k2:=k2) (k3:=k3) (k5:=k5) (oI:=oI) PySem.F.excBase_ValueError (mN:=X.base.nsMap N) (T0.hasType PySem.F.excBase_ValueError.hasBase) hr.hd
   (by rw[he];show(false||(backTo cpos (starEach [] X.env)).any (·.1))=false;rw[hpl];rfl) hi0 cI (Z1 I hg hm ⟨rfl,?_⟩ hdb)
 have ha':=ha cpos pins s σ H _ I h
 rw[he] at ha' ⊢
 refine Calls.evalArgs_plain (wpAny_mono ha' (fun us s2 hh_=>?_) fun _ _ y=>y)
 obtain⟨vs,H1,I1,r,v,ev,z⟩:=hh_
 subst ev
 obtain⟨u,rfl,ru⟩:=r.one
 refine⟨rfl,D0 (by show 1<=1000;decide),I1.kIn _ _ lC,hN0.keeps I1.bk,T0.keeps I1.bk,I1.kIn _ _ lI,fun h' a m=>?_⟩
 obtain⟨t',e1,tn,e2⟩:=m.there
 have I2:Inv X pins σ H1 {s2 with heap:=h'}:=I1.kept (t':=s2.toks) m.keeps
 have na:H1 a=none:=I1.hok.new m.new
 have I3:=I2.trackO (ho:= .ext (A2k a C t' none)) (I1.nw hex m.new na) (C9k e1)
 have sp0:B0r C f [.ref a,v] (upd H1 a (.ext (A2k a C t' none))) (fun v0 H'=>v0= .non/\∃d,H1 d=none/\d≠a/\H'=upd (upd (upd H1 a (.ext (A2k a C t' none))) a (.ext (A2k a C t' (some d)))) d (.xd [(f,v)])) E0:=
   ⟨a,t',v,rfl,A6,fun d nd nda=>⟨rfl,d,by rw[C7 nda] at nd;exact nd,nda,rfl⟩⟩
 have rr:G7 [.ref a,v] [.ref a,u]:= .cons rfl (.cons ru .nil)
 have hl:([Value.ref a,u]++ []).length=ps.length:=by
   have:=G.len _ _ _ _ sp0
   rw[<-this];rfl
 refine wpAny_call (codeAny_mono (G.run _ X.stack _ _ ⟨[.ref a,u],[]⟩ ([.ref a,u]++ []) [.ref a,v] _ E0 ((hr.mono hj).make C [u] []) (I3.env0.make C [u] []) (bI _ [.ref a,u] I3.kIn hl) rr sp0) fun r s' hq=>?_)
 cases r with
 |error e=>exact hq.elim
 | ok fl=>
   cases fl with
   | ret u0=>
     obtain⟨v0,H',I4,rv,ev,d,nd,nda,eH⟩:=I3.after hq
     subst ev eH
     have ea:(upd (upd (upd H1 a (.ext (A2k a C t' none))) a (.ext (A2k a C t' (some d)))) d (.xd [(f,v)])) a=some (.ext (A2k a C t' (some d))):=by
       rw[C7 (Ne.symm nda),A6]
     have g1:s'.heap.get? a=some (Z4 (.ref C) t' (some d) .none):=(I4.hok a _ ea).1
     refine⟨rv,I4.kIn _ _ lC,⟨t',some d,g1⟩,?_⟩
     refine hx pins σ _ s' a t' (.ref C) (some d) (I4.forget ea) ⟨I1.nw hex m.new B1t,.none,g1,.inl rfl,fun T z=>nomatch z⟩ (z d _ (fun b ob q=>?_) nd ?_)
     . have nb:b≠a:=D9 q na
       have nbd:b≠d:=D9 q nd
       rw[A3h nb,C7 nbd,C7 nb,C7 nb]
       exact q
     . rw[A3h nda,A6]
   |next=>exact hq.elim
   |brk=>exact hq.elim
   |cont=>exact hq.elim
end
theorem C9y{prog:Program}{w:World}{A:Around}{E:Value ->Shared ->Prop}{s:Shared}{K:Frag}{a C:Addr}{oa:Obj}{od:Option Obj}{name:Str}{v:Value}{b:Bool}{Q:Value ->Shared ->Prop}(F:B5r K C)(X:K.In s.heap)(I:PySem.W.InstAt s.heap a oa C od)
   (hf:findObj K C od name=some (.value v)) (hh:handedIn v=true) (h:Q v {s with toks:=s.toks+1}):wpAny (model prog w) A (getAttr (.ref a) name b) Q E s:=by
 obtain⟨hp,g,d,t,os⟩:=s
 have L0:=I.type (M:=model prog w)
 have L1:=looks_findIn (M:=model prog w) X F.ga
 have L2:=looks_findIn (M:=model prog w) X F.gh
 have L3:Looks (model prog w) hp (isInstance (.ref a) (.type "BaseException")) true:=L0.andThen (looks_subIn X F.be)
 have L4:=looks_find (M:=model prog w) X I hf
 have hk:builtinKind "BaseException.__getattribute__"=some .slot:=by decide+kernel
 have hsplit:splitId "BaseException.__getattribute__"=some ("BaseException","__getattribute__"):=by decide+kernel
 have hargs:=PySem.F.args_bexc_ga (.ref a) (.str name t)
 have hb:=PySem.F.attr_ValueError.ga.bind (.ref a)
 unfold getAttr getAttrBy
 refine wpAny_bind (wpAny_mkText (wpAny_holding (wpAny_bind (L0.at (wpAny_bind (L1.at ?_))))))
 dsimp only
 rw[if_neg (show¬((onTheHeap (Value.ref C)&&Value.builtin "BaseException.__getattribute__"==Value.builtin "object.__getattribute__")=true) by
   rw[show(Value.builtin "BaseException.__getattribute__"==Value.builtin "object.__getattribute__")=false by decide+kernel,Bool.and_false];exact Bool.false_ne_true)]
 unfold getAttrByItsOwn
 refine wpAny_bind (m:=hookBefore (.ref C)) (L2.at ?_)
 refine wpAny_bind (wpAny_attempt (wpAny_holding ?_))
 unfold callGetattribute
 rw[if_neg (show¬((b&&onTheHeap (Value.builtin "BaseException.__getattribute__"))=true) by
   rw[show onTheHeap (Value.builtin "BaseException.__getattribute__")=false from rfl,Bool.and_false];exact Bool.false_ne_true)]
 unfold boundAndCalled
 rw[hb]
 refine wpAny_bind (wpAny_pure ?_)
 refine wpAny_call (codeAny_call_builtin PySem.F.attr_ValueError.ga.plain PySem.F.entry_bexc_ga ?_)
 have chk:∀{A':Around} {Q':Unit ->Shared ->Prop} {E':Value ->Shared ->Prop},Q' () ⟨hp,g,d,t+1,os⟩ ->wpAny (model prog w) A' (checkBuiltinCall "BaseException.__getattribute__" ⟨[.ref a,.str name t],[]⟩) Q' E' ⟨hp,g,d,t+1,os⟩:=by
   intro A' Q' E' hq
   simp only[checkBuiltinCall,hk,hsplit]
   refine wpAny_bind ?_
   refine L3.at ?_
   repeat (first|assumption|wp_step)
 refine chk ?_
 show wpAny _ _ (Builtin.«object.__getattribute__» ⟨[.ref a, .str name t], []⟩) _ _ _
 unfold Builtin.«object.__getattribute__»
 refine wpAny_bind (wpAny_pure ?_)
 refine wpAny_bind (wpAny_pure ?_)
 refine wpAny_bind (L0.at (wpAny_bind (L4.at ?_)))
 dsimp only
 refine wpAny_pure ?_
 exact handed_on hh h
noncomputable def D8z (K:Frag) (ta:TE) (f:Str):TE:=fun σ H Q=>ta σ H fun x H1=>∃a C t T d u fs v,x= .ref a/\H1 a=some (.frz (Z4 (.ref C) t (some d) T) u)/\H1 d=some (.xd fs)/\B5r K C/\(∃cd,clsIn K C=some cd/\cd.hasDict=true)/\findIn K (.ref C) f=some none/\fs.lookup f=some v/\Q v H1
section
variable{X:Cx}{e:Expr}{f:Str}{pos:Pos}{ta:TE}
theorem D7x(he:PE X e ta)(hb:attributeBase e f X.env (eval e X.env)=eval e X.env):PE X (.Attribute e f pos) (D8z X.K ta f):=by
 intro pins s σ H Q I h
 refine C1e hb (thn (he pins s σ H _ I h) fun u s1 hh_=>?_)
 obtain⟨x,H1,I1,rx,a,C,t,T,d,u0,fs,v,ex,ea,hd,k,⟨cd,hc,hD⟩,hn,l,q⟩:=hh_
 subst ex
 obtain rfl:u=Value.ref a:=rx
 have o1:s1.heap.get? a=some (Z4 (.ref C) t (some d) T):=(I1.hok a _ ea).1
 obtain⟨mA,nA,rA⟩:=(show∃mA,s1.heap.Ns1 d mA/\∀f,A4b (fs.lookup f) (mA f) from I1.hok d _ hd)
 obtain⟨od,o2,lk⟩:=A7m nA
 obtain⟨uv,hu,ru⟩:=A4b.some_of (v:=v) (o:=mA f) (by rw[<-l];exact rA f)
 have J:PySem.W.InstAt s1.heap a (Z4 (.ref C) t (some d) T) C (some od):=⟨o1,rfl,rfl,o2⟩
 have hf:findObj X.K C (some od) f=some (.value uv):=by
   unfold findObj
   rw[hc,Option.bind_some,hn,Option.bind_some]
   show((PySem.W.ownOf cd (some od) f).bind _)=_
   unfold PySem.W.ownOf
   rw[hD,if_pos rfl]
   show((lookIn f od).bind _)=_
   rw[lk f,hu]
   rfl
 exact C9y k I1.kIn J hf (B2x ru) ⟨v,H1,I1.tok _,ru,q⟩
end
noncomputable def A4p (z:Str) (n:Int):Str:=if n<1 then Str.empty else if(n==1||z.length==0)=true then z else⟨(List.replicate n.toNat z.cps).foldl (· ++ ·) #[]⟩
noncomputable def D9r:R2:=fun x y H Q=>∃z n,x= .str z/\y= .int n/\ -(2^63)<=n/\n<2^63/\z.length*n.toNat<=sizeLine/\Q (.str (A4p z n)) H
theorem B3b(z:Array Nat):∀(k:Nat) (acc:Array Nat),((List.replicate k z).foldl (· ++ ·) acc).toList=acc.toList++(List.replicate k z.toList).flatten
 |0,acc=>by simp
 | k+1,acc=>by
   rw[List.replicate_succ,List.foldl_cons,B3b z k,Array.toList_append,List.replicate_succ,List.flatten_cons,List.append_assoc]
theorem A1d(z:Str):z.cps.toList.length=z.length:=Array.length_toList
theorem A8m(z:Str)(n:Int):(A4p z n).cps.toList=(List.replicate n.toNat z.cps.toList).flatten:=by
 unfold A4p
 split
 . have:n.toNat=0:=by omega
   rw[this];rfl
 split
 . rename_i h1 h2
   rcases Bool.or_eq_true _ _|>.mp h2 with h|h
   . have:n=1:=by simpa using h
     subst this
     simp
   . have e:z.length=0:=by simpa using h
     have e2:z.cps.toList=[]:=List.eq_nil_of_length_eq_zero (by rw[A1d];exact e)
     rw[e2]
     have:∀k:Nat,(List.replicate k ([]:List Nat)).flatten=[]:=fun k=>by simp
     rw[this]
 show((List.replicate n.toNat z.cps).foldl (· ++ ·) #[]).toList=_
 rw[B3b]
 rfl
theorem B0a(z:Str)(n:Int):(A4p z n).length=n.toNat*z.length:=by
 rw[<-A1d,A8m,C1s,A1d]
section
variable{X:Cx}
theorem C0h:OpR X (binaryOp .Mult) D9r:=by
 intro pins s σ H x y v u Q I rx ry h
 obtain⟨z,n,rfl,rfl,h1,h2,hz,q⟩:=h
 obtain⟨t,rfl⟩:=rx
 obtain⟨t',rfl⟩:=ry
 have lo:¬n< -(2^63:Int):=by omega
 have hi:¬n>=(2^63:Int):=by omega
 have hl:=B0a z n
 have hs:(A4p z n).length<=sizeLine:=by rw[hl,Nat.mul_comm];exact hz
 refine PySem.P.mul_str (by rw[decide_eq_false lo,decide_eq_false hi];rfl) (fun n1 n2=>?_) (fun n1 n2=>D5v hz) ?_
 . intro g
   have p:0<n:=by omega
   have e:((z.length*n.toNat:Nat):Int)=(z.length:Int)*n:=by rw[Int.natCast_mul,Int.toNat_of_nonneg (by omega)]
   have c:((z.length*n.toNat:Nat):Int)<=(sizeLine:Nat):=Int.ofNat_le.mpr hz
   have k:(sizeLine:Nat)<=2^63-1:=by decide
   have k':((sizeLine:Nat):Int)<=(2^63-1:Int):=by
     have:=Int.ofNat_le.mpr k
     exact this
   have:(z.length:Int)<=(2^63-1)/n:=(Int.le_ediv_iff_mul_le p).mpr (by omega)
   omega
 unfold A4p at q hs
 split
 . rw[if_pos (by assumption)] at q
   exact⟨by decide,.str _,H,I.tok _,⟨_,rfl⟩,q⟩
 rw[if_neg (by assumption)] at q hs
 split
 . rw[if_pos (by assumption)] at q
   exact⟨.str _,H,I,⟨_,rfl⟩,q⟩
 rw[if_neg (by assumption)] at q hs
 exact⟨hs,.str _,H,I.tok _,⟨_,rfl⟩,q⟩
theorem B2k:A1n X (.type "int") (fun xs H Q=>∃z n,xs=[.str z]/\PySem.intText? z=some n/\z.length<=640/\Q (.int n) H):=by
 intro pins s σ H xs us Q I r h
 obtain⟨z,n,rfl,h1,h2,q⟩:=h
 obtain⟨u,rfl,t,rfl⟩:=B0z r
 exact KIN.call_text h1 h2 ⟨.int n,H,I.tok _,⟨_,rfl⟩,q⟩
end
noncomputable def C4h (n:Nat):Str:=("1":Str)++A4p ("0":Str) (n:Int)
theorem C4t(n:Nat):(List.replicate n [48]).flatten=List.replicate n 48:=by
 induction n with
 |zero=>rfl
 |succ n ih=>rw[List.replicate_succ,List.flatten_cons,ih,List.replicate_succ];rfl
theorem A5c(n:Nat):(C4h n).cps.toList=49::List.replicate n 48:=by
 unfold C4h
 show(("1":Str).cps++(A4p ("0":Str) (n:Int)).cps).toList=_
 rw[Array.toList_append,A8m]
 have a:("1":Str).cps.toList=[49]:=by decide+kernel
 have b:("0":Str).cps.toList=[48]:=by decide+kernel
 rw[a,b]
 show [49]++(List.replicate n [48]).flatten=_
 rw[C4t]
 rfl
theorem B7c(n:Nat):(C4h n).length=n+1:=by
 rw[<-A1d,A5c]
 simp
theorem B9e(n:Nat):∀a:Nat,(List.replicate n 48).foldl (fun acc c=>acc*10+(c-48)) a=a*10^n:=by
 induction n with
 |zero=>intro a;simp
 | succ n ih=>
   intro a
   rw[List.replicate_succ,List.foldl_cons,ih,Nat.pow_succ]
   show(a*10+0)*10^n=_
   rw[Nat.add_zero,Nat.mul_assoc,Nat.mul_comm 10]
theorem C5x(n:Nat)(h:n<=600):PySem.intText? (C4h n)=some ((10^n:Nat):Int):=by
 have e:PySem.NumText.digitsVal (C4h n).cps.toList=10^n:=by
   rw[A5c]
   unfold PySem.NumText.digitsVal
   rw[List.foldl_cons,B9e]
   show(0*10+1)*10^n=_
   omega
 rw[<-e]
 refine PySem.intText_digits ?_ ?_ ?_
 . rw[A5c]
   intro c hc
   rcases List.mem_cons.mp hc with rfl|hc
   . exact⟨by decide,by decide⟩
   . obtain⟨_,rfl⟩:=List.mem_replicate.mp hc
     exact⟨by decide,by decide⟩
 . rw[A5c];exact fun z=>nomatch z
 rw[B7c];omega
section
variable{X:Cx}
theorem B5y(hc:X.A.handled=none):A1n X (.builtin "all") (fun xs H Q=>∃(l:Addr) (bs:List Bool),xs=[.ref l]/\SqL X.K H l (bs.map V.bl)/\Q (.bl (bs.all id)) H):=by
 intro pins s σ H xs us Q I r h
 obtain⟨l,bs,rfl,hl,q⟩:=h
 obtain⟨u,rfl,ru⟩:=G7.one r
 cases ru
 obtain⟨its,rv,p,hz⟩:=I.list hl
 obtain⟨o,e,_⟩:=id p.isList
 have hlt:l<s.heap.objs.size:=Heap.lt_size e
 have hlen:its.length=bs.length:=by rw[<-rv.length,List.length_map]
 refine call_all_walk (wpAny_pyIter_list p.isList ?_)
 refine⟨s.heap.objs.size,[s.heap.objs.size,l],[s.heap.objs.size],its.toArray.size,_,_,fun i=>(bs[i]?).getD true,rfl,Walks.list (A:=X.A.in1) hc _ l (Nat.ne_of_lt hlt) its.toArray,⟨⟨_,Heap.get?_push_size _ rfl,rfl,rfl⟩,p.isList.push _⟩,fun i v s' Q' E' hP hQ=>?_,fun h' tk hk=>?_⟩
 . have hP:its[i]?=some v:=by simpa using hP
   have hi:i<bs.length:=by rw[<-hlen];exact(List.getElem?_eq_some_iff.mp hP).1
   obtain⟨u',hu',ru'⟩:=rv.get (i:=i) (x:=V.bl bs[i]) (by simp[hi])
   rw[hP] at hu'
   cases hu'
   cases ru'
   have z:(bs[i]?).getD true=bs[i]:=by simp[hi]
   dsimp only at hQ
   rw[z] at hQ
   exact wpAny_truthy_bool hQ
 have z:((List.range its.toArray.size).all fun i=>(bs[i]?).getD true)=bs.all id:=by
   rw[List.size_toArray,hlen]
   exact LSm.range_all bs
 rw[z]
 exact⟨.bl (bs.all id),H,I.kept fun b x e=>hk b x (fun hm=>by rw[List.mem_singleton.mp hm] at e;exact Nat.lt_irrefl _ (Heap.lt_size e)) (Heap.get?_push_of_some _ e),rfl,q⟩
noncomputable def G7a:V ->List V ->Hp ->VK ->Prop:=fun x vs H Q=>∃i,x= .int i/\vs=[]/\Q (.int ((Builtin.Int.intBits i:Nat):Int)) H
theorem A5m:MtR X "int.bit_length" G7a:=by
 intro pins s σ H x xs v us Q I rx rs h
 obtain⟨i,rfl,rfl,q⟩:=h
 obtain⟨t,rfl⟩:=rx
 cases rs
 exact call_int_bit_length ⟨.int _,H,I.tok _,⟨_,rfl⟩,q⟩
end
section
variable{X:Cx}{a b:Expr}{rest:List Expr}{pos:Pos}{ta tb:TE}
end
section
variable{X:Cx}{j k:Nat}{f C:Addr}{fd:FuncData}{ps:List Str}{sp:Sp}{dvs:List V}{ds:List Value}{x m:Str}{p pos apos:Pos}{e o:Expr}{es:List Expr}{ta:TE}{t:TA}{st:Stmt}
theorem D5h{pins:List (Addr×Obj)}{σ:St}{H:Hp}{s:Shared}{Q:VK}{us:List Value}{vs:List V}(F:G8 X.prog X.w X.K X.mg X.base (CX1 X.prog X.w) k f fd ps sp)(hr:A0h k X.A)(hb:V4 X.K fd ps ds)(hd:G7 dvs ds)
   (I:Inv X pins σ H s) (r:G7 vs us) (h:sp (vs++dvs) H Q (fun C d H'=>EKF C d σ H')):wpAny (model X.prog X.w) X.A (call (.ref f) us) (EP X pins σ Q) X.xe s:=by
 have r2:G7 (vs++dvs) (us++ds):=r.append hd
 have hl:(us++ds).length=ps.length:=by rw[<-r2.length];exact F.len _ _ _ _ h
 refine wpAny_call (codeAny_mono (F.run X.A X.stack s H ⟨us,[]⟩ (us++ds) (vs++dvs) Q _ hr I.env0 (hb s us I.kIn hl) r2 h) fun r s' hq=>?_)
 cases r with
 | error e=>
   obtain⟨a,t,C,dd,H',_,_,_,_,_,hE,_⟩:=hq
   exact False.elim hE
 | ok fl=>
   cases fl with
   |ret u=>exact I.after hq
   |next=>exact False.elim hq
   |brk=>exact False.elim hq
   |cont=>exact False.elim hq
theorem A3w(D:Def X.K X.mg x ps st f fd)(F:G8 X.prog X.w X.K X.mg X.base (CX1 X.prog X.w) j f fd ps sp)(hr:A0h k X.A)(ha:PA X (e::es) t)(hj:j<=k:=by decide)(hg:Gl X x:=by rfl)(hdb:(x==("__debug__":Str))=false:=by decide)
   (he:starEach (e::es) X.env=(false,eval e X.env)::starEach es X.env:=by rfl) (hpl:(backTo pos (starEach es X.env)).any (·.1)=false:=by rfl):PE X (.Call (.Name x p) (e::es) [] pos) (A2r sp [] EKF t):=by
 intro pins s σ H Q I h
 refine wpAny_Call_Name_kw (Z1 I hg D.g ?_ hdb)
 refine PySem.W.callWith_K (h₀:=X.base) I.ok.mod.kin D.F.kp (thn (ha pos pins s σ H _ I h) fun us s1 ⟨vs,H1,I1,r,q⟩=>⟨I1.kIn,?_⟩) he hpl
 exact D5h (F.mono hj) hr D.b .nil I1 r q
end
section
variable{X:Cx}{N F:List Str}{js:List Nat}{scope:Scope}
theorem B3m{pins:List (Addr×Obj)}{σ:St}{H:Hp}{s:Shared}{fp:List Addr}{h':Heap}(S:D5 N F js scope X.N X.env)(I:Inv X pins σ H s)(hf:∀b∈fp,A0s X pins H b)(hit:∀b∈fp,∃o,s.heap.get? b=some o)(hnb:∀b∈fp,X.base.get? b=none)
   (hns:h'.Ns s.heap.objs.size (fun _=>none)) (hsb:∀b o,s.heap.get? b=some o ->h'.get? b=some o) {tk:Nat}:
   Inv (X.compF scope N F s.heap.objs.size s H fp (X.pn++pins)) [] (List.replicate N.length none++A2z js σ) H {s with heap:=h',toks:=tk}:=by
 have ck:∀c v,s.heap.IsCell c v ->h'.IsCell c v:=fun c v ⟨o,e,d⟩=>⟨o,hsb _ _ e,d⟩
 have inF:∀x,((compEnvC scope (A1a F X.env) s.heap.objs.size X.env).kindOf x=some .cell\/(compEnvC scope (A1a F X.env) s.heap.objs.size X.env).kindOf x=some .free) ->x∈F:=by
   intro x z
   have z:(relabel scope X.env).names.lookup x=some .cell\/(relabel scope X.env).names.lookup x=some .free:=z
   rcases z with z|z
   . exact S.fr _ (PySem.mem_of_lookup z) (.inl rfl)
   . exact S.fr _ (PySem.mem_of_lookup z) (.inr rfl)
 refine⟨⟨I.ok.mod,S.kind,I.ok.glob,I.ok.blt,Nat.le_refl _,fun x y c z z'=>I.ok.inj x y c (S.sub x c z) (S.sub y c z'),fun x z=>?_,fun x c z _=>(nomatch z),I.ok.hd,I.ok.frames,.inl rfl,fun b hb=>?_,I.bs,Nat.le_trans I.ok.bsz I.sz,fun b o e hb=>?_,fun b hb hfs=>?_,I.stack,I.stkFree⟩,
   rfl,I.bare,Un.kept hsb,⟨_,hns,fun i x v e1 e2 e3=>A4z S I (fun x c v _ z=>ck c v z) i x v e1 e2⟩,fun x c z=>?_,I.hok.fresh (Nat.le_refl _),fun x c z=>I.freeC x c (S.sub x c z),fun p hp=>?_,I.hok.kept hsb,B5b S σ⟩
 . obtain⟨c,h1,_⟩:=S.has (inF x z)
   exact⟨c,h1⟩
 . obtain⟨oi,ei⟩:=hit b hb
   exact⟨Nat.ne_of_lt (Heap.lt_size ei),fun x c z=>(hf b hb).2.2.2.2.1 x c (S.sub x c z)⟩
 . rw[hnb b hb] at e
   cases e
 . rcases List.mem_cons.mp (I.stkSub b hfs) with z|z
   . exact(hf b hb).2.1 z
   . exact(hf b hb).2.2.1 z
 . obtain⟨v,z'⟩:=I.cell x c (S.sub x c z)
   exact⟨v,ck c v z'⟩
 have hp':p∈X.pn++pins:=by simpa using hp
 obtain⟨q1,q2,q3,q4,q5⟩:=I.pin p hp'
 refine⟨hsb _ _ q1,q2,Nat.ne_of_lt (Heap.lt_size q1),fun z=>?_,q5⟩
 rcases List.mem_cons.mp (I.stkSub p.1 z) with z|z
 . exact q3 z
 exact q4 z
theorem B0y{pins pl:List (Addr×Obj)}{σ σ':St}{H H':Hp}{s s':Shared}{fp:List Addr}(S:D5 N F js scope X.N X.env)(I:Inv X pins σ H s)(hf:∀b∈fp,A0s X pins H b)(J:Inv (X.compF scope N F s.heap.objs.size s H fp (X.pn++pins)) pl σ' H' s'):
   Inv (X.compF scope N F s.heap.objs.size s H fp (X.pn++pins)) [] (List.replicate N.length none++A2z js σ) H' s':=by
 obtain⟨m,hn,_⟩:=J.loc
 refine⟨J.ok,J.os,J.bare,J.base,⟨m,hn,fun i x v e1 e2 e3=>A4z S I (fun x c v z q=>?_) i x v e1 e2⟩,J.cell,J.free,J.freeC,fun p hp=>J.pin p (by
   have hp:p∈(X.pn++pins)++ []:=hp
   rw[List.append_nil] at hp
   exact List.mem_append_left _ hp),J.hok,B5b S σ⟩
 obtain⟨o,e,d⟩:=q
 have ne:c ∉ fp:=fun w=>(hf c w).2.2.2.2.1 x c z rfl
 obtain⟨sl,q⟩:=J.base.any e (I.freeC x c z) ne
 exact⟨_,q,d⟩
theorem B9g{elt target iter c:Expr}{scope:Scope}{pos:Pos}{N F:List Str}{js:List Nat}{wi:TI}{g:TG}{tc:TT}{te:TE}(S:D5 N F js scope X.N X.env)(hd:V8 X)(hc0:X.calm=true)(hi:PI X target iter wi)(hex:X.ex=[])
   (hg:∀C s₀ H₀ ex pn,V8 (X.compF scope N F C s₀ H₀ ex pn) ->PG (X.compF scope N F C s₀ H₀ ex pn) target g)
   (hc:∀C s₀ H₀ ex pn,V8 (X.compF scope N F C s₀ H₀ ex pn) ->PT (X.compF scope N F C s₀ H₀ ex pn) c tc)
   (he:∀C s₀ H₀ ex pn,V8 (X.compF scope N F C s₀ H₀ ex pn) ->PE (X.compF scope N F C s₀ H₀ ex pn) elt te)
   {pins:List (Addr×Obj)} {s:Shared} {σ:St} {H:Hp} {Q:VK} {RR:Value ->Env ->Result ->Shared ->Prop} (I:Inv X pins σ H s) (h:(A7s N.length js wi g tc te) σ H Q)
   (hRR:∀(D C:Addr) (s6:Shared) (H5:Hp) (mm:Str ->Option Value),Inv X pins σ H5 s6 ->s6.heap.Ns C mm ->A0s X pins H5 C ->Q (.ref D) H5 ->RR (.ref D) (compEnvC scope (A1a F X.env) C X.env) (.ok .next) s6):
   wpAny (model X.prog X.w) X.A (eval iter X.env) (fun v s1=>wpAny (model X.prog X.w) X.A (pyIter v) (fun itv s2=>wpAny (model X.prog X.w) X.A (newList []) (fun acc s3=>wpAny (model X.prog X.w) X.A (newFunctionEnv scope X.env.globals (A1a F X.env) [] X.env.qual none .none (some X.env)) (fun cenv s4=>
     codeAny (model X.prog X.w) X.A (.compStart (.ListComp elt [⟨target,iter,[c],0⟩] scope pos) 0 itv acc {cenv with scope:=relabel scope X.env}) (RR acc {cenv with scope:=relabel scope X.env}) s4) X.xe s3) X.xe s2) X.xe s1) X.xe s:=by
 refine thn (hi pins s σ H _ I h) fun v s1 h1=>thn h1 fun itv s2 h2=>?_
 obtain⟨it,fp,tn,J,H2,rfl,I2,T,st2,f2,R⟩:=h2
 have ob2:=T.obj _ _ st2
 have hf2:=I2.hok.fresh (Nat.le_refl _)
 refine wpAny_newObj_type ?_
 have I3:Inv X pins σ (upd H2 s2.heap.objs.size (.lst [])) {s2 with heap:=s2.heap.push {cls:= .type "list",dict:=none,data:= .seq ([]:List Value).toArray}}:=Inv.lnew (t':=s2.toks) I2 .nil (Nat.zero_le _)
 refine wpAny_newFunctionEnv S.cell (by intro y hy;simp at hy) (fun h4 hns hsb=>?_) S.kind
 dsimp only at hns hsb ⊢
 generalize hG:s2.heap.push {cls:= .type "list",dict:=none,data:= .seq ([]:List Value).toArray}=G at I3 hns hsb ⊢
 generalize hD:s2.heap.objs.size=D at I3 hf2
 have nD:∀b∈fp,b≠D:=fun b hb=>by
   obtain⟨o,eo,_⟩:=ob2 b hb
   rw[<-hD];exact Nat.ne_of_lt (Heap.lt_size eo)
 have eiG:∀b∈fp,∃o,G.get? b=some o:=fun b hb=>by
   obtain⟨o,eo,_⟩:=ob2 b hb
   exact⟨o,by rw[<-hG];exact Heap.get?_push_of_some _ eo⟩
 have kp:∀b o,G.get? b=some o ->h4.get? b=some o:=fun b o e=>hsb.extBut b o (Nat.ne_of_lt (Heap.lt_size e)) (Heap.get?_push_of_some _ e)
 have f3:∀b∈fp,A0s X pins (upd H2 D (.lst [])) b:=fun b hb=>⟨by rw[C7 (nD b hb)];exact(f2 b hb).1,(f2 b hb).2⟩
 have nb:∀b∈fp,X.base.get? b=none:=fun b hb=>by
   cases q:X.base.get? b with
   |none=>rfl
   | some o=>
     have:=(I.ok.bs b o q).1
     rcases(f2 b hb).2.2.2.1 with z|z
     . rw[hex] at z;simp at z
     . exact absurd (Nat.lt_of_lt_of_le (Heap.lt_size this) z) (Nat.lt_irrefl _)
 have hns':h4.Ns G.objs.size (fun _=>none):=by
   obtain⟨o,es,ep,q1,q2,q3,q4⟩:=hns
   exact⟨o,es,ep,q1,q2,q3,fun x=>by rw[q4];rfl⟩
 have I4:=B3m (tk:=s2.toks+([]:List (Str×Value)).length) S I3 f3 eiG nb hns' kp
 have hdc:V8 (X.compF scope N F G.objs.size {s2 with heap:=G} (upd H2 D (.lst [])) fp (X.pn++pins)):=by
   rcases hd with z|⟨x,o,u,vs,z,e,d,n⟩
   . exact .inl z
   . refine .inr ⟨x,o,u,vs,z,?_,d,n⟩
     have q:=I2.base.frzs x o u e
     show upd H2 D (.lst []) x=_
     rw[C7 fun w=>by rw[w,hf2] at q;cases q]
     exact q
 obtain⟨m,W,w0,turn⟩:=R D hf2
 have gg:=hg _ _ _ _ _ hdc
 have cc:=hc _ _ _ _ _ hdc
 have ee:=he _ _ _ _ _ hdc
 have fpc:∀{H':Hp} {σ':St} {s':Shared} {pl:List (Addr×Obj)},Inv (X.compF scope N F G.objs.size {s2 with heap:=G} (upd H2 D (.lst [])) fp (X.pn++pins)) pl σ' H' s' ->(∀b∈fp,H' b=none) ->(∀b∈fp,∀p∈pl,p.1≠b) ->∀b∈fp,A0s (X.compF scope N F G.objs.size {s2 with heap:=G} (upd H2 D (.lst [])) fp (X.pn++pins)) pl H' b:=by
   intro H' σ' s' pl J' hn hp b hb
   obtain⟨oi,ei⟩:=eiG b hb
   refine⟨hn b hb,Nat.ne_of_lt (Heap.lt_size ei),?_,.inl hb,(fun x c z=>(f2 b hb).2.2.2.2.1 x c (S.sub x c z)),fun p hpp=>?_⟩
   . intro z
     rcases List.mem_cons.mp (I.stkSub b z) with z|z
     . exact(f2 b hb).2.1 z
     . exact(f2 b hb).2.2.1 z
   . rcases List.mem_append.mp hpp with z|z
     . exact(f2 b hb).2.2.2.2.2 p z
     . exact hp b hb p z
 have loop:codeAny (model X.prog X.w) X.A (.compLoop (.ListComp elt [⟨target,iter,[c],0⟩] scope pos) 0 (.ref it) (.ref D) (compEnvC scope (A1a F X.env) G.objs.size X.env))
     (RR (.ref D) (compEnvC scope (A1a F X.env) G.objs.size X.env))
     {s2 with heap:=h4,toks:=s2.toks+([]:List (Str×Value)).length}:=by
   refine kct_loop (fun k s'=>∃i ys H',k=m+1-i/\Inv (X.compF scope N F G.objs.size {s2 with heap:=G} (upd H2 D (.lst [])) fp (X.pn++pins)) [] (List.replicate N.length none++A2z js σ) H' s'/\tn i s'.heap/\(∀b∈fp,H' b=none)/\W i ys H') ?_ (m+1)
     ⟨0,[],_,rfl,I4,T.keep _ _ _ st2 fun b hb o e=>kp b o (by rw[<-hG];exact Heap.get?_push_of_some _ e),fun b hb=>(f3 b hb).1,w0⟩
   rintro k s5 ⟨i,ys,H5,rfl,I5,st5,n5,w5⟩
   obtain⟨hi5,hD5,w5⟩:=turn i ys H5 w5
   rcases w5 with⟨stop,q⟩|⟨lt5,go,step⟩
   . refine wpAny_mono (T.done (X.compF scope N F G.objs.size {s2 with heap:=G} (upd H2 D (.lst [])) fp (X.pn++pins)) rfl rfl rfl hc0 i [] s5 _ H5 (fun _ _=>False) I5 (fpc I5 n5 (by simp)) st5 stop) (fun r s6 z=>?_) (fun _ _ z=>z.elim)
     obtain⟨rfl,I6⟩:=z
     obtain⟨mm,hn6,_⟩:=I6.loc
     have B6:=I6.base
     have J6:Inv X pins σ H5 s6:=by
       refine I3.call' (ch:=fp) I6.os ⟨B6.keep,B6.slot,B6.free,B6.there,B6.tups,B6.frzs,B6.tbls⟩ I6.hok I6.bare (fun b hb=>⟨(f2 b hb).2.2.2.1,(f2 b hb).2.1,(f2 b hb).2.2.2.2.1,(f2 b hb).2.2.2.2.2⟩)
     have szG:X.s₀.heap.objs.size<=G.objs.size:=I3.sz
     refine hRR D G.objs.size s6 H5 mm J6 hn6 ⟨I6.free,?_,?_,.inr szG,?_,?_⟩ q
     . exact Nat.ne_of_gt I3.lt
     . intro z
       obtain⟨_,o,ho,_⟩:=I3.funs.mem z
       exact Nat.lt_irrefl _ (Heap.lt_size ho)
     . rintro x c z rfl
       obtain⟨v',o,ho,_⟩:=I3.cell x _ z
       exact Nat.lt_irrefl _ (Heap.lt_size ho)
     . rintro p hp z
       have zz:=(I3.pin p hp).1
       rw[z] at zz
       exact Nat.lt_irrefl _ (Heap.lt_size zz)
   . refine wpAny_mono (T.item (X.compF scope N F G.objs.size {s2 with heap:=G} (upd H2 D (.lst [])) fp (X.pn++pins)) rfl rfl rfl hc0 i [] s5 _ H5 (fun _ _=>False) I5 (fpc I5 n5 (by simp)) st5 go) (fun r s6 z=>?_) (fun _ _ z=>z.elim)
     obtain⟨u,rfl,z⟩:=z
     refine wpAny_mono z (fun _ s7 z=>?_) (fun _ _ z=>z.elim)
     obtain⟨x,H7,I7,rx,yl,st7,fr7⟩:=z
     have ob7:=T.obj _ _ st7
     have I7':Inv (X.compF scope N F G.objs.size {s2 with heap:=G} (upd H2 D (.lst [])) fp (X.pn++pins)) (A0p fp s7.heap) (List.replicate N.length none++A2z js σ) H7 s7:=I7.pinned (fpc I7 fr7 (by simp)) ob7
     have back:∀{i':Nat} {ys':List V} {H':Hp} {σ':St} {s':Shared},i'=i+1 ->Inv (X.compF scope N F G.objs.size {s2 with heap:=G} (upd H2 D (.lst [])) fp (X.pn++pins)) (A0p fp s7.heap) σ' H' s' ->W i' ys' H' ->
         ∃k',k'<m+1-i/\∃i ys H',k'=m+1-i/\Inv (X.compF scope N F G.objs.size {s2 with heap:=G} (upd H2 D (.lst [])) fp (X.pn++pins)) [] (List.replicate N.length none++A2z js σ) H' s'/\tn i s'.heap/\(∀b∈fp,H' b=none)/\W i ys H':=by
       rintro i' ys' H' σ' s' rfl J' w'
       refine⟨m+1-(i+1),by omega,i+1,ys',H',rfl,B0y S I3 f3 J',T.keep _ _ _ st7 fun b hb o z=>(J'.pin (b,o) (List.mem_append_right _ (A0g hb z))).1,fun b hb=>?_,w'⟩
       obtain⟨o,eo,_⟩:=ob7 b hb
       exact(J'.pin (b,o) (List.mem_append_right _ (A0g hb eo))).2.1
     refine wpAny_mono (gg (A0p fp s7.heap) s7 _ H7 x u _ I7' rx (step x H7 yl)) (fun _ s8 z=>?_) (fun _ _ z=>z.elim)
     obtain⟨σ8,H8,I8,q8⟩:=z
     refine wpAny_mono (cc (A0p fp s7.heap) s8 σ8 H8 _ I8 q8) (fun b s9 z=>?_) (fun _ _ z=>z.elim)
     obtain⟨H9,I9,q9⟩:=z
     cases b with
     | false=>
       simp only[Bool.false_eq_true,if_false] at q9 ⊢
       exact back rfl I9 q9
     | true=>
       simp only[if_true] at q9 ⊢
       refine wpAny_mono (ee (A0p fp s7.heap) s9 σ8 H9 _ I9 q9) (fun y s10 z=>?_) (fun _ _ z=>z.elim)
       obtain⟨yv,H10,I10,ry,hD10,hz10,w10⟩:=z
       refine wpAny_mono (A3a (X:=X.compF scope N F G.objs.size {s2 with heap:=G} (upd H2 D (.lst [])) fp (X.pn++pins)) (A0p fp s7.heap) s10 σ8 H10 (.ref D) [yv] (.ref D) [y] (fun _ H11=>W (i+1) (ys++ [yv]) H11) I10 rfl (.cons ry .nil) ⟨D,ys,yv,rfl,rfl,hD10,hz10,w10⟩) (fun _ s11 z=>?_) (fun _ _ z=>z.elim)
       obtain⟨_,H11,I11,_,w11⟩:=z
       exact back rfl I11 w11
 exact codeAny_compStart_list loop (T.self _ 0 _ _ _ (T.keep _ _ _ st2 fun b hb o e=>kp b o (by rw[<-hG];exact Heap.get?_push_of_some _ e)) loop)
theorem A8p{elt target iter:Expr}{scope:Scope}{pos:Pos}{N F:List Str}{js:List Nat}{wi:TI}{g:TG}{te:TE}(S:D5 N F js scope X.N X.env)(hd:V8 X)(hc0:X.calm=true)(hi:PI X target iter wi)(hex:X.ex=[])
   (hg:∀C s₀ H₀ ex pn,V8 (X.compF scope N F C s₀ H₀ ex pn) ->PG (X.compF scope N F C s₀ H₀ ex pn) target g)
   (he:∀C s₀ H₀ ex pn,V8 (X.compF scope N F C s₀ H₀ ex pn) ->PE (X.compF scope N F C s₀ H₀ ex pn) elt te)
   {pins:List (Addr×Obj)} {s:Shared} {σ:St} {H:Hp} {Q:VK} {RR:Value ->Env ->Result ->Shared ->Prop} (I:Inv X pins σ H s) (h:(B4d N.length js wi g te) σ H Q)
   (hRR:∀(D C:Addr) (s6:Shared) (H5:Hp) (mm:Str ->Option Value),Inv X pins σ H5 s6 ->s6.heap.Ns C mm ->A0s X pins H5 C ->Q (.ref D) H5 ->RR (.ref D) (compEnvC scope (A1a F X.env) C X.env) (.ok .next) s6):
   wpAny (model X.prog X.w) X.A (eval iter X.env) (fun v s1=>wpAny (model X.prog X.w) X.A (pyIter v) (fun itv s2=>wpAny (model X.prog X.w) X.A (newList []) (fun acc s3=>wpAny (model X.prog X.w) X.A (newFunctionEnv scope X.env.globals (A1a F X.env) [] X.env.qual none .none (some X.env)) (fun cenv s4=>
     codeAny (model X.prog X.w) X.A (.compStart (.ListComp elt [⟨target,iter,[],0⟩] scope pos) 0 itv acc {cenv with scope:=relabel scope X.env}) (RR acc {cenv with scope:=relabel scope X.env}) s4) X.xe s3) X.xe s2) X.xe s1) X.xe s:=by
 refine thn (hi pins s σ H _ I h) fun v s1 h1=>thn h1 fun itv s2 h2=>?_
 obtain⟨it,fp,tn,J,H2,rfl,I2,T,st2,f2,R⟩:=h2
 have ob2:=T.obj _ _ st2
 have hf2:=I2.hok.fresh (Nat.le_refl _)
 refine wpAny_newObj_type ?_
 have I3:Inv X pins σ (upd H2 s2.heap.objs.size (.lst [])) {s2 with heap:=s2.heap.push {cls:= .type "list",dict:=none,data:= .seq ([]:List Value).toArray}}:=Inv.lnew (t':=s2.toks) I2 .nil (Nat.zero_le _)
 refine wpAny_newFunctionEnv S.cell (by intro y hy;simp at hy) (fun h4 hns hsb=>?_) S.kind
 dsimp only at hns hsb ⊢
 generalize hG:s2.heap.push {cls:= .type "list",dict:=none,data:= .seq ([]:List Value).toArray}=G at I3 hns hsb ⊢
 generalize hD:s2.heap.objs.size=D at I3 hf2
 have nD:∀b∈fp,b≠D:=fun b hb=>by
   obtain⟨o,eo,_⟩:=ob2 b hb
   rw[<-hD];exact Nat.ne_of_lt (Heap.lt_size eo)
 have eiG:∀b∈fp,∃o,G.get? b=some o:=fun b hb=>by
   obtain⟨o,eo,_⟩:=ob2 b hb
   exact⟨o,by rw[<-hG];exact Heap.get?_push_of_some _ eo⟩
 have kp:∀b o,G.get? b=some o ->h4.get? b=some o:=fun b o e=>hsb.extBut b o (Nat.ne_of_lt (Heap.lt_size e)) (Heap.get?_push_of_some _ e)
 have f3:∀b∈fp,A0s X pins (upd H2 D (.lst [])) b:=fun b hb=>⟨by rw[C7 (nD b hb)];exact(f2 b hb).1,(f2 b hb).2⟩
 have nb:∀b∈fp,X.base.get? b=none:=fun b hb=>by
   cases q:X.base.get? b with
   |none=>rfl
   | some o=>
     have:=(I.ok.bs b o q).1
     rcases(f2 b hb).2.2.2.1 with z|z
     . rw[hex] at z;simp at z
     . exact absurd (Nat.lt_of_lt_of_le (Heap.lt_size this) z) (Nat.lt_irrefl _)
 have hns':h4.Ns G.objs.size (fun _=>none):=by
   obtain⟨o,es,ep,q1,q2,q3,q4⟩:=hns
   exact⟨o,es,ep,q1,q2,q3,fun x=>by rw[q4];rfl⟩
 have I4:=B3m (tk:=s2.toks+([]:List (Str×Value)).length) S I3 f3 eiG nb hns' kp
 have hdc:V8 (X.compF scope N F G.objs.size {s2 with heap:=G} (upd H2 D (.lst [])) fp (X.pn++pins)):=by
   rcases hd with z|⟨x,o,u,vs,z,e,d,n⟩
   . exact .inl z
   . refine .inr ⟨x,o,u,vs,z,?_,d,n⟩
     have q:=I2.base.frzs x o u e
     show upd H2 D (.lst []) x=_
     rw[C7 fun w=>by rw[w,hf2] at q;cases q]
     exact q
 obtain⟨m,W,w0,turn⟩:=R D hf2
 have gg:=hg _ _ _ _ _ hdc
 have ee:=he _ _ _ _ _ hdc
 have fpc:∀{H':Hp} {σ':St} {s':Shared} {pl:List (Addr×Obj)},Inv (X.compF scope N F G.objs.size {s2 with heap:=G} (upd H2 D (.lst [])) fp (X.pn++pins)) pl σ' H' s' ->(∀b∈fp,H' b=none) ->(∀b∈fp,∀p∈pl,p.1≠b) ->∀b∈fp,A0s (X.compF scope N F G.objs.size {s2 with heap:=G} (upd H2 D (.lst [])) fp (X.pn++pins)) pl H' b:=by
   intro H' σ' s' pl J' hn hp b hb
   obtain⟨oi,ei⟩:=eiG b hb
   refine⟨hn b hb,Nat.ne_of_lt (Heap.lt_size ei),?_,.inl hb,(fun x c z=>(f2 b hb).2.2.2.2.1 x c (S.sub x c z)),fun p hpp=>?_⟩
   . intro z
     rcases List.mem_cons.mp (I.stkSub b z) with z|z
     . exact(f2 b hb).2.1 z
     . exact(f2 b hb).2.2.1 z
   . rcases List.mem_append.mp hpp with z|z
     . exact(f2 b hb).2.2.2.2.2 p z
     . exact hp b hb p z
 have loop:codeAny (model X.prog X.w) X.A (.compLoop (.ListComp elt [⟨target,iter,[],0⟩] scope pos) 0 (.ref it) (.ref D) (compEnvC scope (A1a F X.env) G.objs.size X.env))
     (RR (.ref D) (compEnvC scope (A1a F X.env) G.objs.size X.env))
     {s2 with heap:=h4,toks:=s2.toks+([]:List (Str×Value)).length}:=by
   refine B7s (fun k s'=>∃i ys H',k=m+1-i/\Inv (X.compF scope N F G.objs.size {s2 with heap:=G} (upd H2 D (.lst [])) fp (X.pn++pins)) [] (List.replicate N.length none++A2z js σ) H' s'/\tn i s'.heap/\(∀b∈fp,H' b=none)/\W i ys H') ?_ (m+1)
     ⟨0,[],_,rfl,I4,T.keep _ _ _ st2 fun b hb o e=>kp b o (by rw[<-hG];exact Heap.get?_push_of_some _ e),fun b hb=>(f3 b hb).1,w0⟩
   rintro k s5 ⟨i,ys,H5,rfl,I5,st5,n5,w5⟩
   obtain⟨hi5,hD5,w5⟩:=turn i ys H5 w5
   rcases w5 with⟨stop,q⟩|⟨lt5,go,step⟩
   . refine wpAny_mono (T.done (X.compF scope N F G.objs.size {s2 with heap:=G} (upd H2 D (.lst [])) fp (X.pn++pins)) rfl rfl rfl hc0 i [] s5 _ H5 (fun _ _=>False) I5 (fpc I5 n5 (by simp)) st5 stop) (fun r s6 z=>?_) (fun _ _ z=>z.elim)
     obtain⟨rfl,I6⟩:=z
     obtain⟨mm,hn6,_⟩:=I6.loc
     have B6:=I6.base
     have J6:Inv X pins σ H5 s6:=by
       refine I3.call' (ch:=fp) I6.os ⟨B6.keep,B6.slot,B6.free,B6.there,B6.tups,B6.frzs,B6.tbls⟩ I6.hok I6.bare (fun b hb=>⟨(f2 b hb).2.2.2.1,(f2 b hb).2.1,(f2 b hb).2.2.2.2.1,(f2 b hb).2.2.2.2.2⟩)
     have szG:X.s₀.heap.objs.size<=G.objs.size:=I3.sz
     refine hRR D G.objs.size s6 H5 mm J6 hn6 ⟨I6.free,?_,?_,.inr szG,?_,?_⟩ q
     . exact Nat.ne_of_gt I3.lt
     . intro z
       obtain⟨_,o,ho,_⟩:=I3.funs.mem z
       exact Nat.lt_irrefl _ (Heap.lt_size ho)
     . rintro x c z rfl
       obtain⟨v',o,ho,_⟩:=I3.cell x _ z
       exact Nat.lt_irrefl _ (Heap.lt_size ho)
     . rintro p hp z
       have zz:=(I3.pin p hp).1
       rw[z] at zz
       exact Nat.lt_irrefl _ (Heap.lt_size zz)
   . refine wpAny_mono (T.item (X.compF scope N F G.objs.size {s2 with heap:=G} (upd H2 D (.lst [])) fp (X.pn++pins)) rfl rfl rfl hc0 i [] s5 _ H5 (fun _ _=>False) I5 (fpc I5 n5 (by simp)) st5 go) (fun r s6 z=>?_) (fun _ _ z=>z.elim)
     obtain⟨u,rfl,z⟩:=z
     refine wpAny_mono z (fun _ s7 z=>?_) (fun _ _ z=>z.elim)
     obtain⟨x,H7,I7,rx,yl,st7,fr7⟩:=z
     have ob7:=T.obj _ _ st7
     have I7':Inv (X.compF scope N F G.objs.size {s2 with heap:=G} (upd H2 D (.lst [])) fp (X.pn++pins)) (A0p fp s7.heap) (List.replicate N.length none++A2z js σ) H7 s7:=I7.pinned (fpc I7 fr7 (by simp)) ob7
     have back:∀{i':Nat} {ys':List V} {H':Hp} {σ':St} {s':Shared},i'=i+1 ->Inv (X.compF scope N F G.objs.size {s2 with heap:=G} (upd H2 D (.lst [])) fp (X.pn++pins)) (A0p fp s7.heap) σ' H' s' ->W i' ys' H' ->
         ∃k',k'<m+1-i/\∃i ys H',k'=m+1-i/\Inv (X.compF scope N F G.objs.size {s2 with heap:=G} (upd H2 D (.lst [])) fp (X.pn++pins)) [] (List.replicate N.length none++A2z js σ) H' s'/\tn i s'.heap/\(∀b∈fp,H' b=none)/\W i ys H':=by
       rintro i' ys' H' σ' s' rfl J' w'
       refine⟨m+1-(i+1),by omega,i+1,ys',H',rfl,B0y S I3 f3 J',T.keep _ _ _ st7 fun b hb o z=>(J'.pin (b,o) (List.mem_append_right _ (A0g hb z))).1,fun b hb=>?_,w'⟩
       obtain⟨o,eo,_⟩:=ob7 b hb
       exact(J'.pin (b,o) (List.mem_append_right _ (A0g hb eo))).2.1
     refine wpAny_mono (gg (A0p fp s7.heap) s7 _ H7 x u _ I7' rx (step x H7 yl)) (fun _ s8 z=>?_) (fun _ _ z=>z.elim)
     obtain⟨σ8,H8,I8,q8⟩:=z
     refine wpAny_mono (ee (A0p fp s7.heap) s8 σ8 H8 _ I8 q8) (fun y s10 z=>?_) (fun _ _ z=>z.elim)
     obtain⟨yv,H10,I10,ry,hD10,hz10,w10⟩:=z
     refine wpAny_mono (A3a (X:=X.compF scope N F G.objs.size {s2 with heap:=G} (upd H2 D (.lst [])) fp (X.pn++pins)) (A0p fp s7.heap) s10 σ8 H10 (.ref D) [yv] (.ref D) [y] (fun _ H11=>W (i+1) (ys++ [yv]) H11) I10 rfl (.cons ry .nil) ⟨D,ys,yv,rfl,rfl,hD10,hz10,w10⟩) (fun _ s11 z=>?_) (fun _ _ z=>z.elim)
     obtain⟨_,H11,I11,_,w11⟩:=z
     exact back rfl I11 w11
 exact codeAny_compStart_list loop (T.self _ 0 _ _ _ (T.keep _ _ _ st2 fun b hb o e=>kp b o (by rw[<-hG];exact Heap.get?_push_of_some _ e)) loop)
theorem B7q{elt target iter:Expr}{c:Expr}{tc:TT}{pos:Pos}{wi:TI}{g:TG}{te:TE}(S:D5 N F js scope X.N X.env)(hd:V8 X)(hc0:X.calm=true)(hi:PI X target iter wi)(hex:X.ex=[])
   (hg:∀C s₀ H₀ ex pn,V8 (X.compF scope N F C s₀ H₀ ex pn) ->PG (X.compF scope N F C s₀ H₀ ex pn) target g)
   (hc:∀C s₀ H₀ ex pn,V8 (X.compF scope N F C s₀ H₀ ex pn) ->PT (X.compF scope N F C s₀ H₀ ex pn) c tc)
   (he:∀C s₀ H₀ ex pn,V8 (X.compF scope N F C s₀ H₀ ex pn) ->PE (X.compF scope N F C s₀ H₀ ex pn) elt te)
   (hs:∀x,foldedSetIterable iter X.env x=pure x:=by intro _;rfl):PE X (.ListComp elt [⟨target,iter,[c],0⟩] scope pos) (A7s N.length js wi g tc te):=by
 intro pins s σ H Q I h
 rw[eval_ListComp]
 refine wpAny_comprehension_free (use:=none) rfl hs S.clos S.kind S.loc (B9g S hd hc0 hi hex hg hc he I h (RR:=fun acc ce r s'=>compPost (model X.prog X.w) X.A X.xe none (EP X pins σ Q) acc ce.locals r s') ?_)
 intro D C s6 H5 mm I6 n6 f6 q
 exact⟨mm,n6,fun h' sb=>⟨.ref D,H5,B2v I6 f6 sb,rfl,q⟩⟩
theorem C4w{elt target iter:Expr}{pos:Pos}{wi:TI}{g:TG}{te:TE}(S:D5 N F js scope X.N X.env)(hd:V8 X)(hc0:X.calm=true)(hi:PI X target iter wi)(hex:X.ex=[])
   (hg:∀C s₀ H₀ ex pn,V8 (X.compF scope N F C s₀ H₀ ex pn) ->PG (X.compF scope N F C s₀ H₀ ex pn) target g)
   (he:∀C s₀ H₀ ex pn,V8 (X.compF scope N F C s₀ H₀ ex pn) ->PE (X.compF scope N F C s₀ H₀ ex pn) elt te)
   (hs:∀x,foldedSetIterable iter X.env x=pure x:=by intro _;rfl):PE X (.ListComp elt [⟨target,iter,[],0⟩] scope pos) (B4d N.length js wi g te):=by
 intro pins s σ H Q I h
 rw[eval_ListComp]
 refine wpAny_comprehension_free (use:=none) rfl hs S.clos S.kind S.loc (A8p S hd hc0 hi hex hg he I h (RR:=fun acc ce r s'=>compPost (model X.prog X.w) X.A X.xe none (EP X pins σ Q) acc ce.locals r s') ?_)
 intro D C s6 H5 mm I6 n6 f6 q
 exact⟨mm,n6,fun h' sb=>⟨.ref D,H5,B2v I6 f6 sb,rfl,q⟩⟩
theorem A3e{i:Nat}{y:Str}{py spos:Pos}{elt target iter:Expr}{pos:Pos}{wi:TI}{g:TG}{te:TE}(S:D5 N F js scope X.N X.env)(hd:V8 X)(hc0:X.calm=true)(hi:PI X target iter wi)(hex:X.ex=[])
   (hg:∀C s₀ H₀ ex pn,V8 (X.compF scope N F C s₀ H₀ ex pn) ->PG (X.compF scope N F C s₀ H₀ ex pn) target g)
   (he:∀C s₀ H₀ ex pn,V8 (X.compF scope N F C s₀ H₀ ex pn) ->PE (X.compF scope N F C s₀ H₀ ex pn) elt te) (hN:X.N.Nodup) (hi':X.N[i]?=some y) (hy:Loc X.env.scope y)
   (hf:X.fn y=true\/X.env.scope.names.lookup y=some .local:=by first|exact .inl rfl|exact .inr rfl|assumption)
   (hsw:swapsWith (.ListComp elt [⟨target,iter,[],0⟩] scope pos) (some (.Name y py)) spos.line X.env=pure true:=by rfl)
   (hs:∀x,foldedSetIterable iter X.env x=pure x:=by intro _;rfl):PS X (.Assign [.Name y py] (.ListComp elt [⟨target,iter,[],0⟩] scope pos) spos) (D5x (B4d N.length js wi g te) (B6f i)):=by
 intro pins s σ H D I h
 rw[exec_Assign_Name_used _ _ _ _ hsw]
 refine wpAny_bind (wpAny_standAt (wpAny_bind ?_))
 show wpAny _ X.A (do let _<-comprehension (.ListComp elt [⟨target,iter,[],0⟩] scope pos) scope X.env _ (newList []) false (eval iter X.env) (some (assign (.Name y py) X.env))) _ _ s
 refine wpAny_bind (wpAny_mono (wpAny_comprehension_free (Q:=fun _ s'=>SP X pins D .next s') rfl hs S.clos S.kind S.loc (A8p S hd hc0 hi hex hg he I h (RR:=fun acc ce r s'=>compPost (model X.prog X.w) X.A X.xe (some (assign (.Name y py) X.env)) (fun _ s'=>SP X pins D .next s') acc ce.locals r s') ?_))
   (fun _ s' hq=>wpAny_pure (wpAny_pure hq)) fun _ _ e=>e)
 intro D' C s6 H5 mm I6 n6 f6 q
 refine wpAny_assign_Name (A7a (v:= .ref D') I6 hN hi' hy rfl (fun s7 I7 st=>?_) hf)
 obtain⟨a,sb,ha⟩:=st
 have na:C≠a:=by
   rcases ha with rfl|ha
   . exact f6.2.1
   . exact(f6.2.2.2.2.1 y a ha).symm
 exact⟨mm,n6.sameBut sb na,fun h' sb'=>⟨_,_,B2v I7 f6 sb',q⟩⟩
end
theorem D5.of0{N:List Str}{sc:Scope}{XN:List Str}{env:Env}(S:D0h N [] sc)(clos:closureFor sc env=pure (A1a [] env)):D5 N [] [] sc XN env:=
 ⟨S.kind,S.cell,S.loc,S.nd,clos,A5q S.cell S.fr,fun k y h=>by simp at h,rfl⟩
theorem A9x:bootBuiltins "enumerate"=some (.type "enumerate"):=by decide+kernel
theorem C9q:bootBuiltins "zip"=some (.type "zip"):=by decide+kernel
section
variable{X:Cx}{pins:List (Addr×Obj)}{σ:St}{H:Hp}{s:Shared}{h':Heap}
theorem Inv.turnedL{t':Nat}{fp:List Addr}(I:Inv X pins σ H s)(k:∀b o,b ∉ fp ->s.heap.get? b=some o ->h'.get? b=some o)(hf:∀b∈fp,A0s X pins H b):Inv X pins σ H {s with heap:=h',toks:=t'}:=by
 have nit:∀b u,H b=some u ->b ∉ fp:=fun b u e z=>by rw[(hf b z).1] at e;cases e
 refine I.step (g':=s.gens) (d':=s.drawn) (ch:=fp) (fun b hb=>?_) (fun b o _ _ hc e _=>k b o hc e) (fun b o _ _ hc e _=>⟨o.slots,k b o hc e⟩) (fun _ _ _ _ n=>n)
   (fun b o hc e=>⟨o,k b o hc e⟩) (fun _ _ e=>e) (fun _ _ _ e=>e) (fun b ps e=>⟨#[],by rw[e];simp⟩) (fun m hm=>?_) (fun b u e=>?_) I.bare
 . obtain⟨_,f1,_,f3,f4,f5⟩:=hf b hb
   exact⟨f3,f1,f4,f5⟩
 . obtain⟨o,es,ep,ho,r⟩:=hm
   exact⟨o,es,ep,k _ o (fun z=>(hf _ z).2.1 rfl) ho,r⟩
 refine(I.hok b u e).stay (fun c v hc q=>k c v ?_ q) (fun _ q=>q) fun _ _ q=>q
 rcases hc with z|z
 . rw[z];exact nit b u e
 exact nit c _ z
theorem Inv.paired{t':Nat}{fp:List Addr}{x y:V}{u v:Value}(I:Inv X pins σ H s)(rx:V0 x u)(ry:V0 y v)(hf:∀b∈fp,A0s X pins H b)(hl:∀b∈fp,b<s.heap.objs.size)
   (k:∀b o,b ∉ fp ->s.heap.get? b=some o ->h'.get? b=some o) (hT:h'.get? s.heap.objs.size=some {cls:= .type "tuple",data:= .seq #[u,v]}):
   Inv X pins σ (upd H s.heap.objs.size (.tup [x,y])) {s with heap:=h',toks:=t'}/\∀b∈fp,upd H s.heap.objs.size (.tup [x,y]) b=none:=by
 have hn:∀b∈fp,upd H s.heap.objs.size (.tup [x,y]) b=none:=fun b hb=>by rw[C7 (Nat.ne_of_lt (hl b hb))];exact(hf b hb).1
 have I1:Inv X pins σ (upd H s.heap.objs.size (.tup [x,y])) {s with heap:=s.heap.push {cls:= .type "tuple",data:= .seq #[u,v]},toks:=t'}:=
   I.laid (fun b o z=>Heap.get?_push_of_some _ z) (Nat.le_refl _) ⟨D0 (by show 2<=1000;decide),[u,v],.cons rx (.cons ry .nil),⟨_,Heap.get?_push_size _ rfl,rfl,_,rfl⟩⟩
 have I2:Inv X pins σ (upd H s.heap.objs.size (.tup [x,y])) {heap:=h',gens:=s.gens,drawn:=s.drawn,toks:=t',os:=s.os}:=Inv.turnedL (s:={heap:=s.heap.push {cls:= .type "tuple",data:= .seq #[u,v]},gens:=s.gens,drawn:=s.drawn,toks:=t',os:=s.os}) (h':=h') (t':=t') (fp:=fp) I1 (fun b o hb z=>?_) (fun b hb=>⟨hn b hb,(hf b hb).2⟩)
 . exact⟨I2,hn⟩
 rcases Heap.get?_push_cases z with⟨rfl,rfl⟩|z
 . exact hT
 exact k b o hb z
end
noncomputable def Itz (K:Frag) (a b:Addr):It:=
 ⟨fun i H=>∃xs ys x y,SqL K H a xs/\SqL K H b ys/\xs[i]?=some x/\ys[i]?=some y,
  fun i H x H'=>∃t u v,x= .ref t/\H t=none/\H'=upd H t (.tup [u,v])/\(∀xs,SqL K H a xs ->xs[i]?=some u)/\∀ys,SqL K H b ys ->ys[i]?=some v,
  fun i H=>∃xs ys,SqL K H a xs/\SqL K H b ys/\(xs.length<=i\/ys.length<=i)⟩
theorem C7f{P:Program}{w:World}{K:Frag}{es:List Expr}{k:Nat}{pos:Pos}(a b z TI TO i1 i2:Addr)(D:ZipApart z TI TO i1 i2 a b):
   C5v P w K (.Tuple es k pos) (Itz K a b) [z,TI,TO,i1,i2] z (fun i h=>IsZip h z TI TO .none/\IsPair h TI (.ref i1) (.ref i2)/\(∃u v,IsPair h TO u v)/\h.IsListIter i1 a i/\h.IsListIter i2 b i) where
 mem:=by simp
 obj:=fun i h st c hc=>by
   obtain⟨hz,hTI,⟨u,v,hTO⟩,⟨o1,e1,c1,d1⟩,o2,e2,c2,d2⟩:=st
   rcases(by simpa using hc:c=z\/c=TI\/c=TO\/c=i1\/c=i2) with rfl|rfl|rfl|rfl|rfl
   . exact⟨_,hz,fun v z=>by
       have z':Data.fields _=Data.cell v:=z
       cases z'⟩
   . exact⟨_,hTI,fun v z=>by
       have z':Data.seq _ _=Data.cell v:=z
       cases z'⟩
   . exact⟨_,hTO,fun v z=>by
       have z':Data.seq _ _=Data.cell v:=z
       cases z'⟩
   . exact⟨o1,e1,fun v z=>by rw[d1] at z;cases z⟩
   . exact⟨o2,e2,fun v z=>by rw[d2] at z;cases z⟩
 keep:=fun i h h' st k=>by
   obtain⟨hz,hTI,⟨u,v,hTO⟩,h1,h2⟩:=st
   exact⟨k z (by simp) _ hz,k TI (by simp) _ hTI,⟨u,v,k TO (by simp) _ hTO⟩,h1.at fun o x=>k i1 (by simp) o x,h2.at fun o x=>k i2 (by simp) o x⟩
 item:=by
   intro X hP hw hK hc i pins s σ H E I hf st hg
   subst hP hw hK
   obtain⟨xs,ys,x,y,hq,hr,hx,hy⟩:=hg
   obtain⟨its,rv,p,_⟩:=I.list hq
   obtain⟨jts,rw',p',_⟩:=I.list hr
   obtain⟨u,hu,ru⟩:=rv.get hx
   obtain⟨v,hv,rv'⟩:=rw'.get hy
   obtain⟨hz,hTI,⟨c0,c1,hTO⟩,h1,h2⟩:=st
   have zlt:z<s.heap.objs.size:=Heap.lt_size hz
   have lts:∀c∈ [z,TI,TO,i1,i2],c<s.heap.objs.size:=fun c hc=>by
     obtain⟨o1,e1,_⟩:=id h1
     obtain⟨o2,e2,_⟩:=id h2
     rcases(by simpa using hc:c=z\/c=TI\/c=TO\/c=i1\/c=i2) with rfl|rfl|rfl|rfl|rfl
     . exact zlt
     . exact Heap.lt_size hTI
     . exact Heap.lt_size hTO
     . exact Heap.lt_size e1
     . exact Heap.lt_size e2
   refine wpAny_pyNext_zip_item D hz hTI hTO h1 h2 p.isList p'.isList (x:=u) (y:=v) (by simpa using hu) (by simpa using hv) fun g1 ho hTO1 h11 h21 hT hsz hk=>?_
   refine⟨_,rfl,wpAny_letOwnedTupleGo_zip ho fun g2 hz2 hs2=>?_⟩
   have hs2:Heap.SameBut z g1 g2:=hs2
   obtain⟨I2,hn⟩:=I.paired (h':=g2) (t':=s.toks) (fp:=[z,TI,TO,i1,i2]) ru rv' hf lts
     (fun c o hb q=>(hs2.2 c (fun w=>hb (by simp[w]))).trans (hk c o (fun w=>hb (by simp[w])) (fun w=>hb (by simp[w])) (fun w=>hb (by simp[w])) (fun w=>hb (by simp[w])) q)) ((hs2.2 _ (Nat.ne_of_gt zlt)).trans hT)
   refine⟨.ref s.heap.objs.size,_,I2,rfl,⟨_,x,y,rfl,I.hok.fresh (Nat.le_refl _),rfl,fun ws hw=>by rw[I.list_inj hw hq];exact hx,fun ws hw=>by rw[I.list_inj hw hr];exact hy⟩,⟨hz2,?_,⟨u,v,?_⟩,?_,?_⟩,hn⟩
   . exact(hs2.2 _ D.TIz).trans (hk TI _ D.TIz D.TITO D.TIi1 D.TIi2 hTI)
   . exact(hs2.2 _ D.TOz).trans hTO1
   . exact h11.at fun o q=>(hs2.2 _ D.i1z).trans q
   . exact h21.at fun o q=>(hs2.2 _ D.i2z).trans q
 done:=by
   intro X hP hw hK hc i pins s σ H E I hf st hg
   subst hP hw hK
   obtain⟨xs,ys,hq,hr,hx⟩:=hg
   obtain⟨its,rv,p,_⟩:=I.list hq
   obtain⟨jts,rw',p',_⟩:=I.list hr
   obtain⟨hz,hTI,⟨c0,c1,hTO⟩,h1,h2⟩:=st
   have hl:=rv.length
   have hl':=rw'.length
   refine wpAny_pyNext_zip_end (I.ok.hd hc) D hz hTI hTO h1 h2 p.isList p'.isList ?_ fun h' eb=>⟨rfl,I.turnedL (t':=s.toks) (fp:=[z,TI,TO,i1,i2]) (fun c o hb q=>eb c o (fun w=>hb (by simp[w])) (fun w=>hb (by simp[w])) (fun w=>hb (by simp[w])) (fun w=>hb (by simp[w])) q) hf⟩
   rcases hx with hx|hx
   . exact .inl (by simp;omega)
   . exact .inr (by simp;omega)
 self:=fun _ _ _ _ _ st h=>wpAny_pyIter_zip st.1 h
theorem C4j(n l l':Nat)(h1:l<n)(h2:l'<n):ZipApart (n+4) (n+2) (n+3) n (n+1) l l':=by
 constructor<;>(show @Ne Nat _ _;omega)
section
variable{X:Cx}{es:List Expr}{k:Nat}{tp:Pos}
noncomputable def J0j (K:Frag) (ta:TA):TI:=fun σ H R=>ta σ H fun vs H1=>∃a b,vs=[.ref a,.ref b]/\(∃xs,SqL K H1 a xs)/\(∃ys,SqL K H1 b ys)/\R (Itz K a b) H1
theorem C9v{a b:Expr}{ta:TA}{p pos:Pos}(hg:Gl X "zip")(hm:X.mg "zip"=none)(ha:PA X [a,b] ta)(hs:starEach [a,b] X.env=[(false,eval a X.env),(false,eval b X.env)]:=by rfl)(hs2:starEach [b] X.env=[(false,eval b X.env)]:=by rfl):
   PI X (.Tuple es k tp) (.Call (.Name "zip" p) [a,b] [] pos) (J0j X.K ta):=by
 intro pins s σ H R I h
 refine Call_ (A7g I hg hm C9q (PyProof.Rows.callWith_type1 (thn (ha pos pins s σ H _ I h) fun us s1 hh_=>?_) (by rw[hs,hs2]) (by rw[hs2];rfl)))
 obtain⟨vs,H1,I1,r1,q1⟩:=hh_
 obtain⟨l,l',e,⟨xs,hq⟩,⟨ys,hr⟩,q⟩:=q1
 subst e
 cases r1 with
 | cons r rr=>
   cases rr with
   | cons r' rr=>
     cases rr
     cases r
     cases r'
     obtain⟨its,rv,pl,_⟩:=I1.list hq
     obtain⟨jts,rw',pl',_⟩:=I1.list hr
     obtain⟨o1,e1,_⟩:=id pl.isList
     obtain⟨o2,e2,_⟩:=id pl'.isList
     have l1:=Heap.lt_size e1
     have l2:=Heap.lt_size e2
     refine call_zip_2 pl.isList pl'.isList fun h' hz hTI hTO h1 h2 hsz hk=>wpAny_pyIter_zip hz ?_
     have I2:Inv X pins σ H1 {s1 with heap:=h'}:=I1.kept (t':=s1.toks) hk
     have D:ZipApart (s1.heap.objs.size+4) (s1.heap.objs.size+2) (s1.heap.objs.size+3) s1.heap.objs.size (s1.heap.objs.size+1) l l':=C4j _ _ _ l1 l2
     refine⟨s1.heap.objs.size+4,[s1.heap.objs.size+4,s1.heap.objs.size+2,s1.heap.objs.size+3,s1.heap.objs.size,s1.heap.objs.size+1],_,_,H1,rfl,I2,C7f l l' _ _ _ _ _ D,⟨hz,hTI,⟨_,_,hTO⟩,h1,h2⟩,fun b hb=>?_,q⟩
     have hb:b=s1.heap.objs.size+4\/b=s1.heap.objs.size+2\/b=s1.heap.objs.size+3\/b=s1.heap.objs.size\/b=s1.heap.objs.size+1:=by simpa using hb
     have ge:s1.heap.objs.size<=b:=by
       rcases hb with rfl|rfl|rfl|rfl|rfl
       . exact Nat.le_add_right _ _
       . exact Nat.le_add_right _ _
       . exact Nat.le_add_right _ _
       . exact Nat.le_refl _
       . exact Nat.le_add_right _ _
     exact I1.fpOk ge (I1.hok.fresh ge)
end
noncomputable def D8f (D:Addr) (H H':Hp):Prop:=∀b o,H b=some o ->b≠D ->H' b=some o
theorem A2w{J:It}{g:TG}{te:TE}{σ0:St}{H1:Hp}{QD:Addr ->Hp ->Prop}{n:Nat}(R:Nat ->V ->Hp ->Prop)(hn:n<=1000)
   (mono:∀i y H' H'' D l,R i y H' ->H' D=some (.lst l) ->D8f D H' H'' ->R i y H'')
   (step:∀i H2 Qy,i<n ->B7 H1 H2 ->(∀y H6,B7 H2 H6 ->R i y H6 ->Qy y H6) ->J.go i H2/\∀x H3,J.yld i H2 x H3 ->g x σ0 H3 fun σ4 H4=>te σ4 H4 Qy)
   (stop:∀H2,B7 H1 H2 ->J.stop n H2)
   (k:∀D H' ys,B7 H1 H' ->H1 D=none ->H' D=some (.lst ys) ->ys.length=n ->(∀i y,ys[i]?=some y ->R i y H') ->QD D H'):∀D,H1 D=none ->
   ∃ (m:Nat) (W:Nat ->List V ->Hp ->Prop),W 0 [] (upd H1 D (.lst []))/\∀i ys H2,W i ys H2 ->i<=m/\H2 D=some (.lst ys)/\((J.stop i H2/\QD D H2)\/(i<m/\J.go i H2/\∀x H3,J.yld i H2 x H3 ->
     g x σ0 H3 fun σ4 H4=>te σ4 H4 fun y H6=>H6 D=some (.lst ys)/\ys.length<sizeLine/\W (i+1) (ys++ [y]) (upd H6 D (.lst (ys++ [y]))))):=by
 intro D hD
 refine⟨n,fun i ys H2=>i<=n/\ys.length=i/\H2 D=some (.lst ys)/\B7 H1 H2/\∀j y,ys[j]?=some y ->R j y H2,⟨Nat.zero_le _,rfl,A6,B7.upd hD,fun j y h=>by simp at h⟩,?_⟩
 rintro i ys H2 ⟨hi,hl,hd,sm,hR⟩
 refine⟨hi,hd,?_⟩
 by_cases hlt:i<n
 . refine .inr ⟨hlt,step i H2 _ hlt sm fun y H6 s6 r6=>?_⟩
   have d6:H6 D=some (.lst ys):=s6 _ _ hd
   have ex:D8f D H6 (upd H6 D (.lst (ys++ [y]))):=fun b o e hb=>by rw[C7 hb];exact e
   refine⟨d6,Nat.lt_of_le_of_lt (by omega:ys.length<=1000) (A0v (Nat.le_refl _)),hlt,by simp[hl],A6,fun b o e=>?_,fun j z hj=>?_⟩
   . rw[C7 (D9 e hD)]
     exact s6 _ _ (sm _ _ e)
   . by_cases hj':j<ys.length
     . rw[List.getElem?_append_left hj'] at hj
       exact mono j z H6 _ D ys (mono j z H2 H6 D ys (hR j z hj) hd fun b o e _=>s6 _ _ e) d6 ex
     . rw[List.getElem?_append_right (by omega)] at hj
       have e0:j-ys.length=0:=by
         apply Classical.byContradiction
         intro q
         rw[List.getElem?_eq_none (by simp;omega)] at hj
         cases hj
       rw[e0] at hj
       have ej:j=i:=by omega
       subst ej
       cases hj
       exact mono _ _ H6 _ D ys r6 d6 ex
 have e:i=n:=by omega
 subst e
 exact .inl ⟨stop H2 sm,k D H2 ys sm hD hd hl hR⟩
theorem C8x{J:It}{g:TG}{tc:TT}{te:TE}{σ0:St}{H1:Hp}{QD:Addr ->Hp ->Prop}{n:Nat}(f:Nat ->Bool)(R:Nat ->V ->Hp ->Prop)(hn:n<=1000)
   (mono:∀i y H' H'' D l,R i y H' ->H' D=some (.lst l) ->D8f D H' H'' ->R i y H'')
   (step:∀(i:Nat) (H2:Hp) (Qy:VK) (Qn:Hp ->Prop),i<n ->B7 H1 H2 ->(f i=true ->∀y H6,B7 H2 H6 ->R i y H6 ->Qy y H6) ->(f i=false ->∀H6,B7 H2 H6 ->Qn H6) ->J.go i H2/\∀x H3,J.yld i H2 x H3 ->g x σ0 H3 fun σ4 H4=>tc σ4 H4 fun b H5=>if b=true then te σ4 H5 Qy else Qn H5)
   (stop:∀H2,B7 H1 H2 ->J.stop n H2)
   (k:∀D H' ys,B7 H1 H' ->H1 D=none ->H' D=some (.lst ys) ->ys.length=((List.range n).filter f).length ->(∀(j i:Nat) (y:V),((List.range n).filter f)[j]?=some i ->ys[j]?=some y ->R i y H') ->QD D H'):∀D,H1 D=none ->
   ∃ (m:Nat) (W:Nat ->List V ->Hp ->Prop),W 0 [] (upd H1 D (.lst []))/\∀i ys H2,W i ys H2 ->i<=m/\H2 D=some (.lst ys)/\((J.stop i H2/\QD D H2)\/(i<m/\J.go i H2/\∀x H3,J.yld i H2 x H3 ->
     g x σ0 H3 fun σ4 H4=>tc σ4 H4 fun b H5=>if b=true then te σ4 H5 fun y H6=>H6 D=some (.lst ys)/\ys.length<sizeLine/\W (i+1) (ys++ [y]) (upd H6 D (.lst (ys++ [y]))) else W (i+1) ys H5)):=by
 intro D hD
 refine⟨n,fun i ys H2=>i<=n/\ys.length=((List.range i).filter f).length/\H2 D=some (.lst ys)/\B7 H1 H2/\∀(j i':Nat) (y:V),((List.range i).filter f)[j]?=some i' ->ys[j]?=some y ->R i' y H2,⟨Nat.zero_le _,rfl,A6,B7.upd hD,fun j i' y h=>by simp at h⟩,?_⟩
 rintro i ys H2 ⟨hi,hl,hd,sm,hR⟩
 refine⟨hi,hd,?_⟩
 by_cases hlt:i<n
 . have fl :((List.range i).filter f).length<=i:=Nat.le_trans (List.length_filter_le _ _) (by simp)
   refine .inr ⟨hlt,step i H2 _ _ hlt sm (fun hf y H6 s6 r6=>?_) (fun hf H6 s6=>?_)⟩
   . have d6:H6 D=some (.lst ys):=s6 _ _ hd
     have ex:D8f D H6 (upd H6 D (.lst (ys++ [y]))):=fun b o e hb=>by rw[C7 hb];exact e
     have ef:(List.range (i+1)).filter f=(List.range i).filter f++ [i]:=by rw[List.range_succ,List.filter_append,List.filter_cons,hf];rfl
     refine⟨d6,Nat.lt_of_le_of_lt (by omega:ys.length<=1000) (A0v (Nat.le_refl _)),hlt,by rw[ef,List.length_append,List.length_append,hl];rfl,A6,fun b o e=>?_,fun j i' z hi' hj=>?_⟩
     . rw[C7 (D9 e hD)]
       exact s6 _ _ (sm _ _ e)
     . rw[ef] at hi'
       by_cases hj':j<ys.length
       . rw[List.getElem?_append_left hj'] at hj
         rw[List.getElem?_append_left (by omega)] at hi'
         exact mono i' z H6 _ D ys (mono i' z H2 H6 D ys (hR j i' z hi' hj) hd fun b o e _=>s6 _ _ e) d6 ex
       . rw[List.getElem?_append_right (by omega)] at hj
         rw[List.getElem?_append_right (by omega)] at hi'
         have e0:j-ys.length=0:=by
           apply Classical.byContradiction
           intro q
           rw[List.getElem?_eq_none (by simp;omega)] at hj
           cases hj
         rw[e0] at hj
         rw[<-hl,e0] at hi'
         cases hj
         cases hi'
         exact mono _ _ H6 _ D ys r6 d6 ex
   . have ef:(List.range (i+1)).filter f=(List.range i).filter f:=by rw[List.range_succ,List.filter_append,List.filter_cons,hf];simp
     refine⟨hlt,by rw[ef];exact hl,s6 _ _ hd,sm.trans s6,fun j i' z hi' hj=>?_⟩
     rw[ef] at hi'
     exact mono i' z H2 H6 D ys (hR j i' z hi' hj) hd fun b o e _=>s6 _ _ e
 have e:i=n:=by omega
 subst e
 exact .inl ⟨stop H2 sm,k D H2 ys sm hD hd hl hR⟩
open AutoSeq1 (wpAny_loadPart')
section
variable{prog:Program}{w:World}{A:Around}{E:Value ->Shared ->Prop}{s:Shared}
theorem D9s{j c:Addr}{i:Nat}{its:Array Value}{x:Value}{Q:Value ->Shared ->Prop}(hi:s.heap.IsTupleIter j c i)(ht:s.heap.IsTuple c its)(hx:its[i]?=some x)
   (k:∀g,g.IsTupleIter j c (i+1) ->Heap.SameBut j s.heap g ->Q x {s with heap:=g}):wpAny (model prog w) A (Builtin.SmallTypes.nextOf (.ref j)) Q E s:=by
 obtain⟨o,ho,oc,od⟩:=id hi
 obtain⟨u,hu,_,n,ud⟩:=ht
 unfold Builtin.SmallTypes.nextOf
 refine wpAny_bind (wpAny_callSpecial?_slot (name:=Str.ofString "__next__") hi.typeIs F.slot_tuple_iterator_next (wpAny_call_entry F.slot_tuple_iterator_next hi.typeIs F.entry_tuple_iterator_next ?_ (F.args_tuple_iterator_next_1 _)))
 show wpAny _ _ (field (.ref j) 0>>=_) _ _ s
 refine wpAny_bind (wpAny_field ho od (x:= .ref c) rfl ?_)
 show wpAny _ _ (if(Value.ref c==Value.none)=true then _ else _) _ _ s
 rw[if_neg (show¬((Value.ref c==Value.none)=true) from Bool.false_ne_true)]
 show wpAny _ _ (field (.ref j) 1>>=_) _ _ s
 refine wpAny_bind (wpAny_field ho od (x:= .int i 0) rfl ?_)
 show wpAny _ _ (seqItems? (.ref c)>>=_) _ _ s
 refine wpAny_bind (wpAny_seqItems hu ud ?_)
 simp only[Int.toNat_natCast,hx]
 refine wpAny_bind (wpAny_setField ho od (by simp) (wpAny_pure ⟨x,rfl,wpAny_pure (k _ ?_ (Heap.SameBut.update ..))⟩))
 exact⟨_,Heap.get?_update_self _ ho (Obj.isFreed_of_fields (Obj.data_mapFields od _)),(Obj.cls_mapFields ..).trans oc,by rw[Obj.data_mapFields od];simp[rawInt]⟩
theorem B9w{j c:Addr}{i:Nat}{its:Array Value}{Q:Value ->Shared ->Prop}(hh:A.handled=none)(hi:s.heap.IsTupleIter j c i)(ht:s.heap.IsTuple c its)(hx:its[i]?=none)
   (k:∀g e,Heap.ExtBut j s.heap g ->(∃o,g.get? e=some o/\o.cls= .type "StopIteration") ->E (.ref e) {s with heap:=g}):wpAny (model prog w) A (Builtin.SmallTypes.nextOf (.ref j)) Q E s:=by
 obtain⟨o,ho,oc,od⟩:=id hi
 obtain⟨u,hu,_,n,ud⟩:=ht
 unfold Builtin.SmallTypes.nextOf
 refine wpAny_bind (wpAny_callSpecial?_slot (name:=Str.ofString "__next__") hi.typeIs F.slot_tuple_iterator_next (wpAny_call_entry F.slot_tuple_iterator_next hi.typeIs F.entry_tuple_iterator_next ?_ (F.args_tuple_iterator_next_1 _)))
 show wpAny _ _ (field (.ref j) 0>>=_) _ _ s
 refine wpAny_bind (wpAny_field ho od (x:= .ref c) rfl ?_)
 show wpAny _ _ (if(Value.ref c==Value.none)=true then _ else _) _ _ s
 rw[if_neg (show¬((Value.ref c==Value.none)=true) from Bool.false_ne_true)]
 show wpAny _ _ (field (.ref j) 1>>=_) _ _ s
 refine wpAny_bind (wpAny_field ho od (x:= .int i 0) rfl ?_)
 show wpAny _ _ (seqItems? (.ref c)>>=_) _ _ s
 refine wpAny_bind (wpAny_seqItems hu ud ?_)
 simp only[Int.toNat_natCast,hx]
 refine wpAny_bind (wpAny_rule (wpAny_bind (wpAny_setField ho od (by simp) ?_)))
 show wpAny _ _ (newExc (.type "StopIteration") ([]:List Value)>>=_) _ _ _
 refine wpAny_bind ?_
 simp only[newExc,newTuple]
 refine wpAny_bind (wpAny_newObj_type ?_ (by size_fits))
 refine wpAny_bind (m:=firstArgMember _ _) (wpAny_of_eq (a:=Value.none) (by simp only[firstArgMember];rfl) ?_)
 refine wpAny_newObj_type ?_ (by size_fits)
 simp only[raiseNew]
 refine wpAny_bind (wpAny_handled ?_)
 first|rw[show A.in1.handled=none from hh]|rw[hh]
 exact wpAny_bind (wpAny_pure (wpAny_throw (k _ _ (((Heap.SameBut.update ..).extBut.push _).push _) ⟨_,Heap.get?_push_size _ rfl,rfl⟩)))
theorem D5u{e j:Addr}{i:Nat}{old:Value}{R:Value ->Heap ->Prop}{Q:Value ->Shared ->Prop}(he:IsEnum s.heap e j i old)(ne:e≠j)
   (keep:∀x h g,R x h ->(∀o,h.get? j=some o ->g.get? j=some o) ->R x g)
   (nx:∀Q':Value ->Shared ->Prop,(∀x g,R x g ->Heap.SameBut j s.heap g ->Q' x {s with heap:=g}) ->wpAny (model prog w) A (Builtin.SmallTypes.nextOf (.ref j)) Q' E s)
   (k:∀x g,R x g ->IsEnumOut g e j ((i:Int)+1) x s.heap.objs.size ->g.get? s.heap.objs.size=some {cls:= .type "tuple",data:= .seq #[.int i s.toks,x]} ->
     (∀b o,b≠e ->b≠j ->s.heap.get? b=some o ->g.get? b=some o) ->Q (.ref s.heap.objs.size) {s with heap:=g,toks:=s.toks+1}):
   wpAny (model prog w) A (Builtin.«enumerate.__next__» ⟨[.ref e], []⟩) (fun fin s' => ∃ v, fin = .done (.ret v) /\ Q v s') E s := by
 obtain⟨hp,gs,dr,tk,os⟩:=s
 show wpAny _ _ (field (.ref e) 2>>=_) _ _ _
 refine wpAny_bind (wpAny_field he rfl (x:= .ref j) rfl ?_)
 refine wpAny_bind (nx _ fun x g1 r1 s1=>?_)
 have s1:Heap.SameBut j hp g1:=s1
 have e1:IsEnum g1 e j i old:=(s1.2 e ne).trans he
 show wpAny _ _ (field (.ref e) 3>>=_) _ _ ⟨g1,gs,dr,tk,os⟩
 refine wpAny_bind (wpAny_field e1 rfl (x:=rawInt i) rfl ?_)
 show wpAny _ _ (field (.ref e) 4>>=_) _ _ ⟨g1,gs,dr,tk,os⟩
 refine wpAny_bind (wpAny_field e1 rfl (x:= .none) rfl ?_)
 show wpAny _ _ (mkInt i>>=_) _ _ ⟨g1,gs,dr,tk,os⟩
 refine wpAny_bind (wpAny_mkInt ?_)
 show wpAny _ _ (setField (.ref e) 3 (rawInt ((i:Int)+1))>>=_) _ _ ⟨g1,gs,dr,tk+1,os⟩
 refine wpAny_bind (wpAny_setField_rec e1 (by simp) fun g2 e2 s2=>?_)
 have s2:Heap.SameBut e g1 g2:=s2
 have e2:IsEnum g2 e j ((i:Int)+1) old:=e2
 show wpAny _ _ (setField (.ref e) 4 .none>>=_) _ _ ⟨g2,gs,dr,tk+1,os⟩
 refine wpAny_bind (wpAny_setField_rec e2 (by simp) fun g3 e3 s3=>?_)
 have s3:Heap.SameBut e g2 g3:=s3
 have e3:IsEnum g3 e j ((i:Int)+1) old:=e3
 show wpAny _ _ (newTuple [.int i tk,x]>>=_) _ _ ⟨g3,gs,dr,tk+1,os⟩
 refine wpAny_bind (wpAny_newTuple ?_)
 have e4:IsEnum (g3.push {cls:= .type "tuple",data:= .seq #[.int i tk,x]}) e j ((i:Int)+1) old:=Heap.get?_push_of_some _ e3
 have sz:g3.objs.size=hp.objs.size:=by rw[s3.1,s2.1,s1.1]
 have t4:(g3.push {cls:= .type "tuple",data:= .seq #[.int i tk,x]}).get? hp.objs.size=some {cls:= .type "tuple",data:= .seq #[.int i tk,x]}:=by rw[<-sz];exact Heap.get?_push_size _ rfl
 have k4:∀b o,b≠e ->b≠j ->hp.get? b=some o ->(g3.push {cls:= .type "tuple",data:= .seq #[.int i tk,x]}).get? b=some o:=fun b o be bj hb=>Heap.get?_push_of_some _ (s3.extBut b o be (s2.extBut b o be (s1.extBut b o bj hb)))
 have r4:R x (g3.push {cls:= .type "tuple",data:= .seq #[.int i tk,x]}):=keep x g1 _ r1 fun o z=>Heap.get?_push_of_some _ (s3.extBut j o (Ne.symm ne) (s2.extBut j o (Ne.symm ne) z))
 generalize g3.push {cls:= .type "tuple",data:= .seq #[.int i tk,x]}=g4 at e4 t4 k4 r4
 have lt:e<hp.objs.size:=Heap.lt_size he
 show wpAny _ _ (Builtin.SmallTypes.ownedTupleIsFree (.ref e)>>=_) _ _ ⟨g4,gs,dr,tk+1,os⟩
 rw[sz]
 refine wpAny_bind ?_
 unfold Builtin.SmallTypes.ownedTupleIsFree
 refine wpAny_bind (wpAny_field e4 rfl (x:= .none) rfl (wpAny_pure ?_))
 simp only[if_true]
 refine wpAny_bind (wpAny_rule ?_)
 refine wpAny_bind (wpAny_field e4 rfl (x:=old) rfl ?_)
 refine wpAny_bind (wpAny_setField_rec e4 (by simp) fun g5 e5 s5=>?_)
 have s5:Heap.SameBut e g4 g5:=s5
 have e5:IsEnum g5 e j ((i:Int)+1) x:=e5
 show wpAny _ _ (Builtin.SmallTypes.ownedTupleHandOut (.ref e) (.ref hp.objs.size)>>=_) _ _ ⟨g5,gs,dr,tk+1,os⟩
 refine wpAny_bind ?_
 unfold Builtin.SmallTypes.ownedTupleHandOut
 refine wpAny_bind (wpAny_setField_rec e5 (by simp) fun g6 e6 s6=>?_)
 have s6:Heap.SameBut e g5 g6:=s6
 have e6:IsEnumOut g6 e j ((i:Int)+1) x hp.objs.size:=e6
 refine wpAny_setField_rec e6 (by simp) fun g7 e7 s7=>?_
 have s7:Heap.SameBut e g6 g7:=s7
 have up:∀b o,b≠e ->g4.get? b=some o ->g7.get? b=some o:=fun b o be z=>s7.extBut b o be (s6.extBut b o be (s5.extBut b o be z))
 exact wpAny_bind (wpAny_letGo (wpAny_pure ⟨_,rfl,k x g7 (keep x g4 g7 r4 fun o z=>up j o (Ne.symm ne) z) e7 (up _ _ (Nat.ne_of_gt lt) t4) fun b o be bj z=>up b o be (k4 b o be bj z)⟩))
theorem C7p{e j c:Addr}{i:Nat}{its:Array Value}{x old:Value}{Q:Option Value ->Shared ->Prop}(he:IsEnum s.heap e j i old)(hi:s.heap.IsTupleIter j c i)(ht:s.heap.IsTuple c its)(hx:its[i]?=some x)(ne:e≠j)
   (k:∀g,g.IsTupleIter j c (i+1) ->IsEnumOut g e j ((i:Int)+1) x s.heap.objs.size ->g.get? s.heap.objs.size=some {cls:= .type "tuple",data:= .seq #[.int i s.toks,x]} ->
     (∀b o,b≠e ->b≠j ->s.heap.get? b=some o ->g.get? b=some o) ->Q (some (.ref s.heap.objs.size)) {s with heap:=g,toks:=s.toks+1}):wpAny (model prog w) A (pyNext (.ref e)) Q E s:=by
 have hT:s.TypeIs (.ref e) "enumerate":=⟨_,he,rfl⟩
 unfold pyNext
 refine wpAny_bind (wpAny_attempt (wpAny_callSpecial?_slot (name:=Str.ofString "__next__") hT F.slot_enumerate_next (wpAny_call_entry F.slot_enumerate_next hT F.entry_enumerate_next ?_ (F.args_enumerate_next_1 _))))
 refine D5u (R:=fun y g=>y=x/\g.IsTupleIter j c (i+1)) he ne (fun y h g r kk=>⟨r.1,let⟨o,z,q⟩:=r.2;⟨o,kk o z,q⟩⟩) (fun Q' kk=>D9s hi ht hx fun g st sb=>kk x g ⟨rfl,st⟩ sb) fun y g r ho hT' hk=>?_
 obtain⟨rfl,st⟩:=r
 exact wpAny_pure (k g st ho hT' hk)
theorem D7w{e j c:Addr}{i:Nat}{its:Array Value}{old:Value}{Q:Option Value ->Shared ->Prop}(hh:A.handled=none)(he:IsEnum s.heap e j i old)(hi:s.heap.IsTupleIter j c i)(ht:s.heap.IsTuple c its)(hx:its[i]?=none)
   (k:∀g,Heap.ExtBut j s.heap g ->Q none {s with heap:=g}):wpAny (model prog w) A (pyNext (.ref e)) Q E s:=by
 have hT:s.TypeIs (.ref e) "enumerate":=⟨_,he,rfl⟩
 unfold pyNext
 refine wpAny_bind (wpAny_attempt (wpAny_callSpecial?_slot (name:=Str.ofString "__next__") hT F.slot_enumerate_next (wpAny_call_entry F.slot_enumerate_next hT F.entry_enumerate_next ?_ (F.args_enumerate_next_1 _))))
 show wpAny _ _ (field (.ref e) 2>>=_) _ _ _
 refine wpAny_bind (wpAny_field he rfl (x:= .ref j) rfl ?_)
 refine wpAny_bind (B9w hh hi ht hx fun g x eb so=>?_)
 obtain⟨o,ho,oc⟩:=so
 exact wpAny_bind (wpAny_isInstance (T:="StopIteration") (b:=true) ⟨o,ho,oc⟩ isSubtype_stop (wpAny_pure (k _ eb)))
theorem D6r(c:Addr)(its:Array Value)(ob:Obj)(oc:ob.cls= .type "tuple")(n:Nat)(od:ob.data= .seq its n):
   Meets (Builtin.«enumerate.__new__» ⟨[.type "enumerate", .ref c], []⟩) (fun _ R s => s.heap.get? c = some ob /\
     R (.ok (.ret (.ref (s.heap.push {cls:= .type "tuple_iterator",data:= .fields #[.ref c,.int 0 0]}).objs.size)))
       {s with heap:=(s.heap.push {cls:= .type "tuple_iterator",data:= .fields #[.ref c,.int 0 0]}).push {cls:= .type "enumerate",data:= .fields #[.none,.bool false,.ref s.heap.objs.size,rawInt 0,.none,.none]}}):=
 .of_wp fun prog w A R s h=>by
   obtain⟨hp,gs,dr,tk,os⟩:=s
   obtain⟨hc,h⟩:=h
   obtain⟨cl,dct,dt,sl⟩:=ob
   have oc:cl= .type "tuple":=oc
   have od:dt= .seq its n:=od
   subst oc od
   have hsub:=sub_enumerate
   have hL:Heap.IsTuple (Shared.heap ⟨hp,gs,dr,tk,os⟩) c its:=⟨_,hc,rfl,n,rfl⟩
   wp_walk using wpAny_loadPart' hc
   refine wpAny_stack_any fun st=>wpAny_pure ?_
   split
   . rename_i ty _ _ _ _ _
     cases(ty==Value.type "enumerate")
     . wp_walk using wpAny_loadPart' hc,wpAny_pyIter_tuple hL
       exact⟨_,rfl,h⟩
     . wp_walk using wpAny_loadPart' hc,wpAny_pyIter_tuple hL
       exact⟨_,rfl,h⟩
   . wp_walk using wpAny_loadPart' hc,wpAny_pyIter_tuple hL
     exact⟨_,rfl,h⟩
theorem A5r{c:Addr}{its:Array Value}{Q:Value ->Shared ->Prop}(hL:s.heap.IsTuple c its)
   (h:∀g,IsEnum g (s.heap.objs.size+1) s.heap.objs.size 0 .none ->g.IsTupleIter s.heap.objs.size c 0 ->(∀b o,s.heap.get? b=some o ->g.get? b=some o) ->Q (.ref (s.heap.objs.size+1)) {s with heap:=g}):
   wpAny (model prog w) A (call (.type "enumerate") [.ref c]) Q E s:=by
 obtain⟨ob,hc,oc,n,od⟩:=hL
 refine callType_new F.called_enumerate (by decide) (F.typeCall_enumerate_1 _) (F.newCall_enumerate_1 _) (fun obj=>F.args_object_init_2 obj _) F.entry_enumerate_new (D6r c its ob oc n od) ⟨hc,?_⟩
 have hz:(s.heap.push {cls:= .type "tuple_iterator",data:= .fields #[.ref c,.int 0 0]}).objs.size=s.heap.objs.size+1:=Heap.size_push ..
 show _/\_
 rw[hz]
 have he:IsEnum ((s.heap.push {cls:= .type "tuple_iterator",data:= .fields #[.ref c,.int 0 0]}).push {cls:= .type "enumerate",data:= .fields #[.none,.bool false,.ref s.heap.objs.size,rawInt 0,.none,.none]}) (s.heap.objs.size+1) s.heap.objs.size 0 .none:=by
   have q:=Heap.get?_push_size (s.heap.push {cls:= .type "tuple_iterator",data:= .fields #[.ref c,.int 0 0]}) (o:={cls:= .type "enumerate",data:= .fields #[.none,.bool false,.ref s.heap.objs.size,rawInt 0,.none,.none]}) rfl
   rw[hz] at q
   exact q
 exact⟨⟨_,he,rfl⟩,h _ he ⟨_,Heap.get?_push_of_some _ (Heap.get?_push_size _ rfl),rfl,rfl⟩ fun b o x=>Heap.get?_push_of_some _ (Heap.get?_push_of_some _ x)⟩
end
noncomputable def G0w (K:Frag) (a:Addr):It:=
 ⟨fun i H=>∃xs x,SqT K H a xs/\xs[i]?=some x,fun i H x H'=>∃t y,x= .ref t/\H t=none/\H'=upd H t (.tup [.int i,y])/\∀xs,SqT K H a xs ->xs[i]?=some y,fun i H=>∃xs,SqT K H a xs/\xs.length<=i⟩
theorem C0d{P:Program}{w:World}{K:Frag}{es:List Expr}{k:Nat}{pos:Pos}(a e it:Addr)(hei:e≠it):C5v P w K (.Tuple es k pos) (G0w K a) [e,it] e (fun i h=>(∃old,IsEnum h e it i old)/\h.IsTupleIter it a i) where
 mem:=by simp
 obj:=fun i h st b hb=>by
   obtain⟨⟨old,he⟩,o,eo,c,d⟩:=st
   rcases(by simpa using hb:b=e\/b=it) with rfl|rfl
   . exact⟨_,he,fun v z=>by
       have z':Data.fields _=Data.cell v:=z
       cases z'⟩
   . exact⟨o,eo,fun v z=>by rw[d] at z;cases z⟩
 keep:=fun i h h' st k=>by
   obtain⟨⟨old,he⟩,hit⟩:=st
   exact⟨⟨old,k e (by simp) _ he⟩,hit.at fun o x=>k it (by simp) o x⟩
 item:=by
   intro X hP hw hK hc i pins s σ H E I hf st hg
   subst hP hw hK
   obtain⟨xs,x,hq,hx⟩:=hg
   obtain⟨its,rv,p,hz⟩:=I.tuple hq
   obtain⟨u,hu,ru⟩:=rv.get hx
   obtain⟨⟨old,he⟩,hit⟩:=st
   have elt:e<s.heap.objs.size:=Heap.lt_size he
   have ilt:it<s.heap.objs.size:=by obtain⟨o,z,_⟩:=hit;exact Heap.lt_size z
   refine C7p he hit (show s.heap.IsTuple a its.toArray from p) (x:=u) (by simpa using hu) hei fun h1 hit1 ho hT hk=>?_
   refine⟨_,rfl,wpAny_letOwnedTupleGo_enum ho fun h2 he2 hs2=>?_⟩
   have hs2:Heap.SameBut e h1 h2:=hs2
   obtain⟨I2,hn⟩:=I.paired (h':=h2) (t':=s.toks+1) (fp:=[e,it]) (x:= .int i) (y:=x) (u:= .int i s.toks) (v:=u) ⟨_,rfl⟩ ru hf
     (fun b hb=>by rcases(by simpa using hb:b=e\/b=it) with rfl|rfl<;>assumption)
     (fun b o hb z=>(hs2.2 b (fun q=>hb (by simp[q]))).trans (hk b o (fun q=>hb (by simp[q])) (fun q=>hb (by simp[q])) z)) ((hs2.2 _ (Nat.ne_of_gt elt)).trans hT)
   refine⟨.ref s.heap.objs.size,_,I2,rfl,⟨_,x,rfl,I.hok.fresh (Nat.le_refl _),rfl,fun ys hy=>by rw[I.tuple_inj hy hq];exact hx⟩,⟨⟨u,?_⟩,hit1.at fun o y=>(hs2.2 it hei.symm).trans y⟩,hn⟩
   have:((i+1:Nat):Int)=(i:Int)+1:=by push_cast;rfl
   rw[this]
   exact he2
 done:=by
   intro X hP hw hK hc i pins s σ H E I hf st hg
   subst hP hw hK
   obtain⟨xs,hq,hx⟩:=hg
   obtain⟨its,rv,p,hz⟩:=I.tuple hq
   obtain⟨⟨old,he⟩,hit⟩:=st
   have hl:=rv.length
   exact D7w (I.ok.hd hc) he hit (show s.heap.IsTuple a its.toArray from p) (by simp;omega) fun h' eb=>⟨rfl,I.turnedL (t':=s.toks) (fp:=[e,it]) (fun b o hb z=>eb b o (fun q=>hb (by simp[q])) z) hf⟩
 self:=fun _ _ _ _ _ st h=>by
   obtain⟨⟨old,he⟩,hit⟩:=st
   exact wpAny_pyIter_enum he h
section
variable{X:Cx}{es:List Expr}{k:Nat}{tp:Pos}
noncomputable def G1z (K:Frag) (ta:TA):TI:=fun σ H R=>ta σ H fun vs H1=>∃a,vs=[.ref a]/\(∃xs,SqT K H1 a xs)/\R (G0w K a) H1
theorem C8d{a:Expr}{ta:TA}{p pos:Pos}(hg:Gl X "enumerate")(hm:X.mg "enumerate"=none)(ha:PA X [a] ta)(hs:starEach [a] X.env=[(false,eval a X.env)]:=by rfl):PI X (.Tuple es k tp) (.Call (.Name "enumerate" p) [a] [] pos) (G1z X.K ta):=by
 intro pins s σ H R I h
 refine Call_ (A7g I hg hm A9x (PyProof.Rows.callWith_type1 (thn (ha pos pins s σ H _ I h) fun us s1 hh_=>?_) hs rfl))
 obtain⟨vs,H1,I1,r1,q1⟩:=hh_
 obtain⟨l,e,⟨xs,hq⟩,q⟩:=q1
 subst e
 cases r1 with
 | cons r rr=>
   cases rr
   cases r
   obtain⟨its,rv,pl,hz⟩:=I1.tuple hq
   refine A5r (show s1.heap.IsTuple l its.toArray from pl) fun h' he hit hk=>wpAny_pyIter_enum he ?_
   have I2:Inv X pins σ H1 {s1 with heap:=h'}:=I1.kept (t':=s1.toks) hk
   refine⟨s1.heap.objs.size+1,[s1.heap.objs.size+1,s1.heap.objs.size],_,_,H1,rfl,I2,C0d l _ _ (Nat.succ_ne_self _),⟨⟨.none,he⟩,hit⟩,fun b hb=>?_,q⟩
   rcases(by simpa using hb:b=s1.heap.objs.size+1\/b=s1.heap.objs.size) with rfl|rfl
   . exact I1.fpOk (Nat.le_add_right _ _) (I1.hok.fresh (Nat.le_add_right _ _))
   . exact I1.fpOk (Nat.le_refl _) (I1.hok.fresh (Nat.le_refl _))
end
end L2
namespace L2
open PySem PySem.Spec PyProof.Rows PySem.W
section
variable{X:Cx}
end
end L2
namespace L2
open PySem PySem.W PyProof.Rows
section
variable{X:Cx}{o e:Expr}{ta:TE}{m:Str}{apos pos:Pos}{j k:Nat}{ps:List Str}{ι:Type}{cw f:ι ->Addr}{fd:ι ->FuncData}{sp:ι ->Sp}{EH:EK}
end
section
variable{X:Cx}{a b e o:Expr}{es:List Expr}{ta tb te to:TE}{t:TA}{pos:Pos}{st:Stmt}{rest:List Stmt}{ts u:TS}
end
end L2
namespace L2
open PySem PySem.Spec PyProof.Rows PySem.W
section
variable{X:Cx}{x f:Str}{p cpos pos:Pos}{e:Expr}{t:TA}{C fI:Addr}{fdI:FuncData}{ps:List Str}{j k:Nat}
end
section
variable{X:Cx}{x y:Str}{e:Expr}{t:TE}{p q:Pos}{pos pos2:Pos}
end
end L2
namespace L2
open PySem PySem.Spec PyProof.Rows
end L2
namespace L2
open PySem PySem.Spec PyProof.Rows PySem.W
mutual
inductive RdR(H:Hp):V ->PyData ->Prop where
 |non:RdR H .non .none
 |bl (b:Bool):RdR H (.bl b) (.bool b)
 |int (i:Int):RdR H (.int i) (.int i)
 |str (x:Str):RdR H (.str x) (.str x)
 |tup {a:Addr} {xs:List V} {ds:List PyData} (h:H a=some (.tup xs)) (r:A5h H xs ds):RdR H (.ref a) (.tuple ds)
 |lst {a:Addr} {xs:List V} {ds:List PyData} (h:H a=some (.lst xs)) (n:a≠sysModules) (r:A5h H xs ds):RdR H (.ref a) (.list ds)
 |dct0 {a:Addr} (h:H a=some (.dK [])):RdR H (.ref a) (.dict [])
 |dct1 {a:Addr} {z:Str} {b:Bool} (h:H a=some (.dK [(.inr z,.bl b)])):RdR H (.ref a) (.dict [(.str z,.bool b)])
inductive A5h(H:Hp):List V ->List PyData ->Prop where
 |nil:A5h H [] []
 |cons {x:V} {xs:List V} {d:PyData} {ds:List PyData} (h:RdR H x d) (r:A5h H xs ds):A5h H (x::xs) (d::ds)
end
mutual
theorem RdR.same{H H':Hp}(s:∀b o,H b=some o ->H' b=some o):∀{x:V} {d:PyData},RdR H x d ->RdR H' x d
 |_,_,.non=> .non
 |_,_,.bl b=> .bl b
 |_,_,.int i=> .int i
 |_,_,.str x=> .str x
 |_,_,.tup h r=> .tup (s _ _ h) (A5h.same s r)
 |_,_,.lst h n r=> .lst (s _ _ h) n (A5h.same s r)
 |_,_,.dct0 h=> .dct0 (s _ _ h)
 |_,_,.dct1 h=> .dct1 (s _ _ h)
theorem A5h.same{H H':Hp}(s:∀b o,H b=some o ->H' b=some o):∀{x:List V} {d:List PyData},A5h H x d ->A5h H' x d
 |_,_,.nil=> .nil
 |_,_,.cons h r=> .cons (RdR.same s h) (A5h.same s r)
end
section
variable{X:Cx}
mutual
theorem RdR.reads{pins:List (Addr×Obj)}{σ:St}{H:Hp}{s:Shared}(I:Inv X pins σ H s):∀{x:V} {d:PyData} {u:Value},RdR H x d ->V0 x u ->∃as,Reads s.heap u d as/\sysModules ∉ as
 |_,_,_,.non,r=>by cases r;exact⟨_,.none,by simp⟩
 |_,_,_,.bl b,r=>by cases r;exact⟨_,.bool b,by simp⟩
 |_,_,_,.int i,r=>by obtain⟨t,rfl⟩:=r;exact⟨_,.int i t,by simp⟩
 |_,_,_,.str x,r=>by obtain⟨t,rfl⟩:=r;exact⟨_,.str x t,by simp⟩
 | _,_,_,.tup h q,r=>by
   cases r
   obtain⟨_,its,rv,o,e,c,n,d⟩:=I.hok _ _ h
   obtain⟨as,z,y⟩:=A5h.reads I q rv
   exact⟨_,.tuple e c d (by simpa using z),y⟩
 | _,_,_,.lst (a:=a) h nn q,r=>by
   cases r
   obtain⟨_,its,n,rv,e⟩:=I.hok _ _ h
   obtain⟨as,z,y⟩:=A5h.reads I q rv
   refine⟨_,.list e rfl rfl (by simpa using z),fun hm=>?_⟩
   rcases List.mem_cons.mp hm with hm|hm
   . exact nn hm.symm
   . exact y hm
 | _,_,_,.dct0 (a:=a) h,r=>by
   cases r
   obtain⟨_,nS,vs,kv,o,es,ep,e,c,d,_,ps,_⟩:=I.hok _ _ h
   cases kv
   cases hp:es.toList with
   |cons _ _=>rw[hp] at ps;cases ps
   | nil=>
     refine⟨_,.dict (kvs:=[]) e c.1 d (by rw[hp];exact .nil) (by rw[hp];exact .nil),fun hm=>?_⟩
     exact beq_eq_false_iff_ne.mp nS (by simpa using hm:sysModules=a).symm
 | _, _, _,.dct1 (a:=a) (z:=z) (b:=b) h,r=>by
   cases r
   obtain⟨_,nS,vs,kv,o,es,ep,e,c,d,_,ps,_⟩:=I.hok _ _ h
   cases kv with
   | cons k1 k2=>
     cases k2
     obtain⟨k1a,k1b⟩:=k1
     cases ps':es.toList with
     |nil=>rw[ps'] at ps;cases ps
     | cons en rest=>
       rw[ps'] at ps
       cases ps with
       | cons p1 p2 p3=>
         cases p3
         have hk:∃t,en.key= .str z t:=by
           rw[<-k1a] at p1
           have p1:Value.isStrOf z en.key=true:=p1
           cases hk:en.key<;>rw[hk] at p1<;>simp[Value.isStrOf] at p1
           subst p1
           exact⟨_,rfl⟩
         obtain⟨t,hk⟩:=hk
         have hv:en.val= .bool b:=p2.trans k1b
         refine⟨_,.dict (kvs:=[(.str z,.bool b)]) e c.1 d (by rw[ps'];show ReadsAll s.heap [en.key] [.str z] _;rw[hk];exact .cons (.str z t) .nil) (by rw[ps'];show ReadsAll s.heap [en.val] [.bool b] _;rw[hv];exact .cons (.bool b) .nil),fun hm=>?_⟩
         exact beq_eq_false_iff_ne.mp nS (by simpa using hm:sysModules=a).symm
theorem A5h.reads{pins:List (Addr×Obj)}{σ:St}{H:Hp}{s:Shared}(I:Inv X pins σ H s):∀{xs:List V} {ds:List PyData} {us:List Value},A5h H xs ds ->G7 xs us ->∃as,ReadsAll s.heap us ds as/\sysModules ∉ as
 |_,_,_,.nil,r=>by cases r;exact⟨_,.nil,by simp⟩
 | _,_,_,.cons h q,r=>by
   cases r with
   | cons r1 r2=>
     obtain⟨as,z,n1⟩:=RdR.reads I h r1
     obtain⟨bs,y,n2⟩:=A5h.reads I q r2
     exact⟨_,.cons z y,by simp[n1,n2]⟩
end
end
section
variable{X:Cx}{j k:Nat}{f C:Addr}{fd:FuncData}{ps:List Str}{sp:Sp}{dvs:List V}{ds:List Value}{x m:Str}{p pos apos:Pos}{e o:Expr}{es:List Expr}{ta:TE}{t:TA}{st:Stmt}
theorem C5g{pins:List (Addr×Obj)}{σ:St}{H:Hp}{s:Shared}{Q:VK}{us:List Value}{vs:List V}(M:Mk X.K C f)(F:G8 X.prog X.w X.K X.mg X.base (CX1 X.prog X.w) k f fd ps sp)(hr:A0h (k+1) X.A)(hb:V4 X.K fd ps ds)(hd:G7 dvs ds)
   (I:Inv X pins σ H s) (r:G7 vs us)
   (h:∀x dx,H x=none ->H dx=none ->dx≠x ->sp (.ref x::(vs++dvs)) (upd (upd H dx (.own x)) x (.ins C dx [])) (fun v H2=>v= .non/\Q (.ref x) H2) (fun C d H'=>EKF C d σ H')):
   wpAny (model X.prog X.w) X.A (call (.ref C) us) (EP X pins σ Q) X.xe s:=by
 have hq:=h (s.heap.objs.size+1) s.heap.objs.size (I.hok.fresh (Nat.le_succ _)) (I.hok.fresh (Nat.le_refl _)) (Nat.ne_of_lt (Nat.lt_succ_self _))
 have I2:=Inv.made (C:=C) I
 have r2:G7 (V.ref (s.heap.objs.size+1)::(vs++dvs)) (Value.ref (s.heap.objs.size+1)::(us++ds)):= .cons rfl (r.append hd)
 have hl:(Value.ref (s.heap.objs.size+1)::us++ds).length=ps.length:=by
   have e:=r2.length
   rw[F.len _ _ _ _ hq] at e
   exact e.symm
 refine wpAny_call (B7k (f:=f) I.kIn M.makes M.init (beq_iff_eq.mp M.fn) (codeAny_mono (F.run _ X.stack _ _ ⟨Value.ref (s.heap.objs.size+1)::us,[]⟩ (Value.ref (s.heap.objs.size+1)::(us++ds)) _ _ _ (hr.make C us [])
   (I2.env0.make C us []) (hb _ (Value.ref (s.heap.objs.size+1)::us) I2.kIn hl) r2 hq) fun r s' hq'=>?_))
 cases r with
 | error e=>
   obtain⟨a,t,C,dd,H',_,_,_,_,_,hE,_⟩:=hq'
   exact False.elim hE
 | ok fl=>
   cases fl with
   | ret u=>
     obtain⟨v,H',I3,rv,ev,q3⟩:=I2.after hq'
     subst ev
     exact⟨rv,⟨V.ref (s.heap.objs.size+1),H',I3,rfl,q3⟩⟩
   |next=>exact False.elim hq'
   |brk=>exact False.elim hq'
   |cont=>exact False.elim hq'
theorem G0g(M:Mk X.K C f)(F:G8 X.prog X.w X.K X.mg X.base (CX1 X.prog X.w) j f fd ps sp)(hr:A0h k X.A)(hm:X.mg x=some (.ref C))(hb:V4 X.K fd ps ds)(hd:G7 dvs ds)
   (ha:PA X (e::es) t) (hj:j+1<=k:=by decide) (hg:Gl X x:=by rfl) (hdb:(x==("__debug__":Str))=false:=by decide) (he:starEach (e::es) X.env=(false,eval e X.env)::starEach es X.env:=by rfl) (hpl:(backTo pos (starEach es X.env)).any (·.1)=false:=by rfl):
   PE X (.Call (.Name x p) (e::es) [] pos) (C7s C sp dvs EKF t):=by
 intro pins s σ H Q I h
 refine wpAny_Call_Name_kw (Z1 I hg hm ?_ hdb)
 refine callWith_K (h₀:=X.base) I.ok.mod.kin M.kp (thn (ha pos pins s σ H _ I h) fun us s1 ⟨vs,H1,I1,r,q⟩=>⟨I1.kIn,?_⟩) he hpl
 exact C5g M F (hr.mono hj) hb hd I1 r q
end
section
variable{cs:List Addr}{H H' H2:Hp}{b:Addr}{P:Program}{w:World}{h h':Heap}{fs:List Addr}
end
section
variable{X:Cx}{j k:Nat}{f:Addr}{fd:FuncData}{ps:List Str}{sp:Sp}{ds:List Value}{EH:EK}{x:Str}{p pos:Pos}{e:Expr}{es:List Expr}{t:TA}{st:Stmt}
end
section
variable{X:Cx}
end
theorem SqL.kept{K:Frag}{H H':Hp}{a:Addr}{xs:List V}(h:SqL K H a xs)(s:∀o,H a=some o ->(o= .lst xs\/∃oc,o= .frz oc (.lst xs)) ->H' a=some o):SqL K H' a xs:=by
 rcases h with(h|⟨o,h⟩)|h
 . exact .inl (.inl (s _ h (.inl rfl)))
 . exact .inl (.inr ⟨o,s _ h (.inr ⟨o,rfl⟩)⟩)
 exact .inr h
section
variable{X:Cx}{tg:Expr}
end
section
variable{X:Cx}
end
section
variable{prog:Program}{w:World}{A:Around}{E:Value ->Shared ->Prop}{s:Shared}
end
section
variable{X:Cx}{pos:Pos}
end
section
variable{X:Cx}{pos tpos pa pb:Pos}
end
section
variable{X:Cx}{N F:List Str}{js:List Nat}{scope:Scope}
end
section
variable{X:Cx}{tg:Expr}
end
section
variable{X:Cx}{pins:List (Addr×Obj)}{σ:St}{H:Hp}{s:Shared}
end
section
variable{X:Cx}{tg:Expr}
end
end L2
namespace TR
open PySem L2 PySem.W PyProof.Rows
structure G2h(K:Frag):Prop where
 isi:nsIn K mainGlobals "isinstance"=some none
 int_:nsIn K mainGlobals "int"=some none
 bool_:nsIn K mainGlobals "bool"=some none
 str_:nsIn K mainGlobals "str"=some none
 list_:nsIn K mainGlobals "list"=some none
 tuple_:nsIn K mainGlobals "tuple"=some none
 dict_:nsIn K mainGlobals "dict"=some none
 len_:nsIn K mainGlobals "len"=some none
 range_:nsIn K mainGlobals "range"=some none
 min_:nsIn K mainGlobals "min"=some none
 max_:nsIn K mainGlobals "max"=some none
 abs_:nsIn K mainGlobals "abs"=some none
 any_:nsIn K mainGlobals "any"=some none
 all_:nsIn K mainGlobals "all"=some none
 sum_:nsIn K mainGlobals "sum"=some none
 repr_:nsIn K mainGlobals "repr"=some none
 enumerate_:nsIn K mainGlobals "enumerate"=some none
 reversed_:nsIn K mainGlobals "reversed"=some none
 zip_:nsIn K mainGlobals "zip"=some none
 sorted_:nsIn K mainGlobals "sorted"=some none
 divmod_:nsIn K mainGlobals "divmod"=some none
 set_:nsIn K mainGlobals "set"=some none
 ValueError_:nsIn K mainGlobals "ValueError"=some none
theorem G2h.go{K:Frag}{h:Heap}{mg:Str ->Option Value}(u:G2h K)(X:K.In h)(G:h.Ns mainGlobals mg):Own mg:=⟨mg_none_of X G u.isi,mg_none_of X G u.int_,mg_none_of X G u.bool_,mg_none_of X G u.str_,mg_none_of X G u.list_,mg_none_of X G u.tuple_,mg_none_of X G u.dict_,mg_none_of X G u.len_,mg_none_of X G u.range_,mg_none_of X G u.min_,mg_none_of X G u.max_,mg_none_of X G u.abs_,mg_none_of X G u.any_,mg_none_of X G u.all_,mg_none_of X G u.sum_,mg_none_of X G u.repr_,mg_none_of X G u.enumerate_,mg_none_of X G u.reversed_,mg_none_of X G u.zip_,mg_none_of X G u.sorted_,mg_none_of X G u.divmod_,mg_none_of X G u.set_,mg_none_of X G u.ValueError_⟩
end TR
namespace L2
open PySem PySem.Spec PyProof.Rows PySem.W
section
variable{X:Cx}{j k:Nat}{f:Addr}{EH:EK}{x y:Str}{p p1 pos:Pos}
end
section
variable{X:Cx}{N F:List Str}{js:List Nat}{scope:Scope}
end
section
variable{X:Cx}{N F:List Str}{js:List Nat}{scope:Scope}
end
structure A1b(X:Cx)(EH:EK):Prop where
 c:V3 X EH
 hd:V8 X
 q:X.A.handled=none\/∀C d σ H,¬EH C d σ H
structure C6(P:Program)(w:World)(K:Frag)(mg:Str ->Option Value)(base:Heap)(k:Nat)(f:Addr)(fd:FuncData)(ps:List Str)(sp:Sp):Prop where
 len:∀vs H Q E,sp vs H Q E ->vs.length=ps.length
 run:∀(A:Around) (outer:List Env) (s:Shared) (H:Hp) (args:Args) (us:List Value) (vs:List V) (Q:VK) (E:XK),V5 k A ->A9b P w K mg base A outer s H ->HdH A H ->(A.handled=none\/∀C d H',¬E C d H') ->BindsTo s fd args (ps.zip us) ->G7 vs us ->sp vs H Q E ->
   codeAny (model P w) A (.call (.ref f) args) (CR (CX1 P w) outer P w H s Q E) s
section
variable{P:Program}{w:World}{K:Frag}{mg:Str ->Option Value}{base:Heap}{k:Nat}{f:Addr}{fd:FuncData}{ps:List Str}{sp:Sp}
theorem C6.mono{j:Nat}(F:C6 P w K mg base j f fd ps sp)(h:j<=k):C6 P w K mg base k f fd ps sp:=⟨F.len,fun A outer s H args us vs Q E hr=>F.run A outer s H args us vs Q E (hr.mono h)⟩
theorem C6.fn(F:C6 P w K mg base k f fd ps sp):G8 P w K mg base (CX1 P w) k f fd ps sp:=⟨F.len,fun A outer s H args us vs Q E hr e0 hb r hsp=>F.run A outer s H args us vs Q E hr.h e0 (.inl hr.hd) (.inl hr.hd) hb r hsp⟩
theorem C6.h(F:C6 P w K mg base k f fd ps sp):B3w P w K mg base k f fd ps sp:=by
 refine⟨F.len,fun A outer s H args us vs Q hr e0 hd hb r hsp=>codeAny_mono (F.run A outer s H args us vs Q E0 hr e0 hd (.inr fun _ _ _ z=>z) hb r hsp) fun r s' q=>?_⟩
 cases r with
 | error e=>
   obtain⟨a,t,C,dd,H',_,_,_,_,_,hE,_⟩:=q
   exact hE.elim
 |ok fl=>cases fl<;>exact q
end
noncomputable abbrev A5k (P:Program) (w:World) (K:Frag) (mg:Str ->Option Value) (base:Heap) (N:List Str) (qual:Str) (scope:Scope) (f:Addr) (cd:Value) (A:Around) (outer:List Env) (s:Shared) (H:Hp) (E:XK):Cx:=
 {A2g (CX1 P w) P w K mg base N qual scope f cd A outer s H E with calm:=false}
theorem A8v{P:Program}{w:World}{K:Frag}{mg:Str ->Option Value}{base:Heap}{N:List Str}{qual:Str}{scope:Scope}{f:Addr}{cd:Value}{A:Around}{outer:List Env}{s:Shared}{H:Hp}{E:XK}:
   V3 (A5k P w K mg base N qual scope f cd A outer s H E) (fun C dd _ H'=>E C dd H'):=by
 intro pins σ H' s' a t C dd I F h
 refine B2q (X:=A5k P w K mg base N qual scope f cd A outer s H E) ⟨rfl,rfl,rfl⟩ I F fun s2 I2 F2=>?_
 obtain⟨na,T,oT,ts,e,ne,nT,eT,dT,h3⟩:=F2
 exact⟨a,t,C,dd,H',rfl,I2.os,I2.bare,I2.base,I2.hok,h,⟨na.old,na.un⟩,T,oT,ts,e,ne,⟨nT.old,nT.un⟩,eT,dT,h3⟩
section
variable{P:Program}{w:World}{K:Frag}{mg:Str ->Option Value}{base:Heap}
theorem Fun.ok2{x qual:Str}{st:Stmt}{f:Addr}{fd:FuncData}{N ps:List Str}{k:Nat}{sp:Sp}(F:Fun K x qual st f fd)(S:B8 N ps (A5 st))(len:∀vs H Q E,sp vs H Q E ->vs.length=ps.length)
   (hbody:∀(X:Cx) (cdv:Value) (A:Around) (outer:List Env) (s:Shared) (H:Hp) (vs:List V) (Q:VK) (E:XK),X=A5k P w K mg base N qual (A5 st) f cdv A outer s H E ->V5 k X.A ->A1b X (fun C dd _ H'=>E C dd H') ->sp vs H Q E ->
     ∃t,PSs (A5k P w K mg base N qual (A5 st) f cdv A outer s H E) (J9 st) t/\t {nx:=fun _ H'=>Q .non H',rt:=Q} (A1e N vs) H):C6 P w K mg base (k+1) f fd ps sp:=by
 obtain⟨oc,od,kV,doc,pm,an,cdv,ct,osl,rfl,lk,hcd⟩:=F.ex
 refine⟨len,fun A outer s H args us vs Q E hr e0 hdh hq2 hb r hsp=>?_⟩
 have hl:=len _ _ _ _ hsp
 have KX:K.In s.heap:=e0.mod.kin.keeps fun b o e=>(e0.bs b o e).1
 have lim:s.heap.NoLimit:=e0.mod.nolimit.keeps fun b o e=>(e0.bs b o e).1
 have hkind:∀y∈ps.zip us,(A5 st).names.lookup y.1=some .local\/((A5 st).names.lookup y.1=some .cell/\((cellsFrom (s.heap.objs.size+1) (A5 st).names []).lookup y.1).isSome=true):=fun⟨n,v⟩ hy=>by
   rcases S.par n (List.of_mem_zip hy).1 with q|q
   . exact .inl q
   . exact .inr ⟨q,PySem.W.cellsFrom_some _ _ _ (.inl q)⟩
 refine codeAny_call_function hr.depth (KX _ _ lk) rfl S.co S.gen rfl (PySem.W.codeRec_of KX hcd) (hb _ _ _ _ ?_)
 refine wpAny_newFunctionEnv_cells S.kind hkind fun env he s1 x=>?_
 subst he
 refine⟨lim.keeps x.toInCall.keep,codeAny_func ?_⟩
 obtain⟨t,ht,hq⟩:=hbody _ cdv A outer s H vs Q E rfl (hr.deeper _) ⟨A8v,hdh,hq2.imp id fun z C d _ H'=>z C d H'⟩ hsp
 have I0:Inv (A2g (CX1 P w) P w K mg base N qual (A5 st) f cdv (L2.quiet A) outer s H E) [] (A1e N vs) H s1:=A7r S rfl e0.quiet hl r x
 have I:Inv (A5k P w K mg base N qual (A5 st) f cdv A outer s H E) [] (A1e N vs) H s1:=
   Inv.loud (X:=A2g (CX1 P w) P w K mg base N qual (A5 st) f cdv (L2.quiet A) outer s H E) (A:=A.deeper (envOfC qual (A5 st) s.heap.objs.size f cdv)) rfl I0
 refine wpAny_mono (ht [] s1 (A1e N vs) H _ I hq) (fun fl s' hs=>?_) fun e s' hs=>hs
 have fin:∀{σ':St} {H':Hp} {v:V} {u:Value},Inv (A5k P w K mg base N qual (A5 st) f cdv A outer s H E) [] σ' H' s' ->V0 v u ->Q v H' ->CE outer P w H s Q u s':=
   fun{σ' H' v u} J rv q=>⟨v,H',J.os,J.bare,J.base,J.hok,rv,q⟩
 cases fl with
 | ret u=>
   obtain⟨v,σ',H',J,rv,q⟩:=hs
   exact fin J rv q
 | next=>
   obtain⟨σ',H',J,q⟩:=hs
   exact fin (v:=V.non) (u:=Value.none) J rfl q
 | brk=>
   obtain⟨_,_,_,q⟩:=hs
   exact False.elim q
 | cont=>
   obtain⟨_,_,_,q⟩:=hs
   exact False.elim q
theorem D0g.ok2{x qual:Str}{st:Stmt}{dV:Value}{f:Addr}{fd:FuncData}{N ps:List Str}{k:Nat}{sp:Sp}(F:D0g K x qual st dV f fd)(S:B8 N ps (A5 st))(len:∀vs H Q E,sp vs H Q E ->vs.length=ps.length)
   (hbody:∀(X:Cx) (cdv:Value) (A:Around) (outer:List Env) (s:Shared) (H:Hp) (vs:List V) (Q:VK) (E:XK),X=A5k P w K mg base N qual (A5 st) f cdv A outer s H E ->V5 k X.A ->A1b X (fun C dd _ H'=>E C dd H') ->sp vs H Q E ->
     ∃t,PSs (A5k P w K mg base N qual (A5 st) f cdv A outer s H E) (J9 st) t/\t {nx:=fun _ H'=>Q .non H',rt:=Q} (A1e N vs) H):C6 P w K mg base (k+1) f fd ps sp:=by
 obtain⟨oc,od,kV,doc,pm,an,cdv,ct,osl,rfl,lk,hcd⟩:=F.ex
 refine⟨len,fun A outer s H args us vs Q E hr e0 hdh hq2 hb r hsp=>?_⟩
 have hl:=len _ _ _ _ hsp
 have KX:K.In s.heap:=e0.mod.kin.keeps fun b o e=>(e0.bs b o e).1
 have lim:s.heap.NoLimit:=e0.mod.nolimit.keeps fun b o e=>(e0.bs b o e).1
 have hkind:∀y∈ps.zip us,(A5 st).names.lookup y.1=some .local\/((A5 st).names.lookup y.1=some .cell/\((cellsFrom (s.heap.objs.size+1) (A5 st).names []).lookup y.1).isSome=true):=fun⟨n,v⟩ hy=>by
   rcases S.par n (List.of_mem_zip hy).1 with q|q
   . exact .inl q
   . exact .inr ⟨q,PySem.W.cellsFrom_some _ _ _ (.inl q)⟩
 refine codeAny_call_function hr.depth (KX _ _ lk) rfl S.co S.gen rfl (PySem.W.codeRec_of KX hcd) (hb _ _ _ _ ?_)
 refine wpAny_newFunctionEnv_cells S.kind hkind fun env he s1 x=>?_
 subst he
 refine⟨lim.keeps x.toInCall.keep,codeAny_func ?_⟩
 obtain⟨t,ht,hq⟩:=hbody _ cdv A outer s H vs Q E rfl (hr.deeper _) ⟨A8v,hdh,hq2.imp id fun z C d _ H'=>z C d H'⟩ hsp
 have I0:Inv (A2g (CX1 P w) P w K mg base N qual (A5 st) f cdv (L2.quiet A) outer s H E) [] (A1e N vs) H s1:=A7r S rfl e0.quiet hl r x
 have I:Inv (A5k P w K mg base N qual (A5 st) f cdv A outer s H E) [] (A1e N vs) H s1:=
   Inv.loud (X:=A2g (CX1 P w) P w K mg base N qual (A5 st) f cdv (L2.quiet A) outer s H E) (A:=A.deeper (envOfC qual (A5 st) s.heap.objs.size f cdv)) rfl I0
 refine wpAny_mono (ht [] s1 (A1e N vs) H _ I hq) (fun fl s' hs=>?_) fun e s' hs=>hs
 have fin:∀{σ':St} {H':Hp} {v:V} {u:Value},Inv (A5k P w K mg base N qual (A5 st) f cdv A outer s H E) [] σ' H' s' ->V0 v u ->Q v H' ->CE outer P w H s Q u s':=
   fun{σ' H' v u} J rv q=>⟨v,H',J.os,J.bare,J.base,J.hok,rv,q⟩
 cases fl with
 | ret u=>
   obtain⟨v,σ',H',J,rv,q⟩:=hs
   exact fin J rv q
 | next=>
   obtain⟨σ',H',J,q⟩:=hs
   exact fin (v:=V.non) (u:=Value.none) J rfl q
 | brk=>
   obtain⟨_,_,_,q⟩:=hs
   exact False.elim q
 | cont=>
   obtain⟨_,_,_,q⟩:=hs
   exact False.elim q
end
theorem Inv.hdH{X:Cx}{pins:List (Addr×Obj)}{σ:St}{H:Hp}{s:Shared}(I:Inv X pins σ H s)(h:V8 X):HdH X.A H:=by
 rcases h with z|⟨x,o,u,vs,z,e,d,n⟩
 . exact .inl z
 exact .inr ⟨x,o,u,vs,z,I.base.frzs x o u e,d,n⟩
theorem V5.make{k:Nat}{A:Around}(r:V5 (k+1) A)(C:Addr)(us:List Value)(kw:List (Str×Value)):V5 k (A.under (.builtin "type.__call__" ⟨.ref C::us,kw⟩)):=
 ⟨by have:=r.dp;rw[B0e];omega,by have:=r.un;rw[B1w];omega⟩
section
variable{X:Cx}{k j:Nat}{f C:Addr}{fd:FuncData}{ps:List Str}{sp:Sp}{dvs:List V}{ds:List Value}{EH:EK}{x m:Str}{st:Stmt}{p pos apos:Pos}{e o:Expr}{es:List Expr}{ta:TE}{t:TA}
theorem A9m{pins:List (Addr×Obj)}{σ:St}{H:Hp}{s:Shared}{Q:VK}{us:List Value}{vs:List V}(F:C6 X.prog X.w X.K X.mg X.base k f fd ps sp)(hr:V5 k X.A)(hb:V4 X.K fd ps ds)(hd:G7 dvs ds)
   (hx:A1b X EH) (hex:X.ex=[]) (I:Inv X pins σ H s) (r:G7 vs us) (h:sp (vs++dvs) H Q (fun C d H'=>EH C d σ H')):wpAny (model X.prog X.w) X.A (call (.ref f) us) (EP X pins σ Q) X.xe s:=by
 have r2:G7 (vs++dvs) (us++ds):=r.append hd
 have hl:(us++ds).length=ps.length:=by rw[<-r2.length];exact F.len _ _ _ _ h
 refine wpAny_call (codeAny_mono (F.run X.A X.stack s H ⟨us,[]⟩ (us++ds) (vs++dvs) Q _ hr I.env0 (I.hdH hx.hd) (hx.q.imp id fun z C d H'=>z C d σ H') (hb s us I.kIn hl) r2 h) fun r s' hq=>?_)
 cases r with
 |error e=>exact D9q hx.c hex I hq
 | ok fl=>
   cases fl with
   |ret u=>exact I.after hq
   |next=>exact False.elim hq
   |brk=>exact False.elim hq
   |cont=>exact False.elim hq
theorem C8c(F:C6 X.prog X.w X.K X.mg X.base k f fd ps sp)(hr:V5 k X.A)(hg:Gl X x)(hm:X.mg x=some (.ref f))(hk:PySem.W.keepIn X.K (.ref f)=true)(hb:V4 X.K fd ps ds)(hd:G7 dvs ds)
   (hx:A1b X EH) (ha:PA X (e::es) t) (hex:X.ex=[]:=by rfl) (hdb:(x==("__debug__":Str))=false:=by decide) (he:starEach (e::es) X.env=(false,eval e X.env)::starEach es X.env:=by rfl)
   (hpl:(backTo pos (starEach es X.env)).any (·.1)=false:=by rfl):PE X (.Call (.Name x p) (e::es) [] pos) (A2r sp dvs EH t):=by
 intro pins s σ H Q I h
 refine wpAny_Call_Name_kw (Z1 I hg hm ?_ hdb)
 refine PySem.W.callWith_K (h₀:=X.base) I.ok.mod.kin hk (thn (ha pos pins s σ H _ I h) fun us s1 ⟨vs,H1,I1,r,q⟩=>⟨I1.kIn,?_⟩) he hpl
 exact A9m F hr hb hd hx hex I1 r q
theorem C5r(F:C6 X.prog X.w X.K X.mg X.base k f fd ps sp)(hr:V5 k X.A)(hg:Gl X x)(hm:X.mg x=some (.ref f))(hk:PySem.W.keepIn X.K (.ref f)=true)(hb:V4 X.K fd ps ds)(hd:G7 dvs ds)
   (hx:A1b X EH) (hex:X.ex=[]:=by rfl) (hdb:(x==("__debug__":Str))=false:=by decide):PE X (.Call (.Name x p) [] [] pos) (A2r sp dvs EH B4q):=by
 intro pins s σ H Q I h
 refine wpAny_Call_Name_kw (Z1 I hg hm ?_ hdb)
 exact PySem.W.callWith_K0 I.kIn hk (A9m (us:=[]) F hr hb hd hx hex I .nil h)
theorem U1(D:Def X.K X.mg x ps st f fd)(F:C6 X.prog X.w X.K X.mg X.base j f fd ps sp)(hr:V5 k X.A)(hx:A1b X EH)(ha:PA X (e::es) t)(hj:j<=k:=by decide)(hg:Gl X x:=by rfl)(hex:X.ex=[]:=by rfl)(hdb:(x==("__debug__":Str))=false:=by decide)
   (he:starEach (e::es) X.env=(false,eval e X.env)::starEach es X.env:=by rfl) (hpl:(backTo pos (starEach es X.env)).any (·.1)=false:=by rfl):PE X (.Call (.Name x p) (e::es) [] pos) (A2r sp [] EH t):=
 C8c (F.mono hj) hr hg D.g D.F.kp D.b .nil hx ha hex hdb he hpl
theorem C2r(D:Def X.K X.mg x ps st f fd)(F:C6 X.prog X.w X.K X.mg X.base j f fd ps sp)(hr:V5 k X.A)(hx:A1b X EH)(hj:j<=k:=by decide)(hg:Gl X x:=by rfl)(hex:X.ex=[]:=by rfl)(hdb:(x==("__debug__":Str))=false:=by decide):
   PE X (.Call (.Name x p) [] [] pos) (A2r sp [] EH B4q):=
 C5r (F.mono hj) hr hg D.g D.F.kp D.b .nil hx hex hdb
theorem A7b{pl:Sem Bool}(he:PE X o ta)(c:Cls X.K C)(hm:A5v X.K C m f)(F:C6 X.prog X.w X.K X.mg X.base j f fd ps sp)(hr:V5 k X.A)(hb:V4 X.K fd ps ds)(hd:G7 dvs ds)(hx:A1b X EH)(ha:PA X (e::es) t)
   (hj:j<=k:=by decide) (hex:X.ex=[]:=by rfl)
   (hst:starEach (e::es) X.env=(false,eval e X.env)::starEach es X.env:=by rfl) (hpl:(backTo pos (starEach es X.env)).any (·.1)=false:=by rfl)
   (ht:eval (.Call (.Attribute o m apos) (e::es) [] pos) X.env=(do
     let ov<-eval o X.env
     standAt apos.atName
     let(f,first)<-holding [ov] (getMethod ov m pl)
     callWith pos f first (backTo pos (starEach (e::es) X.env)) (backToKw pos (keywordEach [] X.env))):=by rfl):
   PE X (.Call (.Attribute o m apos) (e::es) [] pos) (B5h C m sp dvs EH ta t):=by
 intro pins s σ H Q I h
 refine methodCall_KW (pl:=pl) (thn (he pins s σ H _ I h) fun u s1 hh_=>?_) ht
 obtain⟨x,H1,I1,rx,a,dx,fs,ex,ea,l,q⟩:=hh_
 subst ex
 obtain rfl:u=Value.ref a:=rx
 refine A1y I1 ea c hm l ?_
 refine callWith_K (first:=[.ref a]) (h₀:=X.base) I.ok.mod.kin hm.kp (thn (ha pos pins s1 σ H1 _ I1 q) fun us s2 ⟨vs,H2,I2,r,q2⟩=>⟨I2.kIn,?_⟩) hst hpl
 exact A9m (us:= .ref a::us) (vs:= .ref a::vs) (F.mono hj) hr hb hd hx hex I2 (.cons rfl r) q2
theorem A3t{pl:Sem Bool}(he:PE X o ta)(c:Cls X.K C)(hm:A5v X.K C m f)(F:C6 X.prog X.w X.K X.mg X.base j f fd ps sp)(hr:V5 k X.A)(hb:V4 X.K fd ps ds)(hd:G7 dvs ds)(hx:A1b X EH)
   (hj:j<=k:=by decide) (hex:X.ex=[]:=by rfl)
   (ht:eval (.Call (.Attribute o m apos) [] [] pos) X.env=(do
     let ov<-eval o X.env
     standAt apos.atName
     let(f,first)<-holding [ov] (getMethod ov m pl)
     callWith pos f first (backTo pos (starEach [] X.env)) (backToKw pos (keywordEach [] X.env))):=by rfl):
   PE X (.Call (.Attribute o m apos) [] [] pos) (B5h C m sp dvs EH ta B4q):=by
 intro pins s σ H Q I h
 refine methodCall_KW (pl:=pl) (thn (he pins s σ H _ I h) fun u s1 hh_=>?_) ht
 obtain⟨x,H1,I1,rx,a,dx,fs,ex,ea,l,q⟩:=hh_
 subst ex
 obtain rfl:u=Value.ref a:=rx
 refine A1y I1 ea c hm l ?_
 exact callWith_K0 (first:=[.ref a]) I1.kIn hm.kp (A9m (us:=[.ref a]) (vs:=[.ref a]) (F.mono hj) hr hb hd hx hex I1 (.cons rfl .nil) q)
theorem C4e{pins:List (Addr×Obj)}{σ:St}{H:Hp}{s:Shared}{Q:VK}{us:List Value}{vs:List V}(M:Mk X.K C f)(F:C6 X.prog X.w X.K X.mg X.base k f fd ps sp)(hr:V5 (k+1) X.A)(hb:V4 X.K fd ps ds)(hd:G7 dvs ds)
   (hx:A1b X EH) (hex:X.ex=[]) (I:Inv X pins σ H s) (r:G7 vs us)
   (h:∀x dx,H x=none ->H dx=none ->dx≠x ->sp (.ref x::(vs++dvs)) (upd (upd H dx (.own x)) x (.ins C dx [])) (fun v H2=>v= .non/\Q (.ref x) H2) (fun C d H'=>EH C d σ H')):
   wpAny (model X.prog X.w) X.A (call (.ref C) us) (EP X pins σ Q) X.xe s:=by
 have hq:=h (s.heap.objs.size+1) s.heap.objs.size (I.hok.fresh (Nat.le_succ _)) (I.hok.fresh (Nat.le_refl _)) (Nat.ne_of_lt (Nat.lt_succ_self _))
 have I2:=Inv.made (C:=C) I
 have r2:G7 (V.ref (s.heap.objs.size+1)::(vs++dvs)) (Value.ref (s.heap.objs.size+1)::(us++ds)):= .cons rfl (r.append hd)
 have hl:(Value.ref (s.heap.objs.size+1)::us++ds).length=ps.length:=by
   have e:=r2.length
   rw[F.len _ _ _ _ hq] at e
   exact e.symm
 refine wpAny_call (B7k (f:=f) I.kIn M.makes M.init (beq_iff_eq.mp M.fn) (codeAny_mono (F.run _ X.stack _ _ ⟨Value.ref (s.heap.objs.size+1)::us,[]⟩ (Value.ref (s.heap.objs.size+1)::(us++ds)) _ _ _ (hr.make C us [])
   (I2.env0.make C us []) (I2.hdH hx.hd) (hx.q.imp id fun z C d H'=>z C d σ H') (hb _ (Value.ref (s.heap.objs.size+1)::us) I2.kIn hl) r2 hq) fun r s' hq'=>?_))
 cases r with
 |error e=>exact D9q hx.c hex I2 hq'
 | ok fl=>
   cases fl with
   | ret u=>
     obtain⟨v,H',I3,rv,ev,q3⟩:=I2.after hq'
     subst ev
     exact⟨rv,⟨V.ref (s.heap.objs.size+1),H',I3,rfl,q3⟩⟩
   |next=>exact False.elim hq'
   |brk=>exact False.elim hq'
   |cont=>exact False.elim hq'
theorem A3u(M:Mk X.K C f)(F:C6 X.prog X.w X.K X.mg X.base j f fd ps sp)(hr:V5 k X.A)(hm:X.mg x=some (.ref C))(hb:V4 X.K fd ps ds)(hd:G7 dvs ds)(hx:A1b X EH)
   (ha:PA X (e::es) t) (hj:j+1<=k:=by decide) (hg:Gl X x:=by rfl) (hex:X.ex=[]:=by rfl) (hdb:(x==("__debug__":Str))=false:=by decide) (he:starEach (e::es) X.env=(false,eval e X.env)::starEach es X.env:=by rfl) (hpl:(backTo pos (starEach es X.env)).any (·.1)=false:=by rfl):
   PE X (.Call (.Name x p) (e::es) [] pos) (C7s C sp dvs EH t):=by
 intro pins s σ H Q I h
 refine wpAny_Call_Name_kw (Z1 I hg hm ?_ hdb)
 refine callWith_K (h₀:=X.base) I.ok.mod.kin M.kp (thn (ha pos pins s σ H _ I h) fun us s1 ⟨vs,H1,I1,r,q⟩=>⟨I1.kIn,?_⟩) he hpl
 exact C4e M F (hr.mono hj) hb hd hx hex I1 r q
end
theorem B7d{prog:Program}{w:World}{A:Around}{x:Addr}{ox:Obj}{vs:Array Value}(hh:A.handled=some (.ref x))(hd:ox.data= .fields vs)(h2:vs[2]?=some .none)(I ax:Addr)(hne:ax≠I)(hxI:x≠I)(items:Array Value):
   Walks prog w A I [I,ax,x] [I] items.size (fun i v=>items[i]?=some v) (fun i h=>h.IsListIter I ax i/\h.IsList ax items/\h.get? x=some ox) where
 sub:=fun b hb=>by simp at hb;simp[hb]
 frame:=fun _ _ _ st hk=>⟨st.1.at fun o e=>hk I (by simp) o e,st.2.1.at fun o e=>hk ax (by simp) o e,hk x (by simp) _ st.2.2⟩
 item:=fun i s Q E hi st hQ=>by
   refine wpAny_pyNext_list_item st.1 st.2.1 (x:=items[i]) (by simp[hi]) fun h' hit' hs'=>?_
   exact hQ _ h' s.toks (by simp[hi]) ⟨hit',st.2.1.extBut hs'.extBut hne,hs'.extBut x _ hxI st.2.2⟩ fun b o hb e=>hs'.extBut b o (fun h=>hb (by simp[h])) e
 done:=fun s Q E st hQ=>A3f (fun h' k=> .inr ⟨x,ox,vs,hh,k x _ hxI st.2.2,hd,h2⟩) st.1 st.2.1 (by simp) fun h' he'=>hQ h' s.toks fun b o hb e=>he' b o (fun h=>hb (by simp[h])) e
 self:=fun _ _ _ _ st hQ=>wpAny_pyIter_listiter st.1 hQ
theorem A9v{prog:Program}{w:World}{A:Around}{x:Addr}{ox:Obj}{vs:Array Value}(hh:A.handled=some (.ref x))(hd:ox.data= .fields vs)(h2:vs[2]?=some .none)(I ax:Addr)(hne:ax≠I)(hxI:x≠I)(items:Array Value):
   Walks prog w A I [I,ax,x] [I] items.size (fun i v=>items[i]?=some v) (fun i h=>h.IsTupleIter I ax i/\h.IsTuple ax items/\h.get? x=some ox) where
 sub:=fun b hb=>by simp at hb;simp[hb]
 frame:=fun _ _ _ st hk=>⟨st.1.at fun o e=>hk I (by simp) o e,st.2.1.at fun o e=>hk ax (by simp) o e,hk x (by simp) _ st.2.2⟩
 item:=fun i s Q E hi st hQ=>by
   refine wpAny_pyNext_tuple_item st.1 st.2.1 (x:=items[i]) (by simp[hi]) fun h' hit' hs'=>?_
   exact hQ _ h' s.toks (by simp[hi]) ⟨hit',st.2.1.extBut hs'.extBut hne,hs'.extBut x _ hxI st.2.2⟩ fun b o hb e=>hs'.extBut b o (fun h=>hb (by simp[h])) e
 done:=fun s Q E st hQ=>A1j (fun h' k=> .inr ⟨x,ox,vs,hh,k x _ hxI st.2.2,hd,h2⟩) st.1 st.2.1 (by simp) fun h' he'=>hQ h' s.toks fun b o hb e=>he' b o (fun h=>hb (by simp[h])) e
 self:=fun _ _ _ _ st hQ=>wpAny_pyIter_tupleiter st.1 hQ
section
variable{X:Cx}
end
theorem C7k{prog:Program}{w:World}{A:Around}{E:Value ->Shared ->Prop}{s:Shared}{x:Addr}{ox:Obj}{vs:Array Value}(hh:A.handled=some (.ref x))(hd:ox.data= .fields vs)(h2:vs[2]?=some .none)(ex:s.heap.get? x=some ox){a b:Int}{t u:Tok}{Q:Value ->Shared ->Prop}
   (h:∀h' tk,(∀c o,s.heap.get? c=some o ->h'.get? c=some o) ->Q (if b>a then .int b u else .int a t) {s with heap:=h',toks:=tk}):
   wpAny (model prog w) A (call (.builtin "max") [.int a t,.int b u]) Q E s:=by
 have hT:(s.heap.push {cls:= .type "tuple",data:= .seq #[.int a t,.int b u]}).IsTuple s.heap.objs.size (intItems #[(a,t),(b,u)]):=⟨_,Heap.get?_push_size _ rfl,rfl,0,by simp[intItems]⟩
 refine call_max_two (wpAny_pyIter_tuple hT ?_)
 have hsz:(s.heap.push {cls:= .type "tuple",data:= .seq #[.int a t,.int b u]}).objs.size=s.heap.objs.size+1:=Heap.size_push ..
 have lx:x<s.heap.objs.size:=Heap.lt_size ex
 refine⟨_,[_,s.heap.objs.size,x],[_],_,_,_,_,rfl,A9v (A:=A.in1) hh hd h2 _ s.heap.objs.size (by rw[hsz];exact Nat.ne_of_lt (Nat.lt_succ_self _)) (by rw[hsz];exact Nat.ne_of_lt (Nat.lt_succ_of_lt lx)) (intItems #[(a,t),(b,u)]),
   ⟨⟨_,Heap.get?_push_size _ rfl,rfl,rfl⟩,hT.push _,Heap.get?_push_of_some _ (Heap.get?_push_of_some _ ex)⟩,fun c hc=>?_,by simp[intItems],CmpOf.ints_gt (numAt #[(a,t),(b,u)]) (fun _ _=>intItems_at),fun v h' tk hP hk=>?_⟩
 . show c<((s.heap.push _).push _).objs.size
   rw[Heap.size_push,hsz]
   simp only[List.mem_cons,List.not_mem_nil,or_false] at hc
   rcases hc with rfl|rfl|rfl
   . rw[hsz];exact Nat.lt_succ_self _
   . exact Nat.lt_succ_of_lt (Nat.lt_succ_self _)
   . exact Nat.lt_succ_of_lt (Nat.lt_succ_of_lt lx)
 have hold:∀c o,s.heap.get? c=some o ->h'.get? c=some o:=fun c o e=>by
   refine hk c o (fun hm=>?_) (Heap.get?_push_of_some _ (Heap.get?_push_of_some _ e))
   have e1:=List.mem_singleton.mp hm
   have:=Heap.lt_size e
   rw[e1,hsz] at this
   exact Nat.lt_irrefl _ (Nat.lt_of_succ_lt this)
 have hP':(intItems #[(a,t),(b,u)])[argBest (fun i j=>decide (numAt #[(a,t),(b,u)] i>numAt #[(a,t),(b,u)] j)) 1]?=some v:=by
   have hsz2:(intItems #[(a,t),(b,u)]).size-1=1:=by simp[intItems]
   rw[<-hsz2];exact hP
 have hv:v=if b>a then Value.int b u else Value.int a t:=by
   by_cases hba:b>a
   . have e:argBest (fun i j=>decide (numAt #[(a,t),(b,u)] i>numAt #[(a,t),(b,u)] j)) 1=1:=by simp[argBest,numAt,hba]
     rw[e] at hP'
     simpa[intItems,hba] using hP'.symm
   . have e:argBest (fun i j=>decide (numAt #[(a,t),(b,u)] i>numAt #[(a,t),(b,u)] j)) 1=0:=by simp[argBest,numAt,hba]
     rw[e] at hP'
     simpa[intItems,hba] using hP'.symm
 rw[hv]
 exact h h' tk hold
theorem C8g{prog:Program}{w:World}{A:Around}{E:Value ->Shared ->Prop}{s:Shared}{x:Addr}{ox:Obj}{vs:Array Value}(hh:A.handled=some (.ref x))(hd:ox.data= .fields vs)(h2:vs[2]?=some .none)(ex:s.heap.get? x=some ox){a b:Int}{t u:Tok}{Q:Value ->Shared ->Prop}
   (h:∀h' tk,(∀c o,s.heap.get? c=some o ->h'.get? c=some o) ->Q (if b<a then .int b u else .int a t) {s with heap:=h',toks:=tk}):
   wpAny (model prog w) A (call (.builtin "min") [.int a t,.int b u]) Q E s:=by
 have hT:(s.heap.push {cls:= .type "tuple",data:= .seq #[.int a t,.int b u]}).IsTuple s.heap.objs.size (intItems #[(a,t),(b,u)]):=⟨_,Heap.get?_push_size _ rfl,rfl,0,by simp[intItems]⟩
 refine call_min_two (wpAny_pyIter_tuple hT ?_)
 have hsz:(s.heap.push {cls:= .type "tuple",data:= .seq #[.int a t,.int b u]}).objs.size=s.heap.objs.size+1:=Heap.size_push ..
 have lx:x<s.heap.objs.size:=Heap.lt_size ex
 refine⟨_,[_,s.heap.objs.size,x],[_],_,_,_,_,rfl,A9v (A:=A.in1) hh hd h2 _ s.heap.objs.size (by rw[hsz];exact Nat.ne_of_lt (Nat.lt_succ_self _)) (by rw[hsz];exact Nat.ne_of_lt (Nat.lt_succ_of_lt lx)) (intItems #[(a,t),(b,u)]),
   ⟨⟨_,Heap.get?_push_size _ rfl,rfl,rfl⟩,hT.push _,Heap.get?_push_of_some _ (Heap.get?_push_of_some _ ex)⟩,fun c hc=>?_,by simp[intItems],CmpOf.ints_lt (numAt #[(a,t),(b,u)]) (fun _ _=>intItems_at),fun v h' tk hP hk=>?_⟩
 . show c<((s.heap.push _).push _).objs.size
   rw[Heap.size_push,hsz]
   simp only[List.mem_cons,List.not_mem_nil,or_false] at hc
   rcases hc with rfl|rfl|rfl
   . rw[hsz];exact Nat.lt_succ_self _
   . exact Nat.lt_succ_of_lt (Nat.lt_succ_self _)
   . exact Nat.lt_succ_of_lt (Nat.lt_succ_of_lt lx)
 have hold:∀c o,s.heap.get? c=some o ->h'.get? c=some o:=fun c o e=>by
   refine hk c o (fun hm=>?_) (Heap.get?_push_of_some _ (Heap.get?_push_of_some _ e))
   have e1:=List.mem_singleton.mp hm
   have:=Heap.lt_size e
   rw[e1,hsz] at this
   exact Nat.lt_irrefl _ (Nat.lt_of_succ_lt this)
 have hP':(intItems #[(a,t),(b,u)])[argBest (fun i j=>decide (numAt #[(a,t),(b,u)] i<numAt #[(a,t),(b,u)] j)) 1]?=some v:=by
   have hsz2:(intItems #[(a,t),(b,u)]).size-1=1:=by simp[intItems]
   rw[<-hsz2];exact hP
 have hv:v=if b<a then Value.int b u else Value.int a t:=by
   by_cases hba:b<a
   . have e:argBest (fun i j=>decide (numAt #[(a,t),(b,u)] i<numAt #[(a,t),(b,u)] j)) 1=1:=by simp[argBest,numAt,hba]
     rw[e] at hP'
     simpa[intItems,hba] using hP'.symm
   . have e:argBest (fun i j=>decide (numAt #[(a,t),(b,u)] i<numAt #[(a,t),(b,u)] j)) 1=0:=by simp[argBest,numAt,hba]
     rw[e] at hP'
     simpa[intItems,hba] using hP'.symm
 rw[hv]
 exact h h' tk hold
theorem A3q{X:Cx}(hd:V8 X):A1n X (.builtin "max") (fun xs H Q=>∃i j,xs=[.int i,.int j]/\Q (.int (if j>i then j else i)) H):=by
 intro pins s σ H xs us Q I r h
 obtain⟨i,j,rfl,q⟩:=h
 obtain⟨u,w',rfl,⟨t,rfl⟩,⟨t',rfl⟩⟩:=C1c r
 have fin:∀h' tk,(∀c o,s.heap.get? c=some o ->h'.get? c=some o) ->EP X pins σ Q (if j>i then .int j t' else .int i t) {s with heap:=h',toks:=tk}:=fun h' tk k=>⟨_,H,I.kept k,(by
   by_cases hj:j>i
   . rw[if_pos hj,if_pos hj];exact⟨_,rfl⟩
   . rw[if_neg hj,if_neg hj];exact⟨_,rfl⟩),q⟩
 rcases hd with z|⟨x,ox,u2,vs2,hh,e2,d2,n2⟩
 . exact max_two_ints z fin
 exact C7k hh d2 n2 (I.hok x _ (I.base.frzs x ox u2 e2)).1 fin
theorem B9a{X:Cx}(hd:V8 X):A1n X (.builtin "min") (fun xs H Q=>∃i j,xs=[.int i,.int j]/\Q (.int (if j<i then j else i)) H):=by
 intro pins s σ H xs us Q I r h
 obtain⟨i,j,rfl,q⟩:=h
 obtain⟨u,w',rfl,⟨t,rfl⟩,⟨t',rfl⟩⟩:=C1c r
 have fin:∀h' tk,(∀c o,s.heap.get? c=some o ->h'.get? c=some o) ->EP X pins σ Q (if j<i then .int j t' else .int i t) {s with heap:=h',toks:=tk}:=fun h' tk k=>⟨_,H,I.kept k,(by
   by_cases hj:j<i
   . rw[if_pos hj,if_pos hj];exact⟨_,rfl⟩
   . rw[if_neg hj,if_neg hj];exact⟨_,rfl⟩),q⟩
 rcases hd with z|⟨x,ox,u2,vs2,hh,e2,d2,n2⟩
 . exact min_two_ints z fin
 exact C8g hh d2 n2 (I.hok x _ (I.base.frzs x ox u2 e2)).1 fin
theorem C1w{X:Cx}{tg iter:Expr}{body:List Stmt}{wi:TI}{g:TG}{tb:TS}{pos:Pos}(hp:PassesOwn (model X.prog X.w) X.A X.env X.xe)(hd:V8 X)(hi:PIH X tg iter wi)(hg:PG X tg g)(hb:PSs X body tb)
   (hs:∀x,foldedSetIterable iter X.env x=pure x:=by intro _;rfl):PS X (.For tg iter body [] pos) (G6k wi g tb):=by
 intro pins s σ H D I h
 refine wpAny_For (thn (hi pins s σ H _ I h) fun v s1 h1=>thn h1 fun itv s2 h2=>?_) hs
 obtain⟨it,tn,J,H2,e,I2,T,st2,f2,W,⟨m0,w0⟩,turn⟩:=h2
 subst e
 have stat:∀{H':Hp},H' it=none ->A0s X pins H' it:=fun hn=>⟨hn,f2.2⟩
 have statL:∀{H':Hp},H' it=none ->∀b∈ [it],A0s X pins H' b:=fun hn b hb=>by rw[List.mem_singleton.mp hb];exact stat hn
 refine codeAny_forLoop_any (fun n s'=>∃i σ' H',Inv X pins σ' H' s'/\tn i s'.heap/\H' it=none/\W i n σ' H') ?_ m0 ⟨0,σ,H2,I2,st2,f2.1,w0⟩
 rintro n s3 ⟨i,σ3,H3,I3,st3,fr3,w3⟩
 rcases turn i n σ3 H3 w3 with⟨stop,qn⟩|⟨go,N,hN,step⟩
 . refine wpAny_passesOwn hp (thn (T.done X rfl rfl rfl hd i pins s3 σ3 H3 X.xe I3 (stat fr3) st3 stop) fun r s4 ⟨hr,I4⟩=>?_)
   subst hr
   exact wpAny_execs_nil ⟨σ3,H3,I4,qn⟩
 refine wpAny_passesOwn hp (thn (T.item X rfl rfl rfl hd i pins s3 σ3 H3 X.xe I3 (stat fr3) st3 go) fun r s4 ⟨u,hr,h4⟩=>?_)
 subst hr
 refine wpAny_passesOwn hp (thn h4 fun _ s5 hh_=>?_)
 obtain⟨x,I5,r5,y5,st5⟩:=hh_
 have I5':=I5.pinned (statL fr3) (fun b hb=>by rw[List.mem_singleton.mp hb];exact T.obj _ _ st5)
 refine wpAny_passesOwn hp (thn (hg _ s5 σ3 H3 x u _ I5' r5 (step x H3 y5)) fun _ s6 hh_=>?_)
 obtain⟨σ6,H6,I6,q6⟩:=hh_
 refine wpAny_passesOwn hp (thn (hb _ s6 σ6 H6 _ I6 q6) fun f s7 q7=>?_)
 have again:∀{σ7:St} {H7:Hp},Inv X (pins++A0p [it] s5.heap) σ7 H7 s7 ->N σ7 H7 ->∃m,m<n/\∃i σ' H',Inv X pins σ' H' s7/\tn i s7.heap/\H' it=none/\W i m σ' H':=fun{σ7 H7} I7 n7=>by
   obtain⟨m',hm,w7⟩:=hN σ7 H7 n7
   refine⟨m',hm,i+1,σ7,H7,I7.unpinned,T.keep _ _ _ st5 fun o e=>(I7.pin (it,o) (List.mem_append_right _ (List.mem_append_right _ (A0g (List.mem_singleton.mpr rfl) e)))).1,?_,w7⟩
   obtain⟨o,e,d⟩:=T.obj _ _ st5
   exact(I7.pin (it,o) (List.mem_append_right _ (List.mem_append_right _ (A0g (List.mem_singleton.mpr rfl) e)))).2.1
 cases f with
 |next=>obtain⟨σ7,H7,I7,n7⟩:=q7;exact again I7 n7
 |cont=>obtain⟨σ7,H7,I7,n7⟩:=q7;exact again I7 n7
 |brk=>obtain⟨σ7,H7,I7,q7⟩:=q7;exact⟨σ7,H7,I7.unpinned,q7⟩
 |ret v=>obtain⟨x7,σ7,H7,I7,r7,q7⟩:=q7;exact⟨x7,σ7,H7,I7.unpinned,r7,q7⟩
theorem B5z{M:Model}{A:Around}{E:Value ->Shared ->Prop}{s:Shared}{env:Env}{v:Expr}{pos:Pos}{Q:Flow ->Shared ->Prop}(h:wpAny M A (eval v env) (fun _ _=>False) E s):wpAny M A (exec (.Raise (some v) none pos) env) Q E s:=by
 rw[arm_exec_Raise]
 refine wpAny_bind (wpAny_standAt ?_)
 show wpAny M A (raiseStmt env (some (eval v env>>=fun u=>standAt pos>>=fun _=>pure u)) none) Q E s
 unfold raiseStmt
 exact wpAny_bind (wpAny_bind (wpAny_mono h (fun _ _ z=>z.elim) fun _ _ z=>z))
theorem C1p{X:Cx}{x:Str}{p pos:Pos}{e:Expr}{es:List Expr}{C:Addr}{pins:List (Addr×Obj)}{σ:St}{H:Hp}{s:Shared}(I:Inv X pins σ H s)(hg:Gl X x)(hm:X.mg x=some (.ref C))(hdb:(x==("__debug__":Str))=false)
   (he:starEach (e::es) X.env=(false,eval e X.env)::starEach es X.env) (h:wpAny (model X.prog X.w) X.A (spliced (backTo pos (starEach (e::es) X.env))) (fun _ _=>False) X.xe s):
   wpAny (model X.prog X.w) X.A (eval (.Call (.Name x p) (e::es) [] pos) X.env) (fun _ _=>False) X.xe s:=by
 refine wpAny_Call_Name_kw (Z1 I hg hm ?_ hdb)
 unfold callWith
 rw[he] at h ⊢
 exact wpAny_bind (wpAny_holding (Calls.evalArgs_plain (wpAny_mono h (fun _ _ z=>z.elim) fun _ _ z=>z)))
section
variable{X:Cx}{x:Str}{p cpos pos:Pos}{e:Expr}{es:List Expr}{t:TA}{C:Addr}{bmB:List Value}{B newId initId:String}{EH:EK}
theorem A0z(hg:Gl X x)(hm:X.mg x=some (.ref C))(q:excIn X.K C bmB newId=true)(FB:ExcBaseFacts B newId initId bmB)(hx:A1b X EH)(ha:PA X (e::es) t)(hex:X.ex=[]:=by rfl)
   (hdb:(x==("__debug__":Str))=false:=by decide) (he:starEach (e::es) X.env=(false,eval e X.env)::starEach es X.env:=by rfl) (hpl:(backTo cpos (starEach es X.env)).any (·.1)=false:=by rfl):
   PS X (.Raise (some (.Call (.Name x p) (e::es) [] cpos)) none pos) (C8s C EH t):=by
 rcases hx.q with z|z
 . exact C9m hg hm q FB z hx.c ha hex hdb he hpl
 intro pins s σ H D I h
 exact B5z (C1p I hg hm hdb he (wpAny_mono (ha cpos pins s σ H _ I h) (fun us s2 ⟨vs,H1,I1,r,_,q⟩=>z _ _ _ _ q) fun _ _ y=>y))
end
section
variable{X:Cx}{x f:Str}{p cpos pos:Pos}{e:Expr}{t:TA}{C fI:Addr}{fdI:FuncData}{ps:List Str}{EH:EK}{j k:Nat}
theorem B9c(hm:X.mg x=some (.ref C))(F:C0p X.K C fI)(G:G8 X.prog X.w X.K X.mg X.base CX0 j fI fdI ps (B0r C f))(bI:V4 X.K fdI ps [])(hr:V5 k X.A)(hx:A1b X EH)(ha:PA X [e] t)(hj:j+1<=k:=by decide)(hg:Gl X x:=by rfl)(hex:X.ex=[]:=by rfl)
   (hdb:(x==("__debug__":Str))=false:=by decide) (he:starEach [e] X.env=(false,eval e X.env)::starEach [] X.env:=by rfl) (hpl:(backTo cpos (starEach [] X.env)).any (·.1)=false:=by rfl):
   PS X (.Raise (some (.Call (.Name x p) [e] [] cpos)) none pos) (C2e C f EH t):=by
 rcases hx.q with z|z
 . exact C4v hm F G bI ⟨z,hr.dp,hr.un⟩ hx.c ha hj hg hex hdb he hpl
 intro pins s σ H D I h
 refine B5z (C1p I hg hm hdb he (wpAny_mono (ha cpos pins s σ H _ I h) (fun us s2 hh_=>?_) fun _ _ y=>y))
 obtain⟨vs,H1,I1,r,v,_,q⟩:=hh_
 have n:=I1.hok.fresh (Nat.le_refl s2.heap.objs.size)
 exact z _ _ _ _ (q s2.heap.objs.size (upd H1 s2.heap.objs.size (.xd [(f,v)])) (B7.upd n) n A6)
end
theorem V5.units{k:Nat}{A:Around}(r:V5 k A):A.units+64<cLine:=r.u64
theorem C6.up{P:Program}{w:World}{K:Frag}{mg:Str ->Option Value}{base:Heap}{k:Nat}{f:Addr}{fd:FuncData}{ps:List Str}{sp:Sp}(F:C6 P w K mg base k f fd ps sp):C6 P w K mg base k f fd ps sp:=F
end L2
namespace TR
open PySem L2 PySem.W PyProof.Rows
noncomputable def A6y (P:Program) (w:World) (K:Frag) (mg:Str ->Option Value) (base:Heap) (C:Addr) (m:Str) (k:Nat) (ps:List Str) (sp:Sp):Prop:=∃f fd,A5v K C m f/\C6 P w K mg base k f fd ps sp/\V4 K fd ps []
theorem A6y.has{P:Program}{w:World}{K:Frag}{mg:Str ->Option Value}{base:Heap}{C:Addr}{m:Str}{k:Nat}{ps:List Str}{sp:Sp}(h:A6y P w K mg base C m k ps sp):Has P w K mg base C m k ps sp:=by
 obtain⟨f,fd,a,b,c⟩:=h
 exact⟨f,fd,a,b.fn,c⟩
end TR
namespace L2
open PySem PySem.Spec PyProof.Rows PySem.W
noncomputable def G6g (K:Frag) (R:Addr) (i:Nat) (tb:EK ->TS) (ts:Addr ->TS) (te:TS):TS:=fun D σ H=>
 tb (fun C dd σ' H'=>subIn K C (.ref R)=some true/\∀(a t T:Addr),H' a=none ->
   ts a {nx:=fun σ2 H2=>D.nx (σ2.set i none) H2,rt:=D.rt,bk:=fun σ2 H2=>D.bk (σ2.set i none) H2,ct:=fun σ2 H2=>D.ct (σ2.set i none) H2}
     (σ'.set i (some (.ref a))) (upd H' a (.frz (Z4 C t dd (.ref T)) (.own a)))) {D with nx:=te D} σ H
section
variable{X:Cx}{x n:Str}{np hpos pos:Pos}{R:Addr}{i:Nat}{body suite:List Stmt}{b₀:Stmt}{tb:EK ->TS}{ts:Addr ->TS}
theorem D8p{oe:List Stmt}{te:TS}(B:D8q X)(hg:Gl X x)(hm:X.mg x=some (.ref R))(c:B2c X.K R)(hN:X.N.Nodup)(hi:X.N[i]?=some n)(hk:X.env.scope.names.lookup n=some .local)
   (hb:∀pins Ew EHb,V3 (X.hold pins Ew) EHb ->PSs (X.hold pins Ew) body (tb EHb)) (hs:∀pins a,PSs (X.hnd pins a) (b₀::suite) (ts a)) (he:PSs X oe te)
   (hdb:(x==("__debug__":Str))=false:=by decide) (hf:X.fn n=true\/X.env.scope.names.lookup n=some .local:=by first|exact .inl rfl|exact .inr rfl|assumption):
   PS X (.Try body [.ExceptHandler (some (.Name x np)) (some n) (b₀::suite) hpos] oe [] pos) (G6g X.K R i tb ts te):=by
 intro pins s σ H D I h
 refine wpAny_Try_except ?_
 refine wpAny_mono (hb pins _ _ ?cat [] s σ H {D with nx:=te D} I.hold h) (fun f s1 hf1=>?_) (fun e s1 he=>he)
 case cat=>
   intro pins' σ' H' s' a t C dd I' F' hE
   obtain⟨hsub,hE⟩:=hE
   show wpAny (model X.prog X.w) X.A (noteFrame (.ref a) X.env) _ X.xe s'
   have J:=I'.unhold
   have F:=F'.unhold
   refine B0f B J F fun s2 J2 F2=>A4c J2 F2 fun s3 J3 F3=>?_
   obtain⟨na,T,oT,ts',e3,ne3,nT3,eT3,dT3,h33⟩:=id F3
   refine wpAny_handleBy_cons (codeAny_handlers_test ?_) (by intro z;cases z)
   have K3:Inv (X.hnd pins a) [] σ' H' s3:=J3.hnd
   refine Z1 K3 hg hm ?_ hdb
   refine B3s J3.kIn e3 rfl c hsub ?_
   show codeAny _ _ _ _ _
   refine codeAny_handlers_suite_as ?_
   refine A4c J3 F3 fun s4 J4 F4=>?_
   obtain⟨na4,T4,oT4,ts4,e4,_⟩:=id F4
   have J5:=J4.track na4 e4
   refine A2d (v:= .ref a) J5 hN hi (.inl hk) rfl (fun s5 J6=>?_) hf
   refine wpAny_mono (hs pins a [] s5 _ _ _ J6.hnd (hE a t T4 na4.un)) (fun f s6 hf6=>?_) (fun _ _ z=>z.elim)
   have fin:∀{σ6:St} {H6:Hp} {Q6:Unit ->Shared ->Prop},Inv (X.hnd pins a) [] σ6 H6 s6 ->(∀s7,Inv X pins (σ6.set i none) H6 s7 ->Q6 () s7) ->
       wpAny (model X.prog X.w) X.A (do bindName X.env n .none;unbindBehindTheSuite X.env n hpos) Q6 X.xe s6:=by
     intro σ6 H6 Q6 K6 k6
     have L6:=K6.unhnd J6.ok
     refine wpAny_bind (wpAny_bindName (A2d (v:= .non) L6 hN hi (.inl hk) rfl (fun s7 J7=>?_) hf))
     unfold unbindBehindTheSuite
     have hlen:i<σ6.length:=by rw[L6.len];exact(List.getElem?_eq_some_iff.mp hi).1
     refine wpAny_onRaise (B2t J7 hN hi hk (List.getElem?_set_self hlen) fun s8 J8=>k6 s8 ?_)
     rw[List.set_set] at J8
     exact J8
   cases f with
   |next=>obtain⟨σ6,H6,K6,q⟩:=hf6;exact fin K6 fun s7 J7=>⟨_,_,J7,q⟩
   |brk=>obtain⟨σ6,H6,K6,q⟩:=hf6;exact fin K6 fun s7 J7=>⟨_,_,J7,q⟩
   |cont=>obtain⟨σ6,H6,K6,q⟩:=hf6;exact fin K6 fun s7 J7=>⟨_,_,J7,q⟩
   |ret u=>obtain⟨v,σ6,H6,K6,r,q⟩:=hf6;exact fin K6 fun s7 J7=>⟨v,_,_,J7,r,q⟩
 cases f with
 | next=>
   obtain⟨σ1,H1,I1,q1⟩:=SP.unhold hf1
   exact he pins s1 σ1 H1 D I1 q1
 |brk=>exact SP.unhold hf1
 |cont=>exact SP.unhold hf1
 |ret u=>exact SP.unhold hf1
end
noncomputable def D7u (a C:Addr) (m:Str) (sp:Sp) (dvs:List V) (ta:TE) (t:TA):TE:=fun σ H Q=>ta σ H fun x H1=>∃a' dx fs,x= .ref a'/\H1 a'=some (.ins C dx fs)/\fs.lookup m=none/\
 t σ H1 fun vs H2=>(∃o u fs,H2 a=some (.frz o u)/\o.data= .fields fs/\fs[2]?=some .none)/\sp (x::(vs++dvs)) H2 Q E0
section
variable{X:Cx}{k j:Nat}{f C:Addr}{fd:FuncData}{ps:List Str}{sp:Sp}{dvs:List V}{ds:List Value}{m:Str}{pos apos:Pos}{e o:Expr}{es:List Expr}{ta:TE}{t:TA}
theorem D5r{a:Addr}{pins:List (Addr×Obj)}{σ:St}{H:Hp}{s:Shared}{Q:VK}{us:List Value}{vs:List V}(hA:X.A.handled=some (.ref a))(F:B3w X.prog X.w X.K X.mg X.base k f fd ps sp)(hr:V5 k X.A)(hb:V4 X.K fd ps ds)(hd:G7 dvs ds)
   (I:Inv X pins σ H s) (r:G7 vs us) (hh:∃o u fs,H a=some (.frz o u)/\o.data= .fields fs/\fs[2]?=some .none) (h:sp (vs++dvs) H Q E0):wpAny (model X.prog X.w) X.A (call (.ref f) us) (EP X pins σ Q) X.xe s:=by
 have r2:G7 (vs++dvs) (us++ds):=r.append hd
 have hl:(us++ds).length=ps.length:=by rw[<-r2.length];exact F.len _ _ _ _ h
 obtain⟨o,u,fs,e1,e2,e3⟩:=hh
 refine wpAny_call (codeAny_mono (F.run X.A X.stack s H ⟨us,[]⟩ (us++ds) (vs++dvs) Q hr I.env0 (.inr ⟨a,o,u,fs,hA,e1,e2,e3⟩) (hb s us I.kIn hl) r2 h) fun r s' hq=>?_)
 cases r with
 |error e=>exact hq.elim
 | ok fl=>
   cases fl with
   |ret u=>exact I.after hq
   |next=>exact False.elim hq
   |brk=>exact False.elim hq
   |cont=>exact False.elim hq
theorem C1q{a:Addr}{pl:Sem Bool}(hA:X.A.handled=some (.ref a))(he:PE X o ta)(c:Cls X.K C)(hm:A5v X.K C m f)(F:B3w X.prog X.w X.K X.mg X.base j f fd ps sp)(hr:V5 k X.A)(hb:V4 X.K fd ps ds)(hd:G7 dvs ds)(ha:PA X (e::es) t)
   (hj:j<=k:=by decide)
   (hst:starEach (e::es) X.env=(false,eval e X.env)::starEach es X.env:=by rfl) (hpl:(backTo pos (starEach es X.env)).any (·.1)=false:=by rfl)
   (ht:eval (.Call (.Attribute o m apos) (e::es) [] pos) X.env=(do
     let ov<-eval o X.env
     standAt apos.atName
     let(f,first)<-holding [ov] (getMethod ov m pl)
     callWith pos f first (backTo pos (starEach (e::es) X.env)) (backToKw pos (keywordEach [] X.env))):=by rfl):
   PE X (.Call (.Attribute o m apos) (e::es) [] pos) (D7u a C m sp dvs ta t):=by
 intro pins s σ H Q I h
 refine methodCall_KW (pl:=pl) (thn (he pins s σ H _ I h) fun u s1 hh_=>?_) ht
 obtain⟨x,H1,I1,rx,a',dx,fs,ex,ea,l,q⟩:=hh_
 subst ex
 obtain rfl:u=Value.ref a':=rx
 refine A1y I1 ea c hm l ?_
 refine callWith_K (first:=[.ref a']) (h₀:=X.base) I.ok.mod.kin hm.kp (thn (ha pos pins s1 σ H1 _ I1 q) fun us s2 ⟨vs,H2,I2,r,q2⟩=>⟨I2.kIn,?_⟩) hst hpl
 exact D5r (a:=a) (us:= .ref a'::us) (vs:= .ref a'::vs) hA ⟨F.len,fun A outer s H args us vs Q hr=>F.run A outer s H args us vs Q (hr.mono hj)⟩ hr hb hd I2 (.cons rfl r) q2.1 q2.2
end
section
variable{X:Cx}{j k:Nat}{f C:Addr}{fd:FuncData}{ps:List Str}{sp:Sp}{dvs:List V}{ds:List Value}{x m:Str}{p pos apos:Pos}{e o:Expr}{es:List Expr}{ta:TE}{t:TA}{st:Stmt}
theorem C7w(hk:V8 X){pins:List (Addr×Obj)}{σ:St}{H:Hp}{s:Shared}{Q:VK}{us:List Value}{vs:List V}(F:C6 X.prog X.w X.K X.mg X.base k f fd ps sp)(hr:V5 k X.A)(hb:V4 X.K fd ps ds)(hd:G7 dvs ds)
   (I:Inv X pins σ H s) (r:G7 vs us) (h:sp (vs++dvs) H Q (fun C d H'=>EKF C d σ H')):wpAny (model X.prog X.w) X.A (call (.ref f) us) (EP X pins σ Q) X.xe s:=by
 have r2:G7 (vs++dvs) (us++ds):=r.append hd
 have hl:(us++ds).length=ps.length:=by rw[<-r2.length];exact F.len _ _ _ _ h
 refine wpAny_call (codeAny_mono (F.run X.A X.stack s H ⟨us,[]⟩ (us++ds) (vs++dvs) Q _ hr I.env0 (I.hdH hk) (.inr fun _ _ _ z=>z) (hb s us I.kIn hl) r2 h) fun r s' hq=>?_)
 cases r with
 | error e=>
   obtain⟨a,t,C,dd,H',_,_,_,_,_,hE,_⟩:=hq
   exact False.elim hE
 | ok fl=>
   cases fl with
   |ret u=>exact I.after hq
   |next=>exact False.elim hq
   |brk=>exact False.elim hq
   |cont=>exact False.elim hq
theorem D5q(hk:V8 X)(D:Def X.K X.mg x ps st f fd)(F:C6 X.prog X.w X.K X.mg X.base j f fd ps sp)(hr:V5 k X.A)(ha:PA X (e::es) t)(hj:j<=k:=by decide)(hg:Gl X x:=by rfl)(hdb:(x==("__debug__":Str))=false:=by decide)
   (he:starEach (e::es) X.env=(false,eval e X.env)::starEach es X.env:=by rfl) (hpl:(backTo pos (starEach es X.env)).any (·.1)=false:=by rfl):PE X (.Call (.Name x p) (e::es) [] pos) (A2r sp [] EKF t):=by
 intro pins s σ H Q I h
 refine wpAny_Call_Name_kw (Z1 I hg D.g ?_ hdb)
 refine PySem.W.callWith_K (h₀:=X.base) I.ok.mod.kin D.F.kp (thn (ha pos pins s σ H _ I h) fun us s1 ⟨vs,H1,I1,r,q⟩=>⟨I1.kIn,?_⟩) he hpl
 exact C7w hk (F.mono hj) hr D.b .nil I1 r q
end
theorem C5j{X:Cx}(hd:V8 X):A1n X (.builtin "all") (fun xs H Q=>∃(l:Addr) (bs:List Bool),xs=[.ref l]/\SqL X.K H l (bs.map V.bl)/\Q (.bl (bs.all id)) H):=by
 rcases hd with z|⟨x,ox,u2,vs2,hh,e2,d2,n2⟩
 . exact B5y z
 intro pins s σ H xs us Q I r h
 obtain⟨l,bs,rfl,hl,q⟩:=h
 obtain⟨u,rfl,ru⟩:=G7.one r
 cases ru
 obtain⟨its,rv,p,hz⟩:=I.list hl
 obtain⟨o,e,_⟩:=id p.isList
 have hlt:l<s.heap.objs.size:=Heap.lt_size e
 have hlen:its.length=bs.length:=by rw[<-rv.length,List.length_map]
 have ex:s.heap.get? x=some ox:=(I.hok x _ (I.base.frzs x ox u2 e2)).1
 refine call_all_walk (wpAny_pyIter_list p.isList ?_)
 refine⟨s.heap.objs.size,[s.heap.objs.size,l,x],[s.heap.objs.size],its.toArray.size,_,_,fun i=>(bs[i]?).getD true,rfl,B7d (A:=X.A.in1) hh d2 n2 _ l (Nat.ne_of_lt hlt) (Nat.ne_of_lt (Heap.lt_size ex)) its.toArray,⟨⟨_,Heap.get?_push_size _ rfl,rfl,rfl⟩,p.isList.push _,Heap.get?_push_of_some _ ex⟩,fun i v s' Q' E' hP hQ=>?_,fun h' tk hk=>?_⟩
 . have hP:its[i]?=some v:=by simpa using hP
   have hi:i<bs.length:=by rw[<-hlen];exact(List.getElem?_eq_some_iff.mp hP).1
   obtain⟨u',hu',ru'⟩:=rv.get (i:=i) (x:=V.bl bs[i]) (by simp[hi])
   rw[hP] at hu'
   cases hu'
   cases ru'
   have z:(bs[i]?).getD true=bs[i]:=by simp[hi]
   dsimp only at hQ
   rw[z] at hQ
   exact wpAny_truthy_bool hQ
 have z:((List.range its.toArray.size).all fun i=>(bs[i]?).getD true)=bs.all id:=by
   rw[List.size_toArray,hlen]
   exact LSm.range_all bs
 rw[z]
 exact⟨.bl (bs.all id),H,I.kept fun b x e=>hk b x (fun hm=>by rw[List.mem_singleton.mp hm] at e;exact Nat.lt_irrefl _ (Heap.lt_size e)) (Heap.get?_push_of_some _ e),rfl,q⟩
section
variable{X:Cx}
noncomputable def D8b:V ->List V ->Hp ->VK ->Prop:=fun x vs H Q=>∃d kvs,x= .ref d/\vs=[]/\H d=some (.dK kvs)/\Q .non (upd H d (.dK []))
theorem C3x:MtR X "dict.clear" D8b:=by
 intro pins s σ H x vs v us Q I rx rv h
 obtain⟨d,kvs,rfl,rfl,hd,q⟩:=h
 cases rx
 have hus:=rv.zero
 subst hus
 obtain⟨z1,lo1,vs1,r1,D1⟩:=(show Y7 X.prog X.w H s.heap d (.dK kvs) from I.hok d _ hd)
 refine call_meetsIn PySem.F.slot_dict_clear D1.typeIs PySem.F.entry_dict_clear (PySem.F.args_dict_clear_1 _) (meets_dict_clear (A0c X.prog X.w) d) ⟨vs1,D1,by rw[<-KV.length r1];exact z1,fun h' e1 sb=>?_⟩
 refine⟨.non,_,I.write (x:=d) (e:=d) (o:= .dK []) (h':=h') (t':=s.toks) (by rw[hd];exact trivial) (.inl rfl) (fun b ob hb e=>sb.extBut b ob hb e) ?_ ⟨Nat.zero_le _,lo1,[],.nil,e1⟩,rfl,q⟩
 obtain⟨ob,_,_,e,_⟩:=e1
 exact⟨ob,e⟩
end
section
variable{X:Cx}
end
end L2
namespace TR
open PySem L2 PySem.W PyProof.Rows
seal PE PS PSs PA PT PW PG PGs PI PO
noncomputable abbrev Q0:List Str:=["self","sign","last","part"]
noncomputable abbrev Q3:List Str:=["self","sign"]
noncomputable abbrev Q4:List Str:=["thing","least","most"]
noncomputable abbrev Q5:List Str:=["_law_cell","_law_k"]
noncomputable abbrev Q7:List Str:=["context","sign"]
noncomputable abbrev Q8:List Str:=["_law_top","_law_bottom","_law_power"]
noncomputable abbrev Q9:List Str:=["self","names"]
noncomputable abbrev Q10:List Str:=["_law_which","_law_context","_law_some"]
noncomputable abbrev Q11:List Str:=["self","top","power"]
noncomputable abbrev Q12:List Str:=["_law_number_here"]
noncomputable abbrev Q13:List Str:=["_law_found","_law_due"]
noncomputable abbrev Q14:List Str:=["sign","figures","power"]
noncomputable abbrev Q15:List Str:=["size","middle"]
noncomputable abbrev Q16:List Str:=["self","room","way","least","most"]
noncomputable abbrev Q17:List Str:=["ideal","sign","figures","power"]
noncomputable abbrev Q18:List Str:=["context","sign","pair"]
noncomputable abbrev Q19:List Str:=["context","sign","figures","power"]
noncomputable abbrev Q20:List Str:=["context","number"]
noncomputable abbrev Q21:List Str:=["part","is_cut"]
noncomputable abbrev Q22:List Str:=["context","lead","part"]
noncomputable abbrev Q23:List Str:=["context","sign","ideal"]
noncomputable abbrev Q24:List Str:=["context","exact"]
noncomputable abbrev Q25:List Str:=["self","power"]
noncomputable abbrev Q26:List Str:=["context","one"]
noncomputable abbrev Q27:List Str:=["_law_script","_law_k"]
noncomputable abbrev Q28:List Str:=["_law_way","_law_sign","_law_last","_law_part"]
noncomputable abbrev Q29:List Str:=["self","kind","sign","figures","power"]
noncomputable abbrev Q30:List Str:=["whole","count"]
noncomputable abbrev Q31:List Str:=["self","signal"]
noncomputable abbrev Q32:List Str:=["burst","off","cut"]
noncomputable abbrev Q33:List Str:=["context","sign","exact","ideal"]
noncomputable abbrev Q34:List Str:=["_law_top","_law_bottom"]
noncomputable abbrev Q35:List Str:=["_law_rules_here","_law_sign"]
noncomputable abbrev Q36:List Str:=["_law_rules_here","_law_sign","_law_ideal"]
noncomputable abbrev Q37:List Str:=["_law_rules_here","_law_sign","_law_figures","_law_power","_law_part","_law_is_faint","_law_ideal"]
noncomputable abbrev Q38:List Str:=["_law_due","_law_traps_here","_law_kept","_law_context","_law_which","_law_some"]
noncomputable abbrev Q39:List Str:=["_law_context","_law_which","_law_some"]
noncomputable abbrev Q40:List Str:=["_law_square_here"]
noncomputable abbrev Q41:List Str:=["_law_rules_here","_law_number_here"]
noncomputable abbrev Q42:List Str:=["_law_room","_law_way","_law_least","_law_most"]
noncomputable abbrev Q43:List Str:=["_law_k","_law_script"]
noncomputable abbrev Q44:List Str:=["_law_number_here","_law_due"]
noncomputable abbrev Q45:List Str:=["_law_cell","_law_kind","_law_sign","_law_many","_law_long","_law_k","_law_figures","_law_power"]
noncomputable abbrev Q46:List Str:=["_law_number_here","_law_kind","_law_sign","_law_figures","_law_power"]
noncomputable abbrev Q47:List Str:=["_law_cell","_law_room","_law_ways","_law_way","_law_least","_law_most"]
noncomputable abbrev Q48:List Str:=["_law_top","_law_bottom","_law_found","_law_high","_law_low"]
noncomputable abbrev Q49:List Str:=["_law_rules_here","_law_sign","_law_room","_law_way","_law_least","_law_most","_law_raised"]
variable{P:Program}{w:World}{K:Frag}{mg:Str ->Option Value}{base:Heap}
noncomputable abbrev sr (a:Addr):Option V:=some (.ref a)
noncomputable abbrev si (a:Int):Option V:=some (.int a)
noncomputable abbrev sR (a:Str):Option V:=some (.str a)
noncomputable abbrev sI (P:Program) (w:World) (K:Frag) (mg:Str ->Option Value) (base:Heap):=G8 P w K mg base (CX1 P w)
noncomputable def top (i:Nat):Stmt:=PySem.Challenge.pw_tenreckon_k23_roots.main.body.getD i (.Pass ⟨0,0,0,0⟩)
noncomputable abbrev C0m:Stmt:=(top 25)
noncomputable def G6x (K:Frag):Sp:=fun vs H Q _=>∃v lo hi,vs=[v,.int lo,.int hi]/\((A2y lo hi v/\Q (.bl true) H)\/(B2h K H lo hi v/\Q (.bl false) H))
theorem G7b:B8 Q4 Q4 (A5 C0m):=scK
theorem C6v(D:Def K mg "is_between" Q4 C0m f fd)(O:Own mg)(T:Kit K):C6 P w K mg base 1 f fd Q4 (G6x K):=by
 refine D.F.ok2 G7b (fun vs H Q E h=>?_) (fun X cdv A outer s H vs Q E hX hr hx h=>?_)
 . obtain⟨v,lo,hi,rfl,_⟩:=h
   rfl
 subst hX
 obtain⟨v,lo,hi,rfl,h⟩:=h
 refine⟨_,(A3 (U2 (PW.pt (A6x (A2a (A0q (A8y O.isi (pv 0) (pty O.int_ boot_int)))) (B0m (A0q (A8y O.isi (pv 0) (pty O.bool_ boot_bool)))))) (A7 (B5 A1f)) D6) (A7 (B5 (A0e (G6 C2t (pv 0) (pv 1) (B9 _)) (Z8 (G6 C6u (pv 0) (pv 2) (B9 _))))))),?_⟩
 rcases h with⟨⟨i,rfl,h1,h2⟩,k⟩|⟨⟨t,b1,b2,ty,k1,k2,bad⟩,k⟩
 . refine⟨_,rfl,_,_,_,_,true,rfl,rfl,B8a i,T.int_int,_,rfl,V9 ?_⟩
   refine⟨_,rfl,_,_,_,_,false,rfl,rfl,B8a i,T.int_bool,_,rfl,V9 ?_⟩
   refine⟨_,rfl,_,rfl,_,_,rfl,rfl,_,rfl,A0k h1 ?_⟩
   refine⟨_,rfl,_,rfl,_,_,rfl,rfl,?_⟩
   show Q (.bl (decide (i<=hi))) H
   rw[decide_eq_true h2]
   exact k
 refine⟨_,rfl,_,_,_,_,b1,rfl,rfl,ty,k1,_,rfl,?_⟩
 cases b1 with
 |false=>exact Z7 (Z7 k)
 | true=>
   refine V9 ⟨_,rfl,_,_,_,_,b2,rfl,rfl,ty,k2,_,rfl,?_⟩
   cases b2 with
   |true=>exact Z7 k
   | false=>
     obtain⟨i,rfl,out⟩:=bad.resolve_left (by decide)
     refine V9 ⟨_,rfl,_,rfl,_,_,rfl,rfl,_,rfl,U8 (fun h1=>?_) (fun h1=>?_)⟩
     . refine⟨_,rfl,_,rfl,_,_,rfl,rfl,?_⟩
       show Q (.bl (decide (i<=hi))) H
       rw[decide_eq_false (by omega:¬i<=hi)]
       exact k
     . exact k
structure Err(K:Frag)(mg:Str ->Option Value)(x:Str)(CB:Addr):Prop where
 g:mg x=some (.ref CB)
 q:excIn K CB [.type "ValueError",.type "Exception",.type "BaseException",.type "object"] "ValueError.__new__"=true
noncomputable def A6k (lo hi:Int):Prop:=lo.natAbs.log2<1920/\hi.natAbs.log2<1920/\(Str.ofString (toString lo)).length<=100/\(Str.ofString (toString hi)).length<=100
noncomputable abbrev A6w:Stmt:=(top 56)
noncomputable def B2r (K:Frag) (CB:Addr):Sp:=fun vs H Q E=>∃v lo hi,vs=[v,.int lo,.int hi]/\A6k lo hi/\((A2y lo hi v/\Q v H)\/(B2h K H lo hi v/\E (.ref CB) none H))
theorem C3n:B8 Q4 Q4 (A5 A6w):=scK
theorem B8g{f f1 CB:Addr}(D:Def K mg "bounded" Q4 A6w f fd)(D1:Def K mg "is_between" Q4 C0m f1 fd1)(O:Own mg)(T:Kit K)(B:Err K mg "BadContext" CB):
   C6 P w K mg base 2 f fd Q4 (B2r K CB):=by
 have G1:=C6v (P:=P) (w:=w) (base:=base) D1 O T
 refine D.F.ok2 C3n (fun vs H Q E h=>?_) (fun X cdv A outer s H vs Q E hX hr hx h=>?_)
 . obtain⟨v,lo,hi,rfl,_⟩:=h
   rfl
 subst hX
 obtain⟨v,lo,hi,rfl,⟨l1,l2,l3,l4⟩,h⟩:=h
 refine⟨_,(A3 (U2 (A2a (A0q (U1 D1 G1 hr hx (A0 (pv 0) (A0 (pv 1) (A0 (pv 2) A4)))))) (A7 (A0z (by rfl) B.g B.q PySem.F.excBase_ValueError hx (A0 (C1n (.cons .lit (.cons (.int (pv 1)) (.cons .lit (.cons (.int (pv 2)) .nil))))) A4))) D6) (A7 (B5 (pv 0)))),?_⟩
 rcases h with⟨g,k⟩|⟨bad,k⟩
 . exact⟨_,rfl,_,rfl,_,rfl,_,_,_,rfl,.inl ⟨g,_,rfl,V9 ⟨_,rfl,k⟩⟩⟩
 have a0:Str.empty.length=0:=rfl
 have a1:(Str.ofString "not a whole number from ").length=24:=by decide+kernel
 have a2:(Str.ofString " to ").length=4:=by decide+kernel
 have sz:∀{n:Nat},n<=1000 ->n<=sizeLine:=fun h=>Nat.le_of_lt (A0v h)
 refine⟨_,rfl,_,rfl,_,rfl,_,_,_,rfl,.inr ⟨bad,_,rfl,Z7 ?_⟩⟩
 exact⟨_,rfl,sz (by rw[strLen_append];omega),_,rfl,_,rfl,l1,_,rfl,sz (by rw[strLen_append,strLen_append];omega),_,rfl,sz (by rw[strLen_append,strLen_append,strLen_append];omega),_,rfl,_,rfl,l2,_,rfl,sz (by rw[strLen_append,strLen_append,strLen_append,strLen_append];omega),sz (by rw[strLen_append,strLen_append,strLen_append,strLen_append];omega),sz (by show 1<=1000;decide),k⟩
noncomputable abbrev A4j:Stmt:=(top 26)
noncomputable def C3f (K:Frag) (CB:Addr):Sp:=fun vs H Q E=>∃v lo hi,vs=[v,.int lo,.int hi]/\A6k lo hi/\
 ((A2y lo hi v/\Q .non H)\/(B2h K H lo hi v/\E (.ref CB) none H))
theorem C5n:B8 Q4 Q4 (A5 A4j):=scK
theorem B1r{f f1 CB:Addr}(D:Def K mg "need_between" Q4 A4j f fd)(D1:Def K mg "is_between" Q4 C0m f1 fd1)(O:Own mg)(T:Kit K)(B:Err K mg "BadNumber" CB):
   C6 P w K mg base 2 f fd Q4 (C3f K CB):=by
 have G1:=C6v (P:=P) (w:=w) (base:=base) D1 O T
 refine D.F.ok2 C5n (fun vs H Q E h=>?_) (fun X cdv A outer s H vs Q E hX hr hx h=>?_)
 . obtain⟨v,lo,hi,rfl,_⟩:=h
   rfl
 subst hX
 obtain⟨v,lo,hi,rfl,⟨l1,l2,l3,l4⟩,h⟩:=h
 refine⟨_,(A7 (U2 (A2a (A0q (U1 D1 G1 hr hx (A0 (pv 0) (A0 (pv 1) (A0 (pv 2) A4)))))) (A7 (A0z (by rfl) B.g B.q PySem.F.excBase_ValueError hx (A0 (C1n (.cons .lit (.cons (.int (pv 1)) (.cons .lit (.cons (.int (pv 2)) .nil))))) A4))) D6)),?_⟩
 rcases h with⟨g,k⟩|⟨bad,k⟩
 . exact⟨_,rfl,_,rfl,_,rfl,_,_,_,rfl,.inl ⟨g,_,rfl,V9 k⟩⟩
 have a0:Str.empty.length=0:=rfl
 have a1:(Str.ofString "not a whole number from ").length=24:=by decide+kernel
 have a2:(Str.ofString " to ").length=4:=by decide+kernel
 have sz:∀{n:Nat},n<=1000 ->n<=sizeLine:=fun h=>Nat.le_of_lt (A0v h)
 refine⟨_,rfl,_,rfl,_,rfl,_,_,_,rfl,.inr ⟨bad,_,rfl,Z7 ?_⟩⟩
 exact⟨_,rfl,sz (by rw[strLen_append];omega),_,rfl,_,rfl,l1,_,rfl,sz (by rw[strLen_append,strLen_append];omega),_,rfl,sz (by rw[strLen_append,strLen_append,strLen_append];omega),_,rfl,_,rfl,l2,_,rfl,sz (by rw[strLen_append,strLen_append,strLen_append,strLen_append];omega),sz (by rw[strLen_append,strLen_append,strLen_append,strLen_append];omega),sz (by show 1<=1000;decide),k⟩
noncomputable abbrev B3j:Stmt:=(J1 (top 18) 0)
noncomputable abbrev C1b:Stmt:=(top 22)
noncomputable abbrev B0b:Stmt:=(top 24)
structure Num(K:Frag)(mg:Str ->Option Value)(CN:Addr):Prop where
 g:mg "Number"=some (.ref CN)
 cl:Cls K CN
 n1:A0a K CN "kind"
 n2:A0a K CN "sign"
 n3:A0a K CN "figures"
 n4:A0a K CN "power"
 ca:findIn K (.ref CN) "__class__"=some (some (.builtin "object.__class__"))
 sn:specialIn K (.builtin "object.__class__") "__get__"=some (some (.builtin "getset_descriptor.__get__"))
 tk:takesIn K (.builtin "object.__class__")=some true
 ob:mroIn K CN (.type "object")=some true
 self:kitOne K (.ref CN) (.ref CN)=some true
noncomputable def B2f (k s f p:V):List (Str×V):=Y5 "power" p (Y5 "figures" f (Y5 "sign" s (Y5 "kind" k [])))
theorem e12:¬(("kind":Str)="sign"):=by decide+kernel
theorem e13:¬(("kind":Str)="figures"):=by decide+kernel
theorem e14:¬(("kind":Str)="power"):=by decide+kernel
theorem e23:¬(("sign":Str)="figures"):=by decide+kernel
theorem e24:¬(("sign":Str)="power"):=by decide+kernel
theorem e34:¬(("figures":Str)="power"):=by decide+kernel
theorem num1(k s f p:V):(B2f k s f p).lookup ("kind":Str)=some k:=by unfold B2f;rw[J0,if_neg e14,J0,if_neg e13,J0,if_neg e12,J0,if_pos rfl]
theorem G1k(k s f p:V):(B2f k s f p).lookup ("sign":Str)=some s:=by unfold B2f;rw[J0,if_neg e24,J0,if_neg e23,J0,if_pos rfl]
theorem C8b(k s f p:V):(B2f k s f p).lookup ("figures":Str)=some f:=by unfold B2f;rw[J0,if_neg e34,J0,if_pos rfl]
theorem num4(k s f p:V):(B2f k s f p).lookup ("power":Str)=some p:=by unfold B2f;rw[J0,if_pos rfl]
noncomputable def A2f (CN:Addr) (H:Hp) (n:Addr) (k s f p:V):Prop:=∃dx,H n=some (.ins CN dx (B2f k s f p))
theorem A2f.same{CN:Addr}{H H':Hp}{n:Addr}{k s f p:V}(h:A2f CN H n k s f p)(e:B7 H H'):A2f CN H' n k s f p:=by
 obtain⟨dx,z⟩:=h
 exact⟨dx,e _ _ z⟩
theorem Num.ty{K:Frag}{mg:Str ->Option Value}{CN:Addr}(N:Num K mg CN){H:Hp}{n:Addr}{k s f p:V}(h:A2f CN H n k s f p):TyE K H (.ref n) (.ref CN):=by
 obtain⟨dx,z⟩:=h
 exact .of (.ins z N.cl N.ca N.sn N.tk N.ob)
noncomputable def B5f (CN:Addr):Sp:=fun vs H Q _=>∃(p dx:Addr) (k s f pw:V),vs=[.ref p,k,s,f,pw]/\H p=some (.ins CN dx [])/\∀H',H' p=some (.ins CN dx (B2f k s f pw)) ->(∀b o,H b=some o ->b≠p ->H' b=some o) ->Q .non H'
theorem G0y:B8 Q29 Q29 (A5 B3j):=scK
theorem D5z{f CN:Addr}(F:Fun K "__init__" "Number.__init__" B3j f fd)(N:Num K mg CN):C6 P w K mg base 1 f fd Q29 (B5f CN):=by
 refine F.ok2 G0y (fun vs H Q E h=>?_) (fun X cdv A outer s H vs Q E hX hr hx h=>?_)
 . obtain⟨p,dx,a,b,c,d,rfl,_⟩:=h
   rfl
 subst hX
 obtain⟨p,dx,a,b,c,d,rfl,hp,k⟩:=h
 refine⟨_,A3 (A0t (pv 0) (pv 1) rfl) (A3 (A0t (pv 0) (pv 2) rfl) (A3 (A0t (pv 0) (pv 3) rfl) (A7 (A0t (pv 0) (pv 4) rfl)))),?_⟩
 have l:∀(fs:List (Str×V)) (f:Str) (v:V) (n:Nat),fs.length<=n ->(Y5 f v fs).length<=n+1:=fun fs f v n h=>Nat.le_trans (A1g f v fs) (Nat.succ_le_succ h)
 refine⟨_,rfl,_,rfl,p,CN,dx,[],rfl,hp,N.cl,N.n1,(by show 0<1000;decide),?_⟩
 refine⟨_,rfl,_,rfl,p,CN,dx,_,rfl,A6,N.cl,N.n2,Nat.lt_of_le_of_lt (l _ _ _ 0 (Nat.le_refl _)) (by decide),?_⟩
 refine⟨_,rfl,_,rfl,p,CN,dx,_,rfl,A6,N.cl,N.n3,Nat.lt_of_le_of_lt (l _ _ _ 1 (l _ _ _ 0 (Nat.le_refl _))) (by decide),?_⟩
 refine⟨_,rfl,_,rfl,p,CN,dx,_,rfl,A6,N.cl,N.n4,Nat.lt_of_le_of_lt (l _ _ _ 2 (l _ _ _ 1 (l _ _ _ 0 (Nat.le_refl _)))) (by decide),?_⟩
 refine k _ A6 fun b o e hb=>?_
 rw[C7 hb,C7 hb,C7 hb,C7 hb]
 exact e
structure A8x(P:Program)(w:World)(K:Frag)(mg:Str ->Option Value)(base:Heap)(CN fI:Addr)(fdI:FuncData):Prop where
 m:Mk K CN fI
 g:C6 P w K mg base 1 fI fdI Q29 (B5f CN)
 b:V4 K fdI Q29 []
theorem made{CN:Addr}{H:Hp}{Q:VK}{k s f p:V}(h:∀n H',H n=none ->B7 H H' ->A2f CN H' n k s f p ->Q (.ref n) H'):
   ∀x dx,H x=none ->H dx=none ->dx≠x ->B5f CN (.ref x::([k,s,f,p]++ [])) (upd (upd H dx (.own x)) x (.ins CN dx [])) (fun v H2=>v= .non/\Q (.ref x) H2) E0:=by
 intro x dx nx nd ne
 refine⟨x,dx,k,s,f,p,rfl,A6,fun H' e kp=>⟨rfl,h x H' nx (fun b o z=>?_) ⟨dx,e⟩⟩⟩
 refine kp b o ?_ (D9 z nx)
 rw[C7 (D9 z nx),C7 (D9 z nd)]
 exact z
noncomputable def B0k (K:Frag) (CN:Addr) (H:Hp) (v:V):Prop:=∃t,TyE K H v t/\kitOne K t (.ref CN)=some false
noncomputable def C1u (K:Frag) (CN CB:Addr):Sp:=fun vs H Q E=>∃v,vs=[v]/\((∃n k s f p,v= .ref n/\A2f CN H n k s f p/\Q v H)\/(B0k K CN H v/\E (.ref CB) none H))
theorem D6v:B8 ["thing"] ["thing"] (A5 B0b):=scK
theorem B7v{f CN CB:Addr}(D:Def K mg "need_number" ["thing"] B0b f fd)(O:Own mg)(T:Kit K)(B:Err K mg "BadNumber" CB)(N:Num K mg CN):C6 P w K mg base 1 f fd ["thing"] (C1u K CN CB):=by
 refine D.F.ok2 D6v (fun vs H Q E h=>?_) (fun X cdv A outer s H vs Q E hX hr hx h=>?_)
 . obtain⟨v,rfl,_⟩:=h
   rfl
 subst hX
 obtain⟨v,rfl,h⟩:=h
 refine⟨_,(A3 (U2 (A2a (A0q (A8y O.isi (pv 0) (A7c N.g)))) (A7 (A0z (by rfl) B.g B.q PySem.F.excBase_ValueError hx (A0 C9 A4))) D6) (A7 (B5 (pv 0)))),?_⟩
 rcases h with⟨n,a,b,c,d,rfl,hn,k⟩|⟨⟨t,ty,k1⟩,k⟩
 . exact⟨_,rfl,_,_,_,_,true,rfl,rfl,N.ty hn,N.self,_,rfl,V9 ⟨_,rfl,k⟩⟩
 exact⟨_,rfl,_,_,_,t,false,rfl,rfl,ty,k1,_,rfl,Z7 ⟨Nat.le_of_lt (A0v (by show 1<=1000;decide)),k⟩⟩
noncomputable def C6r (K:Frag) (CN CB:Addr):Sp:=fun vs H Q E=>∃v,vs=[v]/\((∃n k s f p,v= .ref n/\A2f CN H n k s f p/\∀t,H t=none ->Q (.ref t) (upd H t (.tup [k,s,f,p])))\/(B0k K CN H v/\E (.ref CB) none H))
theorem G0a:B8 ["number"] ["number"] (A5 C1b):=scK
theorem D5m{f f1 CN CB:Addr}(D:Def K mg "told" ["number"] C1b f fd)(dA:Def K mg "need_number" ["thing"] B0b f1 fd1)(O:Own mg)(T:Kit K)(B:Err K mg "BadNumber" CB)(N:Num K mg CN):
   C6 P w K mg base 2 f fd ["number"] (C6r K CN CB):=by
 have G_need_number:=B7v (P:=P) (w:=w) (base:=base) dA O T B N
 refine D.F.ok2 G0a (fun vs H Q E h=>?_) (fun X cdv A outer s H vs Q E hX hr hx h=>?_)
 . obtain⟨v,rfl,_⟩:=h
   rfl
 subst hX
 obtain⟨v,rfl,h⟩:=h
 refine⟨_,(A3 (Y8 (U1 dA G_need_number hr hx (A0 (pv 0) A4))) (A7 (B5 (Y6 (A0 (U7 (pv 0) rfl) (A0 (U7 (pv 0) rfl) (A0 (U7 (pv 0) rfl) (A0 (U7 (pv 0) rfl) A4)))))))),?_⟩
 rcases h with⟨n,a,b,c,d,rfl,hn,k⟩|⟨bad,k⟩
 . refine⟨_,rfl,_,rfl,.inl ⟨n,a,b,c,d,rfl,hn,?_⟩⟩
   obtain⟨dx,e⟩:=hn
   exact⟨_,rfl,n,CN,dx,_,_,rfl,e,N.cl,N.n1,num1 _ _ _ _,_,rfl,n,CN,dx,_,_,rfl,e,N.cl,N.n2,G1k _ _ _ _,_,rfl,n,CN,dx,_,_,rfl,e,N.cl,N.n3,C8b _ _ _ _,_,rfl,n,CN,dx,_,_,rfl,e,N.cl,N.n4,num4 _ _ _ _,
     Nat.le_of_lt (A0v (by show 4<=1000;decide)),k⟩
 exact⟨_,rfl,_,rfl,.inr ⟨bad,k⟩⟩
noncomputable abbrev B5d:Stmt:=(top 19)
noncomputable abbrev C6c:Stmt:=(top 20)
noncomputable abbrev A2v:Stmt:=(top 21)
noncomputable def C2y (K:Frag) (CN CB:Addr):Sp:=fun vs H Q E=>∃x y z,vs=[x,y,z]/\
 ((A2y 0 1 x/\A2y 0 (10^60-1) y/\A2y (-200) 200 z/\∀n H',H n=none ->B7 H H' ->A2f CN H' n (.str "plain") x y z ->Q (.ref n) H')\/
  ((B2h K H 0 1 x\/(A2y 0 1 x/\(B2h K H 0 (10^60-1) y\/(A2y 0 (10^60-1) y/\B2h K H (-200) 200 z))))/\E (.ref CB) none H))
theorem D5k:B8 Q14 Q14 (A5 B5d):=scK
theorem b01:A6k 0 1:=by unfold A6k;decide+kernel
theorem b60:A6k 0 (10^60-1):=by unfold A6k;decide+kernel
theorem G5p:A6k (-200) 200:=by unfold A6k;decide+kernel
theorem C9u{f f1 f2 fI CN CB:Addr}{fd fd1 fd2 fdI:FuncData}(D:Def K mg "plain" Q14 B5d f fd)(dA:Def K mg "need_between" Q4 A4j f1 fd1)(D2:Def K mg "is_between" Q4 C0m f2 fd2)
   (O:Own mg) (T:Kit K) (B:Err K mg "BadNumber" CB) (N:Num K mg CN) (M:A8x P w K mg base CN fI fdI):C6 P w K mg base 3 f fd Q14 (C2y K CN CB):=by
 have G_need_between:=B1r (P:=P) (w:=w) (base:=base) dA D2 O T B
 refine D.F.ok2 D5k (fun vs H Q E h=>?_) (fun X cdv A outer s H vs Q E hX hr hx h=>?_)
 . obtain⟨x,y,z,rfl,_⟩:=h
   rfl
 subst hX
 obtain⟨x,y,z,rfl,h⟩:=h
 refine⟨_,(A3 (Y8 (U1 dA G_need_between hr hx (A0 (pv 0) (A0 A2 (A0 A2 A4))))) (A3 (Y8 (U1 dA G_need_between hr hx (A0 (pv 1) (A0 A2 (A0 (A9 Y4 (A9 C8v A2 A2) A2) A4))))) (A3 (Y8 (U1 dA G_need_between hr hx (A0 (pv 2) (A0 (A2j A0x A2) (A0 A2 A4))))) (A7 (B5 (A3u M.m M.g hr N.g M.b .nil hx (A0 C9 (A0 (pv 0) (A0 (pv 1) (A0 (pv 2) A4)))))))))),?_⟩
 have pw:D6p 10 60:=⟨by decide,by decide,by decide⟩
 rcases h with⟨⟨i1,rfl,l1,u1⟩,⟨i2,rfl,l2,u2⟩,⟨i3,rfl,l3,u3⟩,k⟩|⟨bad,k⟩
 . refine⟨_,rfl,_,_,_,rfl,b01,.inl ⟨⟨i1,rfl,l1,u1⟩,?_⟩⟩
   refine⟨_,rfl,_,_,rfl,rfl,pw,_,_,rfl,rfl,_,_,_,rfl,b60,.inl ⟨⟨i2,rfl,l2,u2⟩,?_⟩⟩
   refine⟨_,rfl,_,rfl,_,_,_,rfl,G5p,.inl ⟨⟨i3,rfl,l3,u3⟩,?_⟩⟩
   exact⟨_,rfl,_,rfl,_,rfl,made k⟩
 rcases bad with bad|⟨⟨i1,rfl,l1,u1⟩,bad|⟨⟨i2,rfl,l2,u2⟩,bad⟩⟩
 . exact⟨_,rfl,_,_,_,rfl,b01,.inr ⟨bad,k⟩⟩
 . refine⟨_,rfl,_,_,_,rfl,b01,.inl ⟨⟨i1,rfl,l1,u1⟩,?_⟩⟩
   exact⟨_,rfl,_,_,rfl,rfl,pw,_,_,rfl,rfl,_,_,_,rfl,b60,.inr ⟨bad,k⟩⟩
 refine⟨_,rfl,_,_,_,rfl,b01,.inl ⟨⟨i1,rfl,l1,u1⟩,?_⟩⟩
 refine⟨_,rfl,_,_,rfl,rfl,pw,_,_,rfl,rfl,_,_,_,rfl,b60,.inl ⟨⟨i2,rfl,l2,u2⟩,?_⟩⟩
 exact⟨_,rfl,_,rfl,_,_,_,rfl,G5p,.inr ⟨bad,k⟩⟩
noncomputable def C8w (K:Frag) (CN CB:Addr):Sp:=fun vs H Q E=>∃x,vs=[x]/\((A2y 0 1 x/\∀n H',H n=none ->B7 H H' ->A2f CN H' n (.str "end") x (.int 0) (.int 0) ->Q (.ref n) H')\/(B2h K H 0 1 x/\E (.ref CB) none H))
theorem G6q:B8 ["sign"] ["sign"] (A5 C6c):=scK
theorem G0s{f f1 f2 fI CN CB:Addr}{fd fd1 fd2 fdI:FuncData}(D:Def K mg "end" ["sign"] C6c f fd)(dA:Def K mg "need_between" Q4 A4j f1 fd1)(D2:Def K mg "is_between" Q4 C0m f2 fd2)
   (O:Own mg) (T:Kit K) (B:Err K mg "BadNumber" CB) (N:Num K mg CN) (M:A8x P w K mg base CN fI fdI):C6 P w K mg base 3 f fd ["sign"] (C8w K CN CB):=by
 have G_need_between:=B1r (P:=P) (w:=w) (base:=base) dA D2 O T B
 refine D.F.ok2 G6q (fun vs H Q E h=>?_) (fun X cdv A outer s H vs Q E hX hr hx h=>?_)
 . obtain⟨x,rfl,_⟩:=h
   rfl
 subst hX
 obtain⟨x,rfl,h⟩:=h
 refine⟨_,(A3 (Y8 (U1 dA G_need_between hr hx (A0 (pv 0) (A0 A2 (A0 A2 A4))))) (A7 (B5 (A3u M.m M.g hr N.g M.b .nil hx (A0 C9 (A0 (pv 0) (A0 A2 (A0 A2 A4)))))))),?_⟩
 rcases h with⟨⟨i1,rfl,l1,u1⟩,k⟩|⟨bad,k⟩
 . refine⟨_,rfl,_,_,_,rfl,b01,.inl ⟨⟨i1,rfl,l1,u1⟩,?_⟩⟩
   exact⟨_,rfl,made k⟩
 exact⟨_,rfl,_,_,_,rfl,b01,.inr ⟨bad,k⟩⟩
noncomputable def A5f (CN:Addr):Sp:=fun vs H Q _=>vs=[]/\∀n H',H n=none ->B7 H H' ->A2f CN H' n (.str "none") (.int 0) (.int 0) (.int 0) ->Q (.ref n) H'
theorem C3p:B8 [] [] (A5 A2v):=scK
theorem B8z{f fI CN:Addr}{fd fdI:FuncData}(D:Def K mg "nothing" [] A2v f fd)(N:Num K mg CN)(M:A8x P w K mg base CN fI fdI):C6 P w K mg base 3 f fd [] (A5f CN):=by
 refine D.F.ok2 C3p (fun vs H Q E h=>?_) (fun X cdv A outer s H vs Q E hX hr hx h=>?_)
 . obtain⟨rfl,_⟩:=h
   rfl
 subst hX
 obtain⟨rfl,k⟩:=h
 refine⟨_,(A7 (B5 (A3u M.m M.g hr N.g M.b .nil hx (A0 C9 (A0 A2 (A0 A2 (A0 A2 A4))))))),?_⟩
 exact made k
noncomputable abbrev C2j:Stmt:=(top 23)
noncomputable def C7n (CN:Addr):Sp:=fun vs H Q _=>∃n k s f p,vs=[.ref n]/\A2f CN H n k s (.int f) (.int p)/\f.natAbs<2^300/\Q (.int (p+((Str.ofString (toString f)).length:Nat)-1)) H
theorem G2f:B8 ["number"] ["number"] (A5 C2j):=scK
theorem D7p{f CN:Addr}(D:Def K mg "lead_of" ["number"] C2j f fd)(O:Own mg)(N:Num K mg CN):C6 P w K mg base 1 f fd ["number"] (C7n CN):=by
 refine D.F.ok2 G2f (fun vs H Q E h=>?_) (fun X cdv A outer s H vs Q E hX hr hx h=>?_)
 . obtain⟨n,a,b,c,d,rfl,_⟩:=h
   rfl
 subst hX
 obtain⟨n,a,b,fg,pw,rfl,⟨dx,e⟩,hf,k⟩:=h
 refine⟨_,(A7 (B5 (A9 Y4 (A9 G9 (U7 (pv 0) rfl) (Y3 A1u (by rfl) O.len_ PySem.boot_len (A0 (V2 A1s (by rfl) O.str_ boot_str (A0 (U7 (pv 0) rfl) A4)) A4))) A2))),?_⟩
 have lg:fg.natAbs.log2<1920:=Nat.lt_trans (A0r hf (by decide)) (by decide)
 exact⟨_,rfl,n,CN,dx,_,_,rfl,e,N.cl,N.n4,num4 _ _ _ _,_,rfl,n,CN,dx,_,_,rfl,e,N.cl,N.n3,C8b _ _ _ _,_,rfl,lg,_,rfl,int_text_fits lg,_,_,rfl,rfl,_,_,rfl,rfl,k⟩
noncomputable abbrev A3j:Stmt:=(top 2)
noncomputable abbrev A4m:Stmt:=(top 3)
theorem A6h{x k:Nat}(h:x<2^k)(hk:k<=1048576):Builtin.Int.intBits (x:Int)<=2^20:=by
 unfold Builtin.Int.intBits
 split
 . exact Nat.zero_le _
 have z:(x:Int).natAbs≠0:=by
   intro z
   rename_i hz
   exact hz (by simpa using z)
 have:(x:Int).natAbs.log2<k:=(Nat.log2_lt z).mpr h
 have e:(2:Nat)^20=1048576:=by decide
 omega
theorem B1s{b s j n:Nat}(hb:b<2^s)(hj:j<=n)(hn:n*s<1048576):Builtin.Int.intBits ((b^j:Nat):Int)<=2^20:=by
 refine A6h (k:=n*s+1) ?_ hn
 have a:b^j<=(2^s)^j:=Nat.pow_le_pow_left (Nat.le_of_lt hb) j
 have c:(2^s)^j<=2^(n*s):=by
   rw[<-Nat.pow_mul,Nat.mul_comm n s]
   exact Nat.pow_le_pow_right (by decide) (Nat.mul_le_mul_left s hj)
 have d:2^(n*s)<2^(n*s+1):=Nat.pow_lt_pow_right (by decide) (by omega)
 exact Nat.lt_of_le_of_lt a (Nat.lt_of_le_of_lt c d)
theorem A7d{b s i j n:Nat}(hb:b<2^s)(hi:i<=n)(hj:j<=n)(hn:n*s<1048576):IntMulOk ((b^i:Nat):Int) ((b^j:Nat):Int):=IntMulOk.of_bits (B1s hb hi hn) (B1s hb hj hn)
noncomputable def A8t:Sp:=fun vs H Q _=>∃b n s:Nat,vs=[.int (b:Int),.int (n:Int)]/\b<2^s/\n*s<1048576/\Q (.int ((b^n:Nat):Int)) H
theorem scProductOf:B8 ["whole","count","product"] Q30 (A5 A3j):=scK
theorem B4v(D:Def K mg "product_of" Q30 A3j f fd):C6 P w K mg base 1 f fd Q30 A8t:=by
 refine D.F.ok2 scProductOf (fun vs H Q E h=>?_) (fun X cdv A outer s H vs Q E hX hr hx h=>?_)
 . obtain⟨b,n,z,rfl,_⟩:=h
   rfl
 subst hX
 obtain⟨b,n,z,rfl,hb,hn,k⟩:=h
 refine⟨_,(A3 (D3 (i:=2) scProductOf.nd rfl (Or.inl rfl) A2) (A3 (A2x PassesOwn.leaving (C8 A6r (pv 1) A2 (B9 _)) (A3 (U2 (C8 G4 (A9 U6 (pv 1) A2) A2 (B9 _)) (A7 (D3 (i:=2) scProductOf.nd rfl (Or.inl rfl) (A9 G0 (pv 2) (pv 0)))) D6) (A3 (D3 (i:=0) scProductOf.nd rfl (Or.inl rfl) (A9 G0 (pv 0) (pv 0))) (A7 (D3 (i:=1) scProductOf.nd rfl (Or.inl rfl) (A9 D7 (pv 1) A2)))))) (A7 (B5 (pv 2))))),?_⟩
 have d2:(0:Int)<2/\(2:Int).natAbs.log2<9000:=⟨by decide,by decide+kernel⟩
 refine A3g (fun σ H2=>H2=H/\∃i m c:Nat,m+i*c=n/\σ=[si ((b^i:Nat):Int),si (c:Int),si ((b^m:Nat):Int)]) (fun σ _=>match σ with| [_,some (.int c),_]=>c.toNat|_=>0) ?_ ?_ ?_
 . exact⟨rfl,1,0,n,by omega,by rw[Nat.pow_one];rfl⟩
 . rintro σ H2 ⟨rfl,i,m,c,hc,rfl⟩
   refine⟨_,rfl,_,_,rfl,rfl,_,rfl,U8 (fun h0=>?_) (fun h0=>?_)⟩
   . have c1:1<=c:=by
       have:(0:Int)<c:=h0
       omega
     have hi:i<=n:=Nat.le_trans (Nat.le_mul_of_pos_right i c1) (by omega)
     have hm:m<=n:=by omega
     have sq:((b^i:Nat):Int)*((b^i:Nat):Int)=((b^(2*i):Nat):Int):=by rw[Nat.two_mul,Nat.pow_add];rfl
     have lt:((c:Int)/2).toNat<(c:Int).toNat:=by omega
     refine⟨_,rfl,_,_,rfl,rfl,d2.1,rfl,_,rfl,U8 (fun ho=>?_) (fun he=>?_)⟩
     . have ho:(c:Int) % 2=1:=by injection ho
       have mu:((b^m:Nat):Int)*((b^i:Nat):Int)=((b^(m+i):Nat):Int):=by rw[Nat.pow_add];rfl
       refine⟨_,rfl,_,rfl,_,_,rfl,rfl,A7d hb hm hi hn,_,rfl,_,rfl,_,_,rfl,rfl,A7d hb hi hi hn,_,rfl,_,_,rfl,rfl,d2,⟨rfl,2*i,m+i,c/2,?_,?_⟩,lt⟩
       . have e:i*c=i*(2*(c/2)+1):=congrArg (i* ·) (by omega)
         rw[Nat.mul_add,Nat.mul_one, <-Nat.mul_assoc,Nat.mul_comm i 2] at e
         omega
       . show [si (((b^i:Nat):Int)*((b^i:Nat):Int)),si ((c:Int)/2),si (((b^m:Nat):Int)*((b^i:Nat):Int))]=_
         rw[sq,mu]
         rfl
     . have he:¬(c:Int) % 2=1:=fun z=>he (congrArg V.int z)
       refine⟨_,rfl,_,rfl,_,_,rfl,rfl,A7d hb hi hi hn,_,rfl,_,_,rfl,rfl,d2,⟨rfl,2*i,m,c/2,?_,?_⟩,lt⟩
       . have e:i*c=i*(2*(c/2)):=congrArg (i* ·) (by omega)
         rw[<-Nat.mul_assoc,Nat.mul_comm i 2] at e
         omega
       . show [si (((b^i:Nat):Int)*((b^i:Nat):Int)),si ((c:Int)/2),si ((b^m:Nat):Int)]=_
         rw[sq]
         rfl
   . have c0:c=0:=by
       have:¬(0:Int)<c:=h0
       omega
     subst c0
     have hm:m=n:=by omega
     subst hm
     exact⟨_,rfl,k⟩
 rintro σ H2 Q1 Q2 hQ ⟨v,e,i,j,e1,e2,b,e3,q⟩
 exact⟨v,e,i,j,e1,e2,b,e3,hQ _ _ q⟩
noncomputable def A5e:Sp:=fun vs H Q _=>∃n:Nat,vs=[.int (n:Int)]/\n<=4000/\Q (.int ((10^n:Nat):Int)) H
theorem D5p:B8 ["count"] ["count"] (A5 A4m):=scK
theorem C9p(D:Def K mg "ten_to" ["count"] A4m f fd)(dA:Def K mg "product_of" Q30 A3j f1 fd1)(dB:C6 P w K mg base 1 f1 fd1 Q30 A8t):C6 P w K mg base 2 f fd ["count"] A5e:=by
 refine D.F.ok2 D5p (fun vs H Q E h=>?_) (fun X cdv A outer s H vs Q E hX hr hx h=>?_)
 . obtain⟨n,rfl,_⟩:=h
   rfl
 subst hX
 obtain⟨n,rfl,hn,k⟩:=h
 refine⟨_,(A7 (B5 (U1 dA dB hr hx (A0 A2 (A0 (pv 0) A4))))),?_⟩
 exact⟨_,rfl,10,n,4,rfl,by decide,by omega,k⟩
inductive Kd where
 |plain|end_|none
noncomputable def Kd.str:Kd ->Str
 | .plain=>"plain"
 | .end_=>"end"
 | .none=>"none"
theorem Kd.str_inj{a b:Kd}(h:a.str=b.str):a=b:=by
 cases a<;>cases b<;>first|rfl|exact absurd h (by decide+kernel)
structure Nm where
 k:Kd
 s:Int
 f:Int
 p:Int
noncomputable def Nm.vs (x:Nm):List V:=[.str x.k.str,.int x.s,.int x.f,.int x.p]
structure Nm.Ok(x:Nm):Prop where
 s0:0<=x.s
 s1:x.s<=1
 f0:0<=x.f
 f1:x.f<=10^60-1
 p0: -200<=x.p
 p1:x.p<=200
noncomputable def Z0 (CN:Addr) (H:Hp) (n:Addr) (x:Nm):Prop:=A2f CN H n (.str x.k.str) (.int x.s) (.int x.f) (.int x.p)
theorem Z0.same{CN:Addr}{H H':Hp}{n:Addr}{x:Nm}(h:Z0 CN H n x)(e:B7 H H'):Z0 CN H' n x:=A2f.same h e
noncomputable def A8 (n:Int):Int:=((10^n.toNat:Nat):Int)
theorem U0(n:Int):0<A8 n:=Int.natCast_pos.mpr (Nat.pow_pos (by decide))
theorem neS{a b:Kd}(h:¬V.str a.str=V.str b.str):a≠b:=fun q=>h (by rw[q])
theorem eqS{a b:Kd}(h:V.str a.str=V.str b.str):a=b:=Kd.str_inj (by injection h)
theorem C3j{d:Int}(h:d<=4000):Builtin.Int.intBits (A8 d)<=2^20:=B1s (b:=10) (s:=4) (n:=4000) (by decide) (by omega) (by decide)
noncomputable def A4t (left low:Int):Int:=(if decide (0<left)=true then 1 else 0)+(if decide (low<=2*left)=true then 1 else 0)+(if decide (low<2*left)=true then 1 else 0)
theorem G4z(s:Int):(if(0:Int)>s then 0 else s)=((s.toNat:Nat):Int):=by
 by_cases h:(0:Int)>s
 . rw[if_pos h];omega
 rw[if_neg h];omega
noncomputable def A3b (t b s:Int):Prop:=b*A8 (-s)<=t*A8 s/\t*A8 s<10*(b*A8 (-s))
theorem A1w{s r:Int}(h:s<=r):A8 r*A8 (-s)=A8 s*A8 (-r)*A8 (r-s):=by
 have ad:∀{a b c:Int},0<=a ->0<=b ->c=a+b ->A8 c=A8 a*A8 b:=fun ha hb e=>by
   subst e
   unfold A8
   rw[Int.toNat_add ha hb,Nat.pow_add]
   exact Int.natCast_mul _ _
 have z:∀{a:Int},a<=0 ->A8 a=1:=fun h=>by
   unfold A8
   rw[Int.toNat_of_nonpos h]
   rfl
 rcases Int.le_total 0 s with hs|hs
 . rw[z (a:= -s) (by omega),z (a:= -r) (by omega),Int.mul_one,Int.mul_one]
   exact ad hs (by omega) (by omega)
 rcases Int.le_total 0 r with hr|hr
 . rw[z hs,z (a:= -r) (by omega),Int.one_mul,Int.one_mul]
   exact(ad hr (by omega) (by omega)).symm
 rw[z hr,z hs,Int.one_mul,Int.one_mul]
 exact ad (by omega) (by omega) (by omega)
theorem D6u{d:Int}(h:1<=d):10<=A8 d:=by
 unfold A8
 have:10^1<=10^d.toNat:=Nat.pow_le_pow_right (by decide) (by omega)
 omega
theorem Z5{a b:Int}(h:a<=b):A8 a<=A8 b:=by
 unfold A8
 exact Int.ofNat_le.mpr (Nat.pow_le_pow_right (by decide) (by omega))
theorem C1f{t b s r:Int}(hb:0<b)(h1:A3b t b s)(h2:A3b t b r):r<=s:=by
 apply Classical.byContradiction
 intro h
 have hs:s<=r:=by omega
 have c:=A1w hs
 have g:=D6u (d:=r-s) (by omega)
 have p1:=U0 (-s)
 have p2:=U0 (-r)
 have l1:0<b*A8 (-s):=Int.mul_pos hb p1
 have l2:0<b*A8 (-r):=Int.mul_pos hb p2
 have e:t*A8 r*(b*A8 (-s))=t*A8 s*(b*A8 (-r))*A8 (r-s):=by
   calc t*A8 r*(b*A8 (-s))=t*b*(A8 r*A8 (-s)):=by ac_rfl
     _=t*b*(A8 s*A8 (-r)*A8 (r-s)):=by rw[c]
     _=t*A8 s*(b*A8 (-r))*A8 (r-s):=by ac_rfl
 have a1:t*A8 r*(b*A8 (-s))<10*(b*A8 (-r))*(b*A8 (-s)):=Int.mul_lt_mul_of_pos_right h2.2 l1
 have hp:0<t*A8 s:=Int.lt_of_lt_of_le l1 h1.1
 have a2:t*A8 s*(b*A8 (-r))*10<=t*A8 s*(b*A8 (-r))*A8 (r-s):=Int.mul_le_mul_of_nonneg_left g (Int.le_of_lt (Int.mul_pos hp l2))
 have a3:b*A8 (-s)*(b*A8 (-r))<=t*A8 s*(b*A8 (-r)):=Int.mul_le_mul_of_nonneg_right h1.1 (Int.le_of_lt l2)
 have e2:10*(b*A8 (-r))*(b*A8 (-s))=b*A8 (-s)*(b*A8 (-r))*10:=by ac_rfl
 have a4:b*A8 (-s)*(b*A8 (-r))*10<=t*A8 s*(b*A8 (-r))*10:=Int.mul_le_mul_of_nonneg_right a3 (by decide)
 rw[e] at a1
 rw[e2] at a1
 exact absurd (Int.lt_of_lt_of_le a1 (Int.le_trans a4 a2)) (Int.lt_irrefl _)
theorem D7b{t b s r:Int}(hb:0<b)(h1:A3b t b s)(h2:A3b t b r):s=r:=Int.le_antisymm (C1f hb h2 h1) (C1f hb h1 h2)
noncomputable def Sz (t:Int):Prop:=1<=t/\t<A8 1000
theorem C1d(n:Nat):10^n<=2^(4*n):=by
 rw[Nat.pow_mul]
 exact Nat.pow_le_pow_left (by decide) n
theorem B6m(n:Nat):10^(3*n)<=2^(10*n):=by
 rw[Nat.pow_mul,Nat.pow_mul]
 exact Nat.pow_le_pow_left (by decide) n
theorem Sz.nat{t:Int}(h:Sz t):∃n:Nat,t=(n:Int)/\1<=n/\n<10^1000:=by
 obtain⟨n,rfl⟩:=Int.eq_ofNat_of_zero_le (show 0<=t by have:=h.1;omega)
 exact⟨n,rfl,Int.ofNat_le.mp h.1,Int.ofNat_lt.mp h.2⟩
theorem D7n{t s:Int}(ht:Sz t)(h:s<=1500):∃n:Nat,t*A8 s=(n:Int)/\n<10^2502:=by
 obtain⟨n,rfl,_,hn⟩:=ht.nat
 refine⟨n*10^s.toNat,rfl,?_⟩
 have a:10^s.toNat<=10^1502:=Nat.pow_le_pow_right (by decide) (by omega)
 calc n*10^s.toNat<=n*10^1502:=Nat.mul_le_mul_left n a
   _<10^1000*10^1502:=Nat.mul_lt_mul_of_pos_right hn (Nat.pow_pos (by decide))
   _=10^2502:=by rw[<-Nat.pow_add]
theorem B4b{t:Int}(h:Sz t):Builtin.Int.intBits t<=2^20:=by
 obtain⟨n,rfl,_,hn⟩:=h.nat
 exact A6h (k:=4*1000) (Nat.lt_of_lt_of_le hn (C1d 1000)) (by decide)
theorem A7q{t s:Int}(ht:Sz t)(h:s<=1500):IntMulOk t (A8 s):=IntMulOk.of_bits (B4b ht) (C3j (by omega))
theorem G0h{b s:Int}(hb:Sz b)(h:s<=1500):(b*A8 s).natAbs.log2<9000:=by
 obtain⟨n,e,hn⟩:=D7n hb h
 rw[e]
 have:n<2^8340:=Nat.lt_of_lt_of_le hn (B6m 834)
 exact Nat.lt_trans (A0r (i:=(n:Int)) (k:=8340) (by rw[Int.natAbs_natCast];exact this) (by decide)) (by decide)
noncomputable abbrev A9n:Stmt:=(top 7)
noncomputable def B6a:Sp:=fun vs H Q _=>∃l m:Int,vs=[.int (2*l),.int m]/\0<=l/\0<m/\Q (.int (A4t l m)) H
theorem C6f:B8 Q15 Q15 (A5 A9n):=scK
theorem D5e{m:Int}(hm:0<m):A4t 0 m=0:=by
 unfold A4t
 rw[decide_eq_false (by omega:¬(0:Int)<0),decide_eq_false (by omega:¬m<=2*0),decide_eq_false (by omega:¬m<2*0)]
 rfl
theorem D7g{l m:Int}(hl:0<l)(h:2*l<m):A4t l m=1:=by
 unfold A4t
 rw[decide_eq_true hl,decide_eq_false (by omega:¬m<=2*l),decide_eq_false (by omega:¬m<2*l)]
 rfl
theorem D6x{l m:Int}(hl:0<l)(h:2*l=m):A4t l m=2:=by
 unfold A4t
 rw[decide_eq_true hl,decide_eq_true (by omega:m<=2*l),decide_eq_false (by omega:¬m<2*l)]
 rfl
theorem D7r{l m:Int}(hl:0<l)(h:m<2*l):A4t l m=3:=by
 unfold A4t
 rw[decide_eq_true hl,decide_eq_true (by omega:m<=2*l),decide_eq_true h]
 rfl
theorem C3u(D:Def K mg "part_of" Q15 A9n f fd):C6 P w K mg base 1 f fd Q15 B6a:=by
 refine D.F.ok2 C6f (fun vs H Q E h=>?_) (fun X cdv A outer s H vs Q E hX hr hx h=>?_)
 . obtain⟨l,m,rfl,_⟩:=h
   rfl
 subst hX
 obtain⟨l,m,rfl,hl,hm,k⟩:=h
 refine⟨_,(A3 (U2 (C8 G4 (pv 0) A2 (B9 _)) (A7 (B5 A2)) D6) (A3 (U2 (C8 A3d (pv 0) (pv 1) (B9 _)) (A7 (B5 A2)) D6) (A7 (B5 (A4f (C8 G4 (pv 0) (pv 1) (B9 _)) A2 A2))))),?_⟩
 refine⟨_,rfl,rfl,_,rfl,U8 (fun h0=>?_) (fun h0=>?_)⟩
 . have e:l=0:=by
     have:2*l=0:=by injection h0
     omega
   subst e
   rw[D5e hm] at k
   exact k
 have hl':0<l:=by
   apply Classical.byContradiction
   intro z
   exact h0 (by rw[show l=0 by omega];rfl)
 refine⟨_,rfl,_,rfl,_,_,rfl,rfl,_,rfl,U8 (fun h1=>?_) (fun h1=>?_)⟩
 . rw[D7g hl' h1] at k
   exact k
 refine⟨_,rfl,_,rfl,rfl,_,rfl,U8 (fun h2=>?_) (fun h2=>?_)⟩
 . rw[D6x hl' (by injection h2)] at k
   exact k
 rw[D7r hl' (by
   have:2*l≠m:=fun z=>h2 (by rw[z])
   omega)] at k
 exact k
noncomputable abbrev B0d:Stmt:=(top 8)
theorem B8r(k:Nat):10^(k*301029995/10^9)<=2^k:=by
 have hm:k*301029995/10^9*28738<=k*8651:=by
   have:k*301029995/10^9*10^9<=k*301029995:=Nat.div_mul_le_self _ _
   omega
 generalize k*301029995/10^9=m at hm
 have c:(10:Nat)^8651<=2^28738:=by decide+kernel
 have a:(10^m)^8651<=(2^k)^8651:=by
   calc (10^m)^8651=(10^8651)^m:=by rw[<-Nat.pow_mul, <-Nat.pow_mul,Nat.mul_comm]
     _<=(2^28738)^m:=Nat.pow_le_pow_left c m
     _=2^(m*28738):=by rw[<-Nat.pow_mul,Nat.mul_comm]
     _<=2^(k*8651):=Nat.pow_le_pow_right (by decide) hm
     _=(2^k)^8651:=by rw[<-Nat.pow_mul]
 exact(Nat.pow_le_pow_iff_left (by decide)).mp a
noncomputable def B5p:Sp:=fun vs H Q _=>∃n:Nat,vs=[.int (n:Int)]/\1<=n/\n<10^3000/\∀L:Nat,10^L<=n ->n<10^(L+1) ->Q (.int (L:Int)) H
theorem scWLead:B8 ["whole","lead","beyond"] ["whole"] (A5 B0d):=scK
theorem C6z(D:Def K mg "whole_lead" ["whole"] B0d f fd)(dA:Def K mg "ten_to" ["count"] A4m f1 fd1)(dB:C6 P w K mg base 2 f1 fd1 ["count"] A5e):C6 P w K mg base 3 f fd ["whole"] B5p:=by
 refine D.F.ok2 scWLead (fun vs H Q E h=>?_) (fun X cdv A outer s H vs Q E hX hr hx h=>?_)
 . obtain⟨n,rfl,_⟩:=h
   rfl
 subst hX
 obtain⟨n,rfl,n1,n2,k⟩:=h
 refine⟨_,(A3 (B0 (D3 (i:=1) scWLead.nd rfl (Or.inl rfl) (A9 D7 (A9 G0 (A9 Y4 (C0k PySem.F.plainAttrs_int PySem.F.slot_int_bit_length PySem.F.type_int_bit_length A5m (pv 0)) A2) A2) (A9 C8v A2 A2)))) (A3 (B0 (D3 (i:=2) scWLead.nd rfl (Or.inl rfl) (U1 dA dB hr hx (A0 (A9 G9 (pv 1) A2) A4)))) (A3 (B0 (A2x PassesOwn.leaving (C8 C6u (pv 2) (pv 0) (B9 _)) (A3 (G1f (i:=1) scWLead.nd rfl (Or.inl rfl) A2 G0x) (A7 (D3 (i:=2) scWLead.nd rfl (Or.inl rfl) (A9 G0 (pv 2) A2)))))) (A7 (B5 (pv 1)))))),?_⟩
 have mC:∀z n:Int, -(2^64)<n ->n<2^64 ->IntMulOk z n:=fun z n a b=>A2h.ok (.inr ⟨a,b⟩)
 have pw:D6p 10 9:=⟨by decide,by decide,by decide⟩
 have l3:∀{L:Nat},10^L<=n ->L<3000:=fun hL=>(Nat.pow_lt_pow_iff_right (by decide:1<10)).mp (Nat.lt_of_le_of_lt hL n2)
 refine⟨fun σ H'=>H'=H/\∃L:Nat,10^L<=n/\σ=[si (n:Int),si (L:Int),none],?_,?_⟩
 . refine⟨_,rfl,rfl,_,rfl,rfl,_,_,rfl,rfl,_,_,rfl,rfl,mC _ _ (by decide) (by decide),_,_,rfl,rfl,pw,_,_,rfl,rfl,⟨by decide,by decide+kernel⟩,rfl,n.log2*301029995/10^9,?_,?_⟩
   . exact Nat.le_trans (B8r _) (Nat.log2_self_le (by omega))
   . have e:(Builtin.Int.intBits (n:Int):Nat)=n.log2+1:=by
       unfold Builtin.Int.intBits
       rw[if_neg (by simp;omega)]
       rfl
     show [si (n:Int),si ((((Builtin.Int.intBits (n:Int):Nat):Int)-1)*301029995/(10^Int.toNat 9:Int)),none]=_
     rw[e,show((n.log2+1:Nat):Int)-1=(n.log2:Int) by omega]
     rfl
 refine L2.hideG fun Z_ z_=>?_
 rintro σ H' ⟨rfl,L0,hL0,rfl⟩
 subst z_
 refine⟨fun σ H2=>H2=H'/\∃L:Nat,10^L<=n/\σ=[si (n:Int),si (L:Int),si ((10^(L+1):Nat):Int)],?_,?_⟩
 . have:=l3 hL0
   exact⟨_,rfl,_,_,rfl,rfl,L0+1,rfl,by omega,rfl,L0,hL0,rfl⟩
 refine L2.hideG fun Z_ z_=>?_
 rintro σ H2 ⟨rfl,L1,hL1,rfl⟩
 subst z_
 refine⟨fun σ H3=>H3=H2/\∃L:Nat,10^L<=n/\n<10^(L+1)/\σ=[si (n:Int),si (L:Int),si ((10^(L+1):Nat):Int)],?_,?_⟩
 . refine A3g (fun σ H3=>H3=H2/\∃L:Nat,10^L<=n/\σ=[si (n:Int),si (L:Int),si ((10^(L+1):Nat):Int)]) (fun σ _=>match σ with| [_,some (.int c),_]=>n-c.toNat|_=>0) ?_ ?_ ?_
   . exact⟨rfl,L1,hL1,rfl⟩
   . rintro σ H3 ⟨rfl,L,hL,rfl⟩
     refine⟨_,rfl,_,rfl,_,_,rfl,rfl,_,rfl,U8 (fun hle=>?_) (fun hgt=>?_)⟩
     . have hle:10^(L+1)<=n:=Int.ofNat_le.mp hle
       refine⟨_,rfl,_,_,rfl,rfl,_,rfl,_,_,rfl,rfl,mC _ _ (by decide) (by decide),⟨rfl,L+1,hle,?_⟩,?_⟩
       . show [si (n:Int),si ((L:Int)+1),si (((10^(L+1):Nat):Int)*10)]=_
         rw[show((10^(L+1):Nat):Int)*10=((10^(L+1+1):Nat):Int) by rw[Nat.pow_succ 10 (L+1)];rfl]
         rfl
       have lt:L+1<10^(L+1):=Nat.lt_pow_self (by decide)
       show n-((L:Int)+1).toNat<n-(L:Int).toNat
       omega
     . have hgt:¬10^(L+1)<=n:=fun z=>hgt (Int.ofNat_le.mpr z)
       exact⟨rfl,L,hL,by omega,rfl⟩
   . rintro σ H2 Q1 Q2 hQ ⟨v,e,v2,e4,i2,j2,e5,e6,b,e7,q⟩
     exact⟨v,e,v2,e4,i2,j2,e5,e6,b,e7,hQ _ _ q⟩
 refine L2.hideG fun Z_ z_=>?_
 rintro σ H3 ⟨rfl,L,h1,h2,rfl⟩
 subst z_
 exact⟨_,rfl,k L h1 h2⟩
theorem G1p{t b L M u v:Nat}(h:L+u=M+v)(t2:t<10^(L+1))(b1:10^M<=b):t*10^u<10*(b*10^v):=by
 have p:0<10^u:=Nat.pow_pos (by decide)
 calc t*10^u<10^(L+1)*10^u:=Nat.mul_lt_mul_of_pos_right t2 p
   _=10*(10^M*10^v):=by rw[<-Nat.pow_add, <-Nat.pow_add, <-h,show L+1+u=(L+u)+1 by omega,Nat.pow_succ,Nat.mul_comm]
   _<=10*(b*10^v):=Nat.mul_le_mul_left 10 (Nat.mul_le_mul_right _ b1)
theorem G0n{t b L M u v:Nat}(h:L+u=M+1+v)(t1:10^L<=t)(b2:b<10^(M+1)):b*10^v<=t*10^u:=by
 calc b*10^v<=10^(M+1)*10^v:=Nat.mul_le_mul_right _ (Nat.le_of_lt b2)
   _=10^L*10^u:=by rw[<-Nat.pow_add, <-Nat.pow_add,h]
   _<=t*10^u:=Nat.mul_le_mul_right _ t1
theorem C3w{t b L M:Nat}(t1:10^L<=t)(t2:t<10^(L+1))(b1:10^M<=b)(b2:b<10^(M+1))(h:(b:Int)*A8 (-((M:Int)-L))<=(t:Int)*A8 ((M:Int)-L)):A3b t b ((M:Int)-L):=by
 refine⟨h,?_⟩
 unfold A8
 have:=G1p (t:=t) (b:=b) (L:=L) (M:=M) (u:=((M:Int)-L).toNat) (v:=(-((M:Int)-L)).toNat) (by omega) t2 b1
 exact Int.ofNat_lt.mpr this
theorem B9r{t b L M:Nat}(t1:10^L<=t)(t2:t<10^(L+1))(b1:10^M<=b)(b2:b<10^(M+1))(h:(t:Int)*A8 ((M:Int)-L)<(b:Int)*A8 (-((M:Int)-L))):A3b t b ((M:Int)-L+1):=by
 refine⟨?_,?_⟩
 . unfold A8
   have:=G0n (t:=t) (b:=b) (L:=L) (M:=M) (u:=((M:Int)-L+1).toNat) (v:=(-((M:Int)-L+1)).toNat) (by omega) t1 b2
   exact Int.ofNat_le.mpr this
 have hb:0<(b:Int):=by
   have:0<10^M:=Nat.pow_pos (by decide)
   omega
 generalize (M:Int)-L=s at h
 have c:=A1w (s:=s) (r:=s+1) (by omega)
 have e1:A8 (s+1-s)=10:=by rw[show s+1-s=1 by omega];rfl
 rw[e1] at c
 have l:=Int.mul_pos hb (U0 (-s))
 have l':=Int.mul_pos hb (U0 (-(s+1)))
 have e:(t:Int)*A8 (s+1)*((b:Int)*A8 (-s))=(t:Int)*A8 s*((b:Int)*A8 (-(s+1)))*10:=by
   calc (t:Int)*A8 (s+1)*((b:Int)*A8 (-s))=t*b*(A8 (s+1)*A8 (-s)):=by ac_rfl
     _=t*b*(A8 s*A8 (-(s+1))*10):=by rw[c]
     _=(t:Int)*A8 s*((b:Int)*A8 (-(s+1)))*10:=by ac_rfl
 have a:(t:Int)*A8 s*((b:Int)*A8 (-(s+1)))<(b:Int)*A8 (-s)*((b:Int)*A8 (-(s+1))):=Int.mul_lt_mul_of_pos_right h l'
 have a2:(t:Int)*A8 (s+1)*((b:Int)*A8 (-s))<10*((b:Int)*A8 (-(s+1)))*((b:Int)*A8 (-s)):=by
   rw[e,show 10*((b:Int)*A8 (-(s+1)))*((b:Int)*A8 (-s))=(b:Int)*A8 (-s)*((b:Int)*A8 (-(s+1)))*10 by ac_rfl]
   exact Int.mul_lt_mul_of_pos_right a (by decide)
 exact Int.lt_of_mul_lt_mul_right a2 (Int.le_of_lt l)
inductive Wy where
 |down
 |up
 |floor
 |ceiling
 |halfUp
 |halfDown
 |halfEven
 |fiveUp
noncomputable def Wy.name:Wy ->Str
 | .down=>"down"
 | .up=>"up"
 | .floor=>"floor"
 | .ceiling=>"ceiling"
 | .halfUp=>"half up"
 | .halfDown=>"half down"
 | .halfEven=>"half even"
 | .fiveUp=>"five up"
noncomputable def Wy.cls:Wy ->Str
 | .down=>"Down"
 | .up=>"Up"
 | .floor=>"Floor"
 | .ceiling=>"Ceiling"
 | .halfUp=>"HalfUp"
 | .halfDown=>"HalfDown"
 | .halfEven=>"HalfEven"
 | .fiveUp=>"FiveUp"
theorem Wy.inj{a b:Wy}(h:a.name=b.name):a=b:=by
 cases a<;>cases b<;>first|rfl|exact absurd h (by decide+kernel)
structure A9c(K:Frag)(mg:Str ->Option Value)(x:Str)(C CW:Addr):Prop where
 g:mg x=some (.ref C)
 cl:Cls K C
 mk0:Mk0 K C
 ca:findIn K (.ref C) "__class__"=some (some (.builtin "object.__class__"))
 sn:specialIn K (.builtin "object.__class__") "__get__"=some (some (.builtin "getset_descriptor.__get__"))
 tk:takesIn K (.builtin "object.__class__")=some true
 ob:mroIn K C (.type "object")=some true
 up:kitOne K (.ref C) (.ref CW)=some true
noncomputable def A3p (s:Str):Sp:=fun vs H Q _=>∃p,vs=[.ref p]/\Q (.str s) H
noncomputable def G6h (P:Program) (w:World) (K:Frag) (mg:Str ->Option Value) (base:Heap) (C:Addr) (s:Str):Prop:=A6y P w K mg base C "name" 1 ["self"] (A3p s)
noncomputable abbrev sN0:Stmt:=(J1 (top 44) 0)
theorem J0u:B8 ["self"] ["self"] (A5 sN0):=scK
theorem G4m(F:Fun K "name" "Down.name" sN0 f fd):C6 P w K mg base 1 f fd ["self"] (A3p "down"):=by
 refine F.ok2 J0u (fun vs H Q E h=>?_) (fun X cdv A outer s H vs Q E hX hr hx h=>?_)
 . obtain⟨p,rfl,_⟩:=h
   rfl
 subst hX
 obtain⟨p,rfl,k⟩:=h
 exact⟨_,A7 (B5 C9),k⟩
noncomputable abbrev sN1:Stmt:=(J1 (top 45) 0)
theorem J0d:B8 ["self"] ["self"] (A5 sN1):=scK
theorem G7e(F:Fun K "name" "Up.name" sN1 f fd):C6 P w K mg base 1 f fd ["self"] (A3p "up"):=by
 refine F.ok2 J0d (fun vs H Q E h=>?_) (fun X cdv A outer s H vs Q E hX hr hx h=>?_)
 . obtain⟨p,rfl,_⟩:=h
   rfl
 subst hX
 obtain⟨p,rfl,k⟩:=h
 exact⟨_,A7 (B5 C9),k⟩
noncomputable abbrev sN2:Stmt:=(J1 (top 46) 0)
theorem J0m:B8 ["self"] ["self"] (A5 sN2):=scK
theorem G4h(F:Fun K "name" "Floor.name" sN2 f fd):C6 P w K mg base 1 f fd ["self"] (A3p "floor"):=by
 refine F.ok2 J0m (fun vs H Q E h=>?_) (fun X cdv A outer s H vs Q E hX hr hx h=>?_)
 . obtain⟨p,rfl,_⟩:=h
   rfl
 subst hX
 obtain⟨p,rfl,k⟩:=h
 exact⟨_,A7 (B5 C9),k⟩
noncomputable abbrev sN3:Stmt:=(J1 (top 47) 0)
theorem G8v:B8 ["self"] ["self"] (A5 sN3):=scK
theorem G4q(F:Fun K "name" "Ceiling.name" sN3 f fd):C6 P w K mg base 1 f fd ["self"] (A3p "ceiling"):=by
 refine F.ok2 G8v (fun vs H Q E h=>?_) (fun X cdv A outer s H vs Q E hX hr hx h=>?_)
 . obtain⟨p,rfl,_⟩:=h
   rfl
 subst hX
 obtain⟨p,rfl,k⟩:=h
 exact⟨_,A7 (B5 C9),k⟩
noncomputable abbrev sN4:Stmt:=(J1 (top 48) 0)
theorem G9h:B8 ["self"] ["self"] (A5 sN4):=scK
theorem G4t(F:Fun K "name" "HalfUp.name" sN4 f fd):C6 P w K mg base 1 f fd ["self"] (A3p "half up"):=by
 refine F.ok2 G9h (fun vs H Q E h=>?_) (fun X cdv A outer s H vs Q E hX hr hx h=>?_)
 . obtain⟨p,rfl,_⟩:=h
   rfl
 subst hX
 obtain⟨p,rfl,k⟩:=h
 exact⟨_,A7 (B5 C9),k⟩
noncomputable abbrev sN5:Stmt:=(J1 (top 49) 0)
theorem G9x:B8 ["self"] ["self"] (A5 sN5):=scK
theorem G6r(F:Fun K "name" "HalfDown.name" sN5 f fd):C6 P w K mg base 1 f fd ["self"] (A3p "half down"):=by
 refine F.ok2 G9x (fun vs H Q E h=>?_) (fun X cdv A outer s H vs Q E hX hr hx h=>?_)
 . obtain⟨p,rfl,_⟩:=h
   rfl
 subst hX
 obtain⟨p,rfl,k⟩:=h
 exact⟨_,A7 (B5 C9),k⟩
noncomputable abbrev sN6:Stmt:=(J1 (top 50) 0)
theorem G8s:B8 ["self"] ["self"] (A5 sN6):=scK
theorem G5m(F:Fun K "name" "HalfEven.name" sN6 f fd):C6 P w K mg base 1 f fd ["self"] (A3p "half even"):=by
 refine F.ok2 G8s (fun vs H Q E h=>?_) (fun X cdv A outer s H vs Q E hX hr hx h=>?_)
 . obtain⟨p,rfl,_⟩:=h
   rfl
 subst hX
 obtain⟨p,rfl,k⟩:=h
 exact⟨_,A7 (B5 C9),k⟩
noncomputable abbrev sN7:Stmt:=(J1 (top 51) 0)
theorem J0w:B8 ["self"] ["self"] (A5 sN7):=scK
theorem G4k(F:Fun K "name" "FiveUp.name" sN7 f fd):C6 P w K mg base 1 f fd ["self"] (A3p "five up"):=by
 refine F.ok2 J0w (fun vs H Q E h=>?_) (fun X cdv A outer s H vs Q E hX hr hx h=>?_)
 . obtain⟨p,rfl,_⟩:=h
   rfl
 subst hX
 obtain⟨p,rfl,k⟩:=h
 exact⟨_,A7 (B5 C9),k⟩
noncomputable def D9e (K:Frag) (H:Hp) (v:V):Prop:=∃t b,TyE K H v t/\kitOne K t (.type "str")=some b/\(b=false\/∃z,v= .str z/\∀y:Wy,z≠y.name)
theorem A4s{C:Addr}{σ:L2.St}{H:Hp}{Q:VK}(k:∀p dx H',H p=none ->B7 H H' ->H' p=some (.ins C dx []) ->Q (.ref p) H'):G2a C σ H Q:=fun x dx n1 n2 ne=>
 k x dx _ n1 ((B7.upd n2).trans (B7.upd (by rw[C7 (Ne.symm ne)];exact n1))) A6
noncomputable abbrev B1j:Stmt:=(top 52)
noncomputable def B5k (K:Frag) (CB:Addr) (cw:Wy ->Addr):Sp:=fun vs H Q E=>∃v,vs=[v]/\((∃y:Wy,v= .str y.name/\∀p dx H',H p=none ->B7 H H' ->H' p=some (.ins (cw y) dx []) ->Q (.ref p) H')\/(D9e K H v/\E (.ref CB) none H))
theorem D7h:B8 ["name"] ["name"] (A5 B1j):=scK
theorem C6k{f CB CW:Addr}{cw:Wy ->Addr}(D:Def K mg "way_of" ["name"] B1j f fd)(O:Own mg)(T:Kit K)(B:Err K mg "BadContext" CB)(W:∀y:Wy,A9c K mg y.cls (cw y) CW):
   C6 P w K mg base 1 f fd ["name"] (B5k K CB cw):=by
 refine D.F.ok2 D7h (fun vs H Q E h=>?_) (fun X cdv A outer s H vs Q E hX hr hx h=>?_)
 . obtain⟨v,rfl,_⟩:=h
   rfl
 subst hX
 obtain⟨v,rfl,h⟩:=h
 refine⟨_,(A3 (U2 (A2a (A0q (A8y O.isi (pv 0) (pty O.str_ boot_str)))) (A7 (A0z (by rfl) B.g B.q PySem.F.excBase_ValueError hx (A0 C9 A4))) D6) (A3 (U2 (C8 G4 (pv 0) C9 (B9 _)) (A7 (B5 (A4q (W .down).mk0 rfl (W .down).g))) D6) (A3 (U2 (C8 G4 (pv 0) C9 (B9 _)) (A7 (B5 (A4q (W .up).mk0 rfl (W .up).g))) D6) (A3 (U2 (C8 G4 (pv 0) C9 (B9 _)) (A7 (B5 (A4q (W .floor).mk0 rfl (W .floor).g))) D6) (A3 (U2 (C8 G4 (pv 0) C9 (B9 _)) (A7 (B5 (A4q (W .ceiling).mk0 rfl (W .ceiling).g))) D6) (A3 (U2 (C8 G4 (pv 0) C9 (B9 _)) (A7 (B5 (A4q (W .halfUp).mk0 rfl (W .halfUp).g))) D6) (A3 (U2 (C8 G4 (pv 0) C9 (B9 _)) (A7 (B5 (A4q (W .halfDown).mk0 rfl (W .halfDown).g))) D6) (A3 (U2 (C8 G4 (pv 0) C9 (B9 _)) (A7 (B5 (A4q (W .halfEven).mk0 rfl (W .halfEven).g))) D6) (A3 (U2 (C8 G4 (pv 0) C9 (B9 _)) (A7 (B5 (A4q (W .fiveUp).mk0 rfl (W .fiveUp).g))) D6) (A7 (A0z (by rfl) B.g B.q PySem.F.excBase_ValueError hx (A0 C9 A4)))))))))))),?_⟩
 have z1:1<=sizeLine:=D0 (by decide)
 rcases h with⟨y,rfl,k⟩|⟨⟨t,b,ty,kk,bad⟩,k⟩
 . refine⟨_,rfl,_,_,_,_,true,rfl,rfl,B6n _,T.str_str,_,rfl,V9 ?_⟩
   refine⟨_,rfl,rfl,_,rfl,U8 (fun e=>?_) (fun n0=>?_)⟩
   . have q:y= .down:=Wy.inj (V.str.inj (e:V.str y.name=V.str (Wy.name .down)))
     subst q
     exact A4s k
   refine⟨_,rfl,rfl,_,rfl,U8 (fun e=>?_) (fun n1=>?_)⟩
   . have q:y= .up:=Wy.inj (V.str.inj (e:V.str y.name=V.str (Wy.name .up)))
     subst q
     exact A4s k
   refine⟨_,rfl,rfl,_,rfl,U8 (fun e=>?_) (fun n2=>?_)⟩
   . have q:y= .floor:=Wy.inj (V.str.inj (e:V.str y.name=V.str (Wy.name .floor)))
     subst q
     exact A4s k
   refine⟨_,rfl,rfl,_,rfl,U8 (fun e=>?_) (fun n3=>?_)⟩
   . have q:y= .ceiling:=Wy.inj (V.str.inj (e:V.str y.name=V.str (Wy.name .ceiling)))
     subst q
     exact A4s k
   refine⟨_,rfl,rfl,_,rfl,U8 (fun e=>?_) (fun n4=>?_)⟩
   . have q:y= .halfUp:=Wy.inj (V.str.inj (e:V.str y.name=V.str (Wy.name .halfUp)))
     subst q
     exact A4s k
   refine⟨_,rfl,rfl,_,rfl,U8 (fun e=>?_) (fun n5=>?_)⟩
   . have q:y= .halfDown:=Wy.inj (V.str.inj (e:V.str y.name=V.str (Wy.name .halfDown)))
     subst q
     exact A4s k
   refine⟨_,rfl,rfl,_,rfl,U8 (fun e=>?_) (fun n6=>?_)⟩
   . have q:y= .halfEven:=Wy.inj (V.str.inj (e:V.str y.name=V.str (Wy.name .halfEven)))
     subst q
     exact A4s k
   refine⟨_,rfl,rfl,_,rfl,U8 (fun e=>?_) (fun n7=>?_)⟩
   . have q:y= .fiveUp:=Wy.inj (V.str.inj (e:V.str y.name=V.str (Wy.name .fiveUp)))
     subst q
     exact A4s k
   cases y with
   |down=>exact absurd rfl n0
   |up=>exact absurd rfl n1
   |floor=>exact absurd rfl n2
   |ceiling=>exact absurd rfl n3
   |halfUp=>exact absurd rfl n4
   |halfDown=>exact absurd rfl n5
   |halfEven=>exact absurd rfl n6
   |fiveUp=>exact absurd rfl n7
 refine⟨_,rfl,_,_,_,_,b,rfl,rfl,ty,kk,_,rfl,?_⟩
 cases b with
 |false=>exact Z7 ⟨z1,k⟩
 | true=>
   obtain⟨z,rfl,nz⟩:=bad.resolve_left (by decide)
   refine V9 ?_
   refine⟨_,rfl,rfl,_,rfl,U8 (fun e=>absurd (V.str.inj e) (nz .down)) (fun n0=>?_)⟩
   refine⟨_,rfl,rfl,_,rfl,U8 (fun e=>absurd (V.str.inj e) (nz .up)) (fun n1=>?_)⟩
   refine⟨_,rfl,rfl,_,rfl,U8 (fun e=>absurd (V.str.inj e) (nz .floor)) (fun n2=>?_)⟩
   refine⟨_,rfl,rfl,_,rfl,U8 (fun e=>absurd (V.str.inj e) (nz .ceiling)) (fun n3=>?_)⟩
   refine⟨_,rfl,rfl,_,rfl,U8 (fun e=>absurd (V.str.inj e) (nz .halfUp)) (fun n4=>?_)⟩
   refine⟨_,rfl,rfl,_,rfl,U8 (fun e=>absurd (V.str.inj e) (nz .halfDown)) (fun n5=>?_)⟩
   refine⟨_,rfl,rfl,_,rfl,U8 (fun e=>absurd (V.str.inj e) (nz .halfEven)) (fun n6=>?_)⟩
   refine⟨_,rfl,rfl,_,rfl,U8 (fun e=>absurd (V.str.inj e) (nz .fiveUp)) (fun n7=>?_)⟩
   exact⟨z1,k⟩
noncomputable def Y1:List Str:=["void","split","burst","sunk","faint","off","cut"]
noncomputable def B7z:List V:=Y1.map V.str
structure C5w(K:Frag)(mg:Str ->Option Value)(aS:Addr):Prop where
 g:mg "SIGNALS"=some (.ref aS)
 ty:∃o,K.lookup aS=some o/\o.cls= .type "tuple"
 sq:∀H,SqT K H aS B7z
noncomputable abbrev B0n:Stmt:=(top 57)
noncomputable def G9k (K:Frag) (H:Hp) (x:V):Prop:=∃t b,TyE K H x t/\kitOne K t (.type "str")=some b/\(b=false\/∃z,x= .str z/\z ∉ Y1)
noncomputable def B9z (K:Frag) (H:Hp) (v:V):Prop:=(∃t,TyE K H v t/\kitOne K t (.type "list")=some false)\/(∃(p:Addr) (zs:List Str) (x:V) (r:List V),v= .ref p/\H p=some (.lst (zs.map V.str++x::r))/\(∀z∈zs,z∈Y1)/\G9k K H x)
noncomputable def B4u (K:Frag) (CB:Addr):Sp:=fun vs H Q E=>∃v,vs=[v]/\((∃(p:Addr) (zs:List Str),v= .ref p/\H p=some (.lst (zs.map V.str))/\(∀z∈zs,z∈Y1)/\Q .non H)\/(B9z K H v/\E (.ref CB) none H))
theorem scNeedS:B8 ["names","name"] ["names"] (A5 B0n):=scK
theorem C8t{f CB aS:Addr}(D:Def K mg "need_signals" ["names"] B0n f fd)(O:Own mg)(T:Kit K)(B:Err K mg "BadContext" CB)(SG:C5w K mg aS):C6 P w K mg base 1 f fd ["names"] (B4u K CB):=by
 refine D.F.ok2 scNeedS (fun vs H Q E h=>?_) (fun X cdv A outer s H vs Q E hX hr hx h=>?_)
 . obtain⟨v,rfl,_⟩:=h
   rfl
 subst hX
 obtain⟨v,rfl,h⟩:=h
 refine⟨_,(A3 (U2 (A2a (A0q (A8y O.isi (pv 0) (pty O.list_ boot_list)))) (A7 (A0z (by rfl) B.g B.q PySem.F.excBase_ValueError hx (A0 C9 A4))) D6) (A7 (C1w PassesOwn.leaving hx.hd (B6v (pv 0)) (D4 (i:=1) scNeedS.nd rfl (Or.inl rfl)) (A7 (U2 (PW.pt (A6x (A2a (A0q (A8y O.isi (pv 1) (pty O.str_ boot_str)))) (B0m (C8 A6j (pv 1) (A7c SG.g) (by rfl))))) (A7 (A0z (by rfl) B.g B.q PySem.F.excBase_ValueError hx (A0 C9 A4))) D6))))),?_⟩
 have z1:1<=sizeLine:=D0 (by decide)
 rcases h with⟨p,zs,rfl,hp,hz,k⟩|⟨(⟨t,ty,kk⟩|⟨p,zs,x,r,rfl,hp,hz,t,b,ty,kk,bad⟩),k⟩
 . refine⟨_,rfl,_,_,_,_,true,rfl,rfl,C2k hp,T.list_list,_,rfl,V9 ?_⟩
   refine⟨_,rfl,p,rfl,⟨_,SqL.of hp⟩,A6d (xs:=zs.map V.str) (fun i σ H'=>H'=H/\∃v,σ=[sr p,v]) ⟨rfl,none,rfl⟩ ?_ ?_ ?_⟩
   . rintro i σ H' _ ⟨rfl,_⟩
     exact SqL.of hp
   . rintro i x σ H' hi ⟨rfl,v,rfl⟩
     obtain⟨z,hzm,rfl⟩:=List.mem_map.mp (List.mem_of_getElem? hi)
     refine⟨_,rfl,_,_,_,_,true,rfl,rfl,B6n _,T.str_str,_,rfl,V9 ?_⟩
     refine⟨_,rfl,aS,B7z,rfl,.inr (SG.sq _),rfl,A0u _,_,rfl,?_⟩
     have e:inV (.str z) B7z=true:=by
       show inV (.str z) (Y1.map V.str)=true
       rw[A1p]
       simpa using hz z hzm
     rw[e]
     exact V9 ⟨rfl,_,rfl⟩
   . rintro σ H' ⟨rfl,v,rfl⟩
     exact k
 . exact⟨_,rfl,_,_,_,_,false,rfl,rfl,ty,kk,_,rfl,Z7 ⟨z1,k⟩⟩
 refine⟨_,rfl,_,_,_,_,true,rfl,rfl,C2k hp,T.list_list,_,rfl,V9 ?_⟩
 refine⟨_,rfl,p,rfl,⟨_,SqL.of hp⟩,A6d (xs:=zs.map V.str++x::r) (fun i σ H'=>H'=H/\i<=zs.length/\∃v,σ=[sr p,v]) ⟨rfl,Nat.zero_le _,none,rfl⟩ ?_ ?_ ?_⟩
 . rintro i σ H' _ ⟨rfl,_⟩
   exact SqL.of hp
 . rintro i y σ H' hi ⟨rfl,hl,v,rfl⟩
   by_cases hlt:i<zs.length
   . rw[List.getElem?_append_left (by simpa using hlt)] at hi
     obtain⟨z,hzm,rfl⟩:=List.mem_map.mp (List.mem_of_getElem? hi)
     refine⟨_,rfl,_,_,_,_,true,rfl,rfl,B6n _,T.str_str,_,rfl,V9 ?_⟩
     refine⟨_,rfl,aS,B7z,rfl,.inr (SG.sq _),rfl,A0u _,_,rfl,?_⟩
     have e:inV (.str z) B7z=true:=by
       show inV (.str z) (Y1.map V.str)=true
       rw[A1p]
       simpa using hz z hzm
     rw[e]
     exact V9 ⟨rfl,by omega,_,rfl⟩
   . have e:i=zs.length:=by omega
     subst e
     rw[List.getElem?_append_right (by simp)] at hi
     simp at hi
     subst hi
     refine⟨_,rfl,_,_,_,_,b,rfl,rfl,ty,kk,_,rfl,?_⟩
     cases b with
     |false=>exact Z7 (Z7 ⟨z1,k⟩)
     | true=>
       obtain⟨z,rfl,nz⟩:=bad.resolve_left (by decide)
       refine V9 ⟨_,rfl,aS,B7z,rfl,.inr (SG.sq _),rfl,A0u _,_,rfl,?_⟩
       have e:inV (.str z) B7z=false:=by
         show inV (.str z) (Y1.map V.str)=false
         rw[A1p]
         simpa using nz
       rw[e]
       exact Z7 ⟨z1,k⟩
 rintro σ H' ⟨rfl,hl,_⟩
 exfalso
 rw[List.length_append,List.length_map,List.length_cons] at hl
 omega
noncomputable abbrev B0g:Stmt:=(top 58)
noncomputable def V6 (zs:List Str):List Str:=Y1.filter fun z=>zs.contains z
noncomputable def B4k (K:Frag):Sp:=fun vs H Q _=>∃(p:Addr) (zs:List Str),vs=[.ref p]/\SqL K H p (zs.map V.str)/\∀l H',B7 H H' ->H l=none ->H' l=some (.lst ((V6 zs).map V.str)) ->Q (.ref l) H'
theorem D6f:B8 ["names"] ["names"] (A5 B0g):=scK
theorem C7c{f aS:Addr}(D:Def K mg "in_order" ["names"] B0g f fd)(SG:C5w K mg aS):C6 P w K mg base 1 f fd ["names"] (B4k K):=by
 refine D.F.ok2 D6f (fun vs H Q E h=>?_) (fun X cdv A outer s H vs Q E hX hr hx h=>?_)
 . obtain⟨p,zs,rfl,_⟩:=h
   rfl
 subst hX
 obtain⟨p,zs,rfl,hp,k⟩:=h
 refine⟨_,(A7 (B5 (B7m (N:=["name"]) (F:=["names"]) (js:=[0]) (D5.of1 ⟨rfl,by decide+kernel,by decide+kernel,by decide+kernel,by decide+kernel⟩ (by rfl) (by rfl) ⟨_,by rfl⟩ (by rfl) (by rfl)) hx.hd (A9g (A7c SG.g)) rfl (fun C s₀ H₀ ex pn h=>D4 (i:=0) (by decide+kernel:(["name","names"]:List Str).Nodup) rfl (Or.inl rfl)) (fun C s₀ H₀ ex pn h=>(C8 (A5u (K:=K) rfl) (pv 0) (pv 1) (by rfl))) (fun C s₀ H₀ ex pn h=>(pv 0))))),?_⟩
 refine A6e (zs:=Y1) (f:=fun z=>zs.contains z) (σf:=[sr p]) SG.sq (by decide) (fun z H' Qb sm q=>?_) (fun z H' Qv q=>⟨_,rfl,q⟩) (fun D H' sm nd e=>k D H' sm nd e) rfl
 refine⟨_,rfl,_,rfl,p,_,rfl,.inl (sm.seq hp),rfl,A0u _,_,rfl,?_⟩
 show Qb (inV (.str z) (zs.map V.str)) H'
 rw[A1p]
 exact q
structure B2b(K:Frag)(mg:Str ->Option Value)(CC:Addr):Prop where
 g:mg "Context"=some (.ref CC)
 cl:Cls K CC
 n_room:A0a K CC "room"
 n_rule:A0a K CC "rule"
 n_least:A0a K CC "least"
 n_most:A0a K CC "most"
 n_risen:A0a K CC "risen"
 n_trapped:A0a K CC "trapped"
noncomputable def A1h (r s l m a b:V):List (Str×V):=Y5 "trapped" b (Y5 "risen" a (Y5 "most" m (Y5 "least" l (Y5 "rule" s (Y5 "room" r [])))))
theorem A1m(r s l m a b:V)(n:Str):(A1h r s l m a b).lookup n=if n="trapped" then some b else if n="risen" then some a else if n="most" then some m else if n="least" then some l else if n="rule" then some s else if n="room" then some r else none:=by
 unfold A1h
 rw[J0,J0,J0,J0,J0,J0]
 rfl
theorem A4r(r s l m a b:V):(A1h r s l m a b).lookup ("room":Str)=some r:=by rw[A1m,if_neg (by decide+kernel),if_neg (by decide+kernel),if_neg (by decide+kernel),if_neg (by decide+kernel),if_neg (by decide+kernel),if_pos rfl]
theorem C7b(r s l m a b:V):(A1h r s l m a b).lookup ("rule":Str)=some s:=by rw[A1m,if_neg (by decide+kernel),if_neg (by decide+kernel),if_neg (by decide+kernel),if_neg (by decide+kernel),if_pos rfl]
theorem B3a(r s l m a b:V):(A1h r s l m a b).lookup ("least":Str)=some l:=by rw[A1m,if_neg (by decide+kernel),if_neg (by decide+kernel),if_neg (by decide+kernel),if_pos rfl]
theorem B1k(r s l m a b:V):(A1h r s l m a b).lookup ("most":Str)=some m:=by rw[A1m,if_neg (by decide+kernel),if_neg (by decide+kernel),if_pos rfl]
theorem B3n(r s l m a b:V):(A1h r s l m a b).lookup ("risen":Str)=some a:=by rw[A1m,if_neg (by decide+kernel),if_pos rfl]
theorem B7b(r s l m a b:V):(A1h r s l m a b).lookup ("trapped":Str)=some b:=by rw[A1m,if_pos rfl]
theorem B0t(r s l m a b:V):(A1h r s l m a b).lookup ("way":Str)=none:=by rw[A1m,if_neg (by decide+kernel),if_neg (by decide+kernel),if_neg (by decide+kernel),if_neg (by decide+kernel),if_neg (by decide+kernel),if_neg (by decide+kernel)]
theorem A5n(r s l m a b:V):(A1h r s l m a b).lookup ("lowest":Str)=none:=by rw[A1m,if_neg (by decide+kernel),if_neg (by decide+kernel),if_neg (by decide+kernel),if_neg (by decide+kernel),if_neg (by decide+kernel),if_neg (by decide+kernel)]
theorem A6n(r s l m a b:V):(A1h r s l m a b).lookup ("flags":Str)=none:=by rw[A1m,if_neg (by decide+kernel),if_neg (by decide+kernel),if_neg (by decide+kernel),if_neg (by decide+kernel),if_neg (by decide+kernel),if_neg (by decide+kernel)]
theorem B4r(r s l m a b:V):(A1h r s l m a b).lookup ("clear":Str)=none:=by rw[A1m,if_neg (by decide+kernel),if_neg (by decide+kernel),if_neg (by decide+kernel),if_neg (by decide+kernel),if_neg (by decide+kernel),if_neg (by decide+kernel)]
theorem A2m(r s l m a b:V):(A1h r s l m a b).lookup ("trap":Str)=none:=by rw[A1m,if_neg (by decide+kernel),if_neg (by decide+kernel),if_neg (by decide+kernel),if_neg (by decide+kernel),if_neg (by decide+kernel),if_neg (by decide+kernel)]
theorem A2q(r s l m a b:V):(A1h r s l m a b).lookup ("raised":Str)=none:=by rw[A1m,if_neg (by decide+kernel),if_neg (by decide+kernel),if_neg (by decide+kernel),if_neg (by decide+kernel),if_neg (by decide+kernel),if_neg (by decide+kernel)]
structure A0d(CC:Addr)(H:Hp)(c:Addr)(r:Int)(y:Wy)(l m:Int)(a b:Addr)(xs ys:List V):Prop where
 ins:∃dx,H c=some (.ins CC dx (A1h (.int r) (.str y.name) (.int l) (.int m) (.ref a) (.ref b)))
 ha:H a=some (.lst xs)
 hb:H b=some (.lst ys)
theorem A0d.same{CC:Addr}{H H':Hp}{c:Addr}{r:Int}{y:Wy}{l m:Int}{a b:Addr}{xs ys:List V}(h:A0d CC H c r y l m a b xs ys)(e:B7 H H'):A0d CC H' c r y l m a b xs ys:=by
 obtain⟨⟨dx,z⟩,z1,z2⟩:=h
 exact⟨⟨dx,e _ _ z⟩,e _ _ z1,e _ _ z2⟩
noncomputable abbrev A0w:Stmt:=(J1 (top 55) 0)
noncomputable abbrev B4a:Stmt:=(J1 (top 55) 1)
noncomputable abbrev B5q:Stmt:=(J1 (top 55) 2)
noncomputable abbrev A7j:Stmt:=(J1 (top 55) 3)
noncomputable def B9s (l:Int) (v:V):Prop:=(v= .non/\l= -60)\/(v= .int l/\ -60<=l/\l<=0)
noncomputable def G1y (K:Frag) (S:Hp ->Prop) (v1 v2 v3 v4:V):Prop:=(∀H',S H' ->B2h K H' 1 24 v1)\/(A2y 1 24 v1/\((∀H',S H' ->D9e K H' v2)\/((∃y:Wy,v2= .str y.name)/\((v3≠ .non/\∀H',S H' ->B2h K H' (-60) 0 v3)\/((∃l,B9s l v3)/\∀H',S H' ->B2h K H' 0 60 v4)))))
theorem Exc.none{p a:Addr}{H H':Hp}{o:HO}(x:Exc p H H')(hp:H' p=some o)(n:H' a=none):H a=none:=by
 cases q:H a with
 |none=>rfl
 | some u=>
   have:=x a u q (fun e=>by rw[e,hp] at n;cases n)
   rw[n] at this
   cases this
noncomputable def A4y (K:Frag) (CC CB:Addr):Sp:=fun vs H Q E=>∃p dx v1 v2 v3 v4,vs=[.ref p,v1,v2,v3,v4]/\H p=some (.ins CC dx [])/\
 ((∃r y l m,v1= .int r/\1<=r/\r<=24/\v2= .str (Wy.name y)/\B9s l v3/\v4= .int m/\0<=m/\m<=60/\∀a b H',Exc p H H' ->H a=none ->H b=none ->A0d CC H' p r y l m a b [] [] ->Q .non H')\/
  (G1y K (Exc p H) v1 v2 v3 v4/\∀H',Exc p H H' ->E (.ref CB) none H'))
theorem C4n:B8 Q16 Q16 (A5 A0w):=scK
theorem C8f:A6k 1 24:=by unfold A6k;decide+kernel
theorem B9t:A6k (-60) 0:=by unfold A6k;decide+kernel
theorem D0b:A6k 0 60:=by unfold A6k;decide+kernel
theorem B8q{f fB fW CC CB CW:Addr}{dV:Value}{cw:Wy ->Addr}{fd fdB fdW:FuncData}(F:D0g K "__init__" "Context.__init__" A0w dV f fd)(dA:Def K mg "bounded" Q4 A6w fB fdB)(dC:Def K mg "way_of" ["name"] B1j fW fdW)
   (dB:C6 P w K mg base 2 fB fdB Q4 (B2r K CB)) (dD:C6 P w K mg base 1 fW fdW ["name"] (B5k K CB cw)) (C:B2b K mg CC)
   (W:∀y:Wy,A9c K mg y.cls (cw y) CW) (N:∀y:Wy,G6h P w K mg base (cw y) y.name):C6 P w K mg base 3 f fd Q16 (A4y K CC CB):=by
 refine F.ok2 C4n (fun vs H Q E h=>?_) (fun X cdv A outer s H vs Q E hX hr hx h=>?_)
 . obtain⟨p,dx,v1,v2,v3,v4,rfl,_⟩:=h
   rfl
 subst hX
 obtain⟨p,dx,v1,v2,v3,v4,rfl,hp,h⟩:=h
 obtain⟨y,hy⟩:∃y:Wy,∀z:Wy,v2= .str z.name ->z=y:=by
   by_cases q:∃z:Wy,v2= .str z.name
   . obtain⟨z,rfl⟩:=q
     exact⟨z,fun u e=>Wy.inj (V.str.inj e.symm)⟩
   . exact⟨.down,fun z e=>absurd ⟨z,e⟩ q⟩
 obtain⟨fN,fdN,mN,gN,bN⟩:=N y
 refine⟨_,(A3 (A0t (pv 0) (U1 dA dB hr hx (A0 (pv 1) (A0 A2 (A0 A2 A4)))) rfl) (A3 (A0t (pv 0) (A3t (U1 dC dD hr hx (A0 (pv 2) A4)) (W y).cl mN gN hr bN .nil hx) rfl) (A3 (B0 (A0t (pv 0) (A4f (C8 G0z (pv 3) C7z (B9 _)) (A2j A0x A2) (U1 dA dB hr hx (A0 (pv 3) (A0 (A2j A0x A2) (A0 A2 A4))))) rfl)) (A3 (A0t (pv 0) (U1 dA dB hr hx (A0 (pv 4) (A0 A2 (A0 A2 A4)))) rfl) (A3 (A0t (pv 0) (U5 A4) rfl) (A7 (A0t (pv 0) (U5 A4) rfl))))))),?_⟩
 have lz:∀(fs:List (Str×V)) (f:Str) (v:V) (n:Nat),fs.length<=n ->(Y5 f v fs).length<=n+1:=fun fs f v n h=>Nat.le_trans (A1g f v fs) (Nat.succ_le_succ h)
 have q0:(([]:List (Str×V))).length<=0:=Nat.le_refl _
 have z0:0<=sizeLine:=Nat.zero_le _
 rcases h with⟨r,y',l,m,rfl,r1,r2,rfl,hl,rfl,m1,m2,k⟩|⟨bad,k⟩
 . obtain rfl:=hy _ rfl
   refine⟨_,rfl,_,_,_,rfl,C8f,.inl ⟨⟨r,rfl,r1,r2⟩,?_⟩⟩
   refine⟨_,rfl,p,CC,dx,[],rfl,hp,C.cl,C.n_room,by show 0<1000;decide,?_⟩
   refine⟨_,rfl,_,rfl,.inl ⟨_,rfl,fun q dq H2 nq s2 eq=>⟨q,dq,[],rfl,eq,rfl,_,rfl,?_⟩⟩⟩
   have hp2:=s2 _ _ (A6 (H:=H) (a:=p) (o:= .ins CC dx (Y5 "room" (.int r) [])))
   have x2:Exc p H H2:=(Exc.upd (H:=H) (o:= .ins CC dx (Y5 "room" (.int r) []))).trans (.of s2)
   refine⟨_,rfl,p,CC,dx,_,rfl,hp2,C.cl,C.n_rule,Nat.lt_of_le_of_lt (lz _ _ _ 0 q0) (by decide),?_⟩
   let I_:L2.St ->L2.Hp ->Prop:=fun σ' H'=>σ'=[sr p,si r,sR y'.name,some v3,si m]/\Exc p H H'/\H' p=some (.ins CC dx (Y5 "least" (.int l) (Y5 "rule" (.str y'.name) (Y5 "room" (.int r) []))))
   refine⟨I_,?_,?_⟩
   . refine⟨_,rfl,rfl,_,rfl,?_⟩
     rcases hl with⟨rfl,rfl⟩|⟨rfl,l1,l2⟩
     . refine A0k rfl ⟨_,rfl,?_⟩
       exact⟨_,rfl,p,CC,dx,_,rfl,A6,C.cl,C.n_least,Nat.lt_of_le_of_lt (lz _ _ _ 1 (lz _ _ _ 0 q0)) (by decide),rfl,(x2.trans Exc.upd).trans Exc.upd,A6⟩
     . refine G5 (by intro z;cases z) ⟨_,rfl,_,rfl,_,_,_,rfl,B9t,.inl ⟨⟨l,rfl,l1,l2⟩,?_⟩⟩
       exact⟨_,rfl,p,CC,dx,_,rfl,A6,C.cl,C.n_least,Nat.lt_of_le_of_lt (lz _ _ _ 1 (lz _ _ _ 0 q0)) (by decide),rfl,(x2.trans Exc.upd).trans Exc.upd,A6⟩
   refine L2.hideG fun Z_ z_=>?_
   rintro σ' H4 ⟨rfl,x4,hp4⟩
   subst z_
   clear I_
   refine⟨_,rfl,_,_,_,rfl,D0b,.inl ⟨⟨m,rfl,m1,m2⟩,?_⟩⟩
   refine⟨_,rfl,p,CC,dx,_,rfl,hp4,C.cl,C.n_most,Nat.lt_of_le_of_lt (lz _ _ _ 2 (lz _ _ _ 1 (lz _ _ _ 0 q0))) (by decide),?_⟩
   refine⟨z0,fun a na=>?_⟩
   refine⟨_,rfl,p,CC,dx,_,rfl,B7.upd na _ _ A6,C.cl,C.n_risen,Nat.lt_of_le_of_lt (lz _ _ _ 3 (lz _ _ _ 2 (lz _ _ _ 1 (lz _ _ _ 0 q0)))) (by decide),?_⟩
   refine⟨z0,fun b nb=>?_⟩
   refine⟨_,rfl,p,CC,dx,_,rfl,B7.upd nb _ _ A6,C.cl,C.n_trapped,Nat.lt_of_le_of_lt (lz _ _ _ 4 (lz _ _ _ 3 (lz _ _ _ 2 (lz _ _ _ 1 (lz _ _ _ 0 q0))))) (by decide),?_⟩
   have x5:=x4.trans (Exc.upd (H:=H4) (o:= .ins CC dx (Y5 "most" (.int m) (Y5 "least" (.int l) (Y5 "rule" (.str y'.name) (Y5 "room" (.int r) []))))))
   have nap:a≠p:=fun e=>by rw[e,A6] at na;cases na
   have nbp:b≠p:=fun e=>by rw[e,A6] at nb;cases nb
   have x6:=(x5.trans (.of (B7.upd (o:= .lst []) na))).trans (Exc.upd (o:= .ins CC dx (Y5 "risen" (.ref a) (Y5 "most" (.int m) (Y5 "least" (.int l) (Y5 "rule" (.str y'.name) (Y5 "room" (.int r) [])))))))
   have x7:=(x6.trans (.of (B7.upd (o:= .lst []) nb))).trans (Exc.upd (o:= .ins CC dx (A1h (.int r) (.str y'.name) (.int l) (.int m) (.ref a) (.ref b))))
   refine k a b _ x7 (x5.none A6 na) (x6.none A6 nb) ⟨⟨dx,A6⟩,?_,?_⟩
   . rw[C7 nap]
     refine B7.upd nb _ _ ?_
     rw[C7 nap]
     exact A6
   . rw[C7 nbp]
     exact A6
 rcases bad with b1|⟨⟨r,rfl,r1,r2⟩,bad⟩
 . exact⟨_,rfl,_,_,_,rfl,C8f,.inr ⟨b1 _ (Exc.refl p H),k _ (Exc.refl p H)⟩⟩
 refine⟨_,rfl,_,_,_,rfl,C8f,.inl ⟨⟨r,rfl,r1,r2⟩,?_⟩⟩
 refine⟨_,rfl,p,CC,dx,[],rfl,hp,C.cl,C.n_room,by show 0<1000;decide,?_⟩
 have x1:Exc p H (upd H p (.ins CC dx (Y5 "room" (.int r) []))):=Exc.upd
 rcases bad with b2|⟨⟨y',rfl⟩,bad⟩
 . exact⟨_,rfl,_,rfl,.inr ⟨b2 _ x1,k _ x1⟩⟩
 obtain rfl:=hy _ rfl
 refine⟨_,rfl,_,rfl,.inl ⟨_,rfl,fun q dq H2 nq s2 eq=>⟨q,dq,[],rfl,eq,rfl,_,rfl,?_⟩⟩⟩
 have hp2:=s2 _ _ (A6 (H:=H) (a:=p) (o:= .ins CC dx (Y5 "room" (.int r) [])))
 have x2:Exc p H H2:=x1.trans (.of s2)
 refine⟨_,rfl,p,CC,dx,_,rfl,hp2,C.cl,C.n_rule,Nat.lt_of_le_of_lt (lz _ _ _ 0 q0) (by decide),?_⟩
 rcases bad with⟨n3,b3⟩|⟨⟨l,hl⟩,b4⟩
 . refine⟨fun _ _=>False,?_,fun _ _ z=>z.elim⟩
   refine⟨_,rfl,rfl,_,rfl,G5 n3 ?_⟩
   exact⟨_,rfl,_,rfl,_,_,_,rfl,B9t,.inr ⟨b3 _ (x2.trans Exc.upd),k _ (x2.trans Exc.upd)⟩⟩
 let I_:L2.St ->L2.Hp ->Prop:=fun σ' H'=>σ'=[sr p,si r,sR y'.name,some v3,some v4]/\Exc p H H'
 refine⟨I_,?_,?_⟩
 . refine⟨_,rfl,rfl,_,rfl,?_⟩
   rcases hl with⟨rfl,rfl⟩|⟨rfl,l1,l2⟩
   . refine A0k rfl ⟨_,rfl,?_⟩
     exact⟨_,rfl,p,CC,dx,_,rfl,A6,C.cl,C.n_least,Nat.lt_of_le_of_lt (lz _ _ _ 1 (lz _ _ _ 0 q0)) (by decide),rfl,(x2.trans Exc.upd).trans Exc.upd⟩
   . refine G5 (by intro z;cases z) ⟨_,rfl,_,rfl,_,_,_,rfl,B9t,.inl ⟨⟨l,rfl,l1,l2⟩,?_⟩⟩
     exact⟨_,rfl,p,CC,dx,_,rfl,A6,C.cl,C.n_least,Nat.lt_of_le_of_lt (lz _ _ _ 1 (lz _ _ _ 0 q0)) (by decide),rfl,(x2.trans Exc.upd).trans Exc.upd⟩
 rintro σ' H4 ⟨rfl,x4⟩
 clear I_
 exact⟨_,rfl,_,_,_,rfl,D0b,.inr ⟨b4 _ x4,k _ x4⟩⟩
noncomputable def B0q (CC:Addr) (cw:Wy ->Addr):Sp:=fun vs H Q _=>∃c r y l m a b xs ys,vs=[.ref c]/\A0d CC H c r y l m a b xs ys/\∀p dx H',H p=none ->B7 H H' ->H' p=some (.ins (cw y) dx []) ->Q (.ref p) H'
theorem C6b:B8 ["self"] ["self"] (A5 B4a):=scK
theorem C5m{f fW CC CB:Addr}{cw:Wy ->Addr}{fd fdW:FuncData}(F:Fun K "way" "Context.way" B4a f fd)(dA:Def K mg "way_of" ["name"] B1j fW fdW)(dB:C6 P w K mg base 1 fW fdW ["name"] (B5k K CB cw))(C:B2b K mg CC):
   C6 P w K mg base 2 f fd ["self"] (B0q CC cw):=by
 refine F.ok2 C6b (fun vs H Q E h=>?_) (fun X cdv A outer s H vs Q E hX hr hx h=>?_)
 . obtain⟨c,r,y,l,m,a,b,xs,ys,rfl,_⟩:=h
   rfl
 subst hX
 obtain⟨c,r,y,l,m,a,b,xs,ys,rfl,⟨⟨dx,e⟩,_,_⟩,k⟩:=h
 refine⟨_,(A7 (B5 (U1 dA dB hr hx (A0 (U7 (pv 0) rfl) A4)))),?_⟩
 exact⟨_,rfl,c,CC,dx,_,_,rfl,e,C.cl,C.n_rule,C7b _ _ _ _ _ _,_,rfl,.inl ⟨y,rfl,k⟩⟩
noncomputable def B1h (CC:Addr):Sp:=fun vs H Q _=>∃c r y l m a b xs ys,vs=[.ref c]/\A0d CC H c r y l m a b xs ys/\Q (.int (l-r+1)) H
theorem C9x:B8 ["self"] ["self"] (A5 B5q):=scK
theorem C3m{f CC:Addr}(F:Fun K "lowest" "Context.lowest" B5q f fd)(C:B2b K mg CC):C6 P w K mg base 1 f fd ["self"] (B1h CC):=by
 refine F.ok2 C9x (fun vs H Q E h=>?_) (fun X cdv A outer s H vs Q E hX hr hx h=>?_)
 . obtain⟨c,r,y,l,m,a,b,xs,ys,rfl,_⟩:=h
   rfl
 subst hX
 obtain⟨c,r,y,l,m,a,b,xs,ys,rfl,⟨⟨dx,e⟩,_,_⟩,k⟩:=h
 refine⟨_,(A7 (B5 (A9 G9 (A9 Y4 (U7 (pv 0) rfl) (U7 (pv 0) rfl)) A2))),?_⟩
 exact⟨_,rfl,c,CC,dx,_,_,rfl,e,C.cl,C.n_least,B3a _ _ _ _ _ _,_,rfl,c,CC,dx,_,_,rfl,e,C.cl,C.n_room,A4r _ _ _ _ _ _,_,_,rfl,rfl,_,_,rfl,rfl,k⟩
noncomputable def A3r (CC:Addr):Sp:=fun vs H Q _=>∃c r y l m a b xs ys,vs=[.ref c]/\A0d CC H c r y l m a b xs ys/\∀p,H p=none ->Q (.ref p) (upd H p (.lst xs))
theorem C0a:B8 ["self"] ["self"] (A5 A7j):=scK
theorem B6h{f CC:Addr}(F:Fun K "flags" "Context.flags" A7j f fd)(C:B2b K mg CC)(O:Own mg):C6 P w K mg base 1 f fd ["self"] (A3r CC):=by
 refine F.ok2 C0a (fun vs H Q E h=>?_) (fun X cdv A outer s H vs Q E hX hr hx h=>?_)
 . obtain⟨c,r,y,l,m,a,b,xs,ys,rfl,_⟩:=h
   rfl
 subst hX
 obtain⟨c,r,y,l,m,a,b,xs,ys,rfl,⟨⟨dx,e⟩,ha,_⟩,k⟩:=h
 refine⟨_,(A7 (B5 (V2 A3m (by rfl) O.list_ boot_list (A0 (U7 (pv 0) rfl) A4)))),?_⟩
 exact⟨_,rfl,c,CC,dx,_,_,rfl,e,C.cl,C.n_risen,B3n _ _ _ _ _ _,a,xs,rfl,.inl (SqL.of ha),k⟩
structure G7h(P:Program)(w:World)(K:Frag)(mg:Str ->Option Value)(base:Heap)(CC CB fI:Addr)(fdI:FuncData):Prop where
 m:Mk K CC fI
 g:C6 P w K mg base 3 fI fdI Q16 (A4y K CC CB)
theorem D5s{C x dx:Addr}{H H':Hp}(n1:H x=none)(n2:H dx=none)(ne:dx≠x)(e:Exc x (upd (upd H dx (.own x)) x (.ins C dx [])) H'):B7 H H':=fun b o h=>
 e b o (by rw[C7 (D9 h n1),C7 (D9 h n2)];exact h) (D9 h n1)
noncomputable abbrev B0w:Stmt:=(J1 (top 55) 5)
noncomputable abbrev A5s:Stmt:=(J1 (top 55) 7)
theorem B1b(r s l m a b:V):(A1h r s l m a b).length=6:=rfl
theorem B4h(r s l m a b v:V):Y5 "trapped" v (A1h r s l m a b)=A1h r s l m a v:=rfl
theorem B1x(r s l m a b v:V):Y5 "risen" v (A1h r s l m a b)=A1h r s l m v b:=rfl
noncomputable def B5m (K:Frag) (CC CB:Addr):Sp:=fun vs H Q E=>∃c r y l m a b xs ys v,vs=[.ref c,v]/\A0d CC H c r y l m a b xs ys/\
 ((∃(p:Addr) (zs:List Str),v= .ref p/\H p=some (.lst (zs.map V.str))/\(∀z∈zs,z∈Y1)/\∀b' H',Exc c H H' ->H b'=none ->A0d CC H' c r y l m a b' xs ((V6 zs).map V.str) ->Q .non H')\/(B9z K H v/\E (.ref CB) none H))
theorem G1s:B8 Q9 Q9 (A5 B0w):=scK
theorem D5d{f f1 f2 CC CB:Addr}(F:Fun K "trap" "Context.trap" B0w f fd)(dA:Def K mg "need_signals" ["names"] B0n f1 fd1)(dB:C6 P w K mg base 1 f1 fd1 ["names"] (B4u K CB))
   (dC:Def K mg "in_order" ["names"] B0g f2 fd2) (dD:C6 P w K mg base 1 f2 fd2 ["names"] (B4k K)) (C:B2b K mg CC):C6 P w K mg base 2 f fd Q9 (B5m K CC CB):=by
 refine F.ok2 G1s (fun vs H Q E h=>?_) (fun X cdv A outer s H vs Q E hX hr hx h=>?_)
 . obtain⟨c,r,y,l,m,a,b,xs,ys,v,rfl,_⟩:=h
   rfl
 subst hX
 obtain⟨c,r,y,l,m,a,b,xs,ys,v,rfl,⟨⟨dx,e⟩,ha,hb⟩,h⟩:=h
 refine⟨_,(A3 (Y8 (U1 dA dB hr hx (A0 (pv 1) A4))) (A7 (A0t (pv 0) (U1 dC dD hr hx (A0 (pv 1) A4)) rfl))),?_⟩
 rcases h with⟨p,zs,rfl,hp,hz,k⟩|⟨bad,k⟩
 . refine⟨_,rfl,_,rfl,.inl ⟨p,zs,rfl,hp,hz,?_⟩⟩
   refine⟨_,rfl,p,zs,rfl,SqL.of hp,fun b' H1 s1 n1 e1=>?_⟩
   refine⟨_,rfl,c,CC,dx,_,rfl,s1 _ _ e,C.cl,C.n_trapped,by rw[B1b];decide,?_⟩
   rw[B4h]
   have nac:a≠c:=U4 ha e (by intro z;cases z)
   have nbc:b'≠c:=U4 e1 (s1 _ _ e) (by intro z;cases z)
   exact k b' _ ((Exc.of s1).trans Exc.upd) n1 ⟨⟨dx,A6⟩,by rw[C7 nac];exact s1 _ _ ha,by rw[C7 nbc];exact e1⟩
 exact⟨_,rfl,_,rfl,.inr ⟨bad,k⟩⟩
noncomputable def hit (ys zs:List Str):Option Str:=ys.find? fun t=>zs.contains t
noncomputable def B1c (K:Frag) (CC CB CT:Addr):Sp:=fun vs H Q E=>∃c r y l m a b,∃(xs ys:List Str) (v:V),vs=[.ref c,v]/\A0d CC H c r y l m a b (xs.map V.str) (ys.map V.str)/\xs.length+100<=1000/\
 ((∃ (p:Addr) (zs:List Str),v= .ref p/\H p=some (.lst (zs.map V.str))/\zs.length<=100/\(∀z∈zs,z∈Y1)/\
     (hit ys zs=none ->∀a' H',Exc c H H' ->H a'=none ->A0d CC H' c r y l m a' b ((V6 (xs++zs)).map V.str) (ys.map V.str) ->Q .non H')/\
     (∀t,hit ys zs=some t ->∀a' d H',Exc c H H' ->H a'=none ->A0d CC H' c r y l m a' b ((V6 (xs++zs)).map V.str) (ys.map V.str) ->H d=none ->H' d=some (.xd [("signal",.str t)]) ->E (.ref CT) (some d) H'))\/
  (B9z K H v/\E (.ref CB) none H))
theorem scRaised:B8 ["self","names","name"] Q9 (A5 A5s):=scK
theorem C3e{f f1 f2 fX CC CB CT:Addr}{fd fd1 fd2 fdX:FuncData}(F:Fun K "raised" "Context.raised" A5s f fd)(dA:Def K mg "need_signals" ["names"] B0n f1 fd1)(dB:C6 P w K mg base 1 f1 fd1 ["names"] (B4u K CB))
   (dC:Def K mg "in_order" ["names"] B0g f2 fd2) (dD:C6 P w K mg base 1 f2 fd2 ["names"] (B4k K)) (C:B2b K mg CC)
   (gT:mg "Trapped"=some (.ref CT)) (XI:C0p K CT fX) (GX:G8 P w K mg base CX0 1 fX fdX Q31 (B0r CT "signal")) (BX:V4 K fdX Q31 []):C6 P w K mg base 3 f fd Q9 (B1c K CC CB CT):=by
 refine F.ok2 scRaised (fun vs H Q E h=>?_) (fun X cdv A outer s H vs Q E hX hr hx h=>?_)
 . obtain⟨c,r,y,l,m,a,b,xs,ys,v,rfl,_⟩:=h
   rfl
 subst hX
 obtain⟨c,r,y,l,m,a,b,xs,ys,v,rfl,⟨⟨dx,e⟩,ha,hb⟩,lx,h⟩:=h
 refine⟨_,(A3 (Y8 (U1 dA dB hr hx (A0 (pv 1) A4))) (A3 (A0t (pv 0) (U1 dC dD hr hx (A0 (A9 B1g (U7 (pv 0) rfl) (pv 1)) A4)) rfl) (A7 (C1w PassesOwn.leaving hx.hd (B6v (U7 (pv 0) rfl)) (D4 (i:=2) scRaised.nd rfl (Or.inl rfl)) (A7 (U2 (C8 A7u (pv 2) (pv 1) (by rfl)) (A7 (B9c gT XI GX BX hr hx (A0 (pv 2) A4))) D6)))))),?_⟩
 rcases h with⟨p,zs,rfl,hp,lz,hz,k1,k2⟩|⟨bad,k⟩
 . refine⟨_,rfl,_,rfl,.inl ⟨p,zs,rfl,hp,hz,?_⟩⟩
   refine⟨_,rfl,c,CC,dx,_,_,rfl,e,C.cl,C.n_risen,B3n _ _ _ _ _ _,_,rfl,a,p,_,_,rfl,rfl,ha,hp,D0 (by rw[List.length_map,List.length_map];omega),fun q nq=>?_⟩
   have u1:=B7.upd (o:= .lst (xs.map V.str++zs.map V.str)) nq
   refine⟨q,xs++zs,rfl,SqL.of (by rw[A6,List.map_append]),fun a' H1 s1 n1 e1=>?_⟩
   have s2:=u1.trans s1
   refine⟨_,rfl,c,CC,dx,_,rfl,s2 _ _ e,C.cl,C.n_risen,by rw[B1b];decide,?_⟩
   rw[B1x]
   have nbc:b≠c:=U4 hb e (by intro z;cases z)
   have npc:p≠c:=U4 hp e (by intro z;cases z)
   have nac:a'≠c:=U4 e1 (s2 _ _ e) (by intro z;cases z)
   have x2:Exc c H (upd H1 c (.ins CC dx (A1h (.int r) (.str y.name) (.int l) (.int m) (.ref a') (.ref b)))):=(Exc.of s2).trans Exc.upd
   have hb2:(upd H1 c (.ins CC dx (A1h (.int r) (.str y.name) (.int l) (.int m) (.ref a') (.ref b)))) b=some (.lst (ys.map V.str)):=by rw[C7 nbc];exact s2 _ _ hb
   have hp2:(upd H1 c (.ins CC dx (A1h (.int r) (.str y.name) (.int l) (.int m) (.ref a') (.ref b)))) p=some (.lst (zs.map V.str)):=by rw[C7 npc];exact s2 _ _ hp
   have ct:A0d CC (upd H1 c (.ins CC dx (A1h (.int r) (.str y.name) (.int l) (.int m) (.ref a') (.ref b)))) c r y l m a' b ((V6 (xs++zs)).map V.str) (ys.map V.str):=⟨⟨dx,A6⟩,by rw[C7 nac];exact e1,hb2⟩
   refine⟨_,rfl,c,CC,dx,_,_,rfl,A6,C.cl,C.n_trapped,B7b _ _ _ _ _ _,b,rfl,⟨_,SqL.of hb2⟩,?_⟩
   generalize upd H1 c (.ins CC dx (A1h (.int r) (.str y.name) (.int l) (.int m) (.ref a') (.ref b)))=H3 at x2 hb2 hp2 ct ⊢
   refine A6d (xs:=ys.map V.str) (fun i σ H'=>H'=H3/\(∀t∈ys.take i,zs.contains t=false)/\∃v,σ=[sr c,sr p,v]) ⟨rfl,by simp,none,rfl⟩ ?_ ?_ ?_
   . rintro i σ H' _ ⟨rfl,_⟩
     exact SqL.of hb2
   . rintro i x σ H' hi ⟨rfl,ht,v,rfl⟩
     rw[List.getElem?_map] at hi
     obtain⟨t,hti,rfl⟩:=Option.map_eq_some_iff.mp hi
     refine⟨_,rfl,_,rfl,p,_,rfl,.inl (SqL.of hp2),rfl,A0u _,_,rfl,?_⟩
     have hlt:i<ys.length:=(List.getElem?_eq_some_iff.mp hti).1
     have et:ys.take (i+1)=ys.take i++ [t]:=by
       rw[List.take_succ_eq_append_getElem hlt,(List.getElem?_eq_some_iff.mp hti).2]
     cases hc:zs.contains t with
     | false=>
       rw[show(if false=true then !inV (V.str t) (zs.map V.str) else inV (V.str t) (zs.map V.str))=false by rw[if_neg Bool.false_ne_true,A1p,hc]]
       refine V9 ⟨rfl,fun t' h'=>?_,_,rfl⟩
       rw[et] at h'
       rcases List.mem_append.mp h' with h'|h'
       . exact ht t' h'
       . rw[List.mem_singleton.mp h'];exact hc
     | true=>
       rw[show(if false=true then !inV (V.str t) (zs.map V.str) else inV (V.str t) (zs.map V.str))=true by rw[if_neg Bool.false_ne_true,A1p,hc]]
       obtain⟨dx',hc3⟩:=ct.ins
       refine Z7 ⟨_,rfl,_,rfl,fun d H4 s4 nd e4=>?_⟩
       refine k2 t ?_ a' d H4 (x2.trans (.of s4)) ((u1.free n1)) (ct.same s4) (x2.none hc3 nd) e4
       unfold hit
       rw[List.find?_eq_some_iff_append]
       refine⟨hc,ys.take i,ys.drop (i+1),?_,fun t' h'=>by rw[ht t' h'];rfl⟩
       have:=List.take_append_drop (i+1) ys
       rw[et] at this
       rw[List.append_assoc] at this
       exact this.symm
   . rintro σ H' ⟨rfl,ht,v,rfl⟩
     refine k1 ?_ a' _ x2 (u1.free n1) ct
     unfold hit
     rw[List.find?_eq_none]
     rw[List.length_map,List.take_length] at ht
     intro t hm
     rw[ht t hm]
     exact Bool.false_ne_true
 exact⟨_,rfl,_,rfl,.inr ⟨bad,k⟩⟩
noncomputable abbrev A5a:Stmt:=(J1 (top 16) 0)
theorem C9b:B8 Q31 Q31 (A5 A5a):=scK
theorem C5k{f CT fI:Addr}(F:Fun K "__init__" "Trapped.__init__" A5a f fd)(XI:C0p K CT fI)(hn:findIn K (.ref CT) "signal"=some none):G8 P w K mg base CX0 1 f fd Q31 (B0r CT "signal"):=by
 refine F.ok C9b (fun vs H Q E h=>?_) (fun cdv A outer s H vs Q E hr h=>?_)
 . obtain⟨e,t,v,rfl,_⟩:=h
   rfl
 obtain⟨e,t,v,rfl,he,k⟩:=h
 refine⟨_,(A7 (D7y XI hn (pv 0) (pv 1) rfl)),?_⟩
 exact⟨_,rfl,_,rfl,e,t,rfl,he,fun d nd ne=>k d nd ne⟩
noncomputable def Wy.goes (y:Wy) (s last part:Int):Bool:=match y with
 | .down=>false
 | .up=>true
 | .floor=>decide (V.int s=V.int 1)
 | .ceiling=>decide (V.int s=V.int 0)
 | .halfUp=>decide (part>=2)
 | .halfDown=>decide (V.int part=V.int 3)
 | .halfEven=>if decide (V.int part=V.int 3)=true then true else if decide (V.int part=V.int 2)=true then decide (V.int (last % 2)=V.int 1) else false
 | .fiveUp=>inV (.int last) [.int 0,.int 5]
noncomputable def Wy.toEnd (y:Wy) (s:Int):Bool:=match y with
 | .down=>false
 | .up=>true
 | .floor=>decide (V.int s=V.int 1)
 | .ceiling=>decide (V.int s=V.int 0)
 | .halfUp=>true
 | .halfDown=>true
 | .halfEven=>true
 | .fiveUp=>false
noncomputable def A3k (y:Wy):Sp:=fun vs H Q _=>∃p s l t,vs=[.ref p,.int s,.int l,.int t]/\∀H',B7 H H' ->Q (.bl (y.goes s l t)) H'
noncomputable def A1q (y:Wy):Sp:=fun vs H Q _=>∃p s,vs=[.ref p,.int s]/\∀H',B7 H H' ->Q (.bl (y.toEnd s)) H'
noncomputable def G6s (P:Program) (w:World) (K:Frag) (mg:Str ->Option Value) (base:Heap) (C:Addr) (y:Wy):Prop:=A6y P w K mg base C "goes_up" 1 Q0 (A3k y)
noncomputable def G6f (P:Program) (w:World) (K:Frag) (mg:Str ->Option Value) (base:Heap) (C:Addr) (y:Wy):Prop:=A6y P w K mg base C "to_end" 1 Q3 (A1q y)
noncomputable abbrev sU0:Stmt:=(J1 (top 44) 1)
theorem J0a:B8 Q0 Q0 (A5 sU0):=scK
theorem G5h(F:Fun K "goes_up" "Down.goes_up" sU0 f fd):C6 P w K mg base 1 f fd Q0 (A3k .down):=by
 refine F.ok2 J0a (fun vs H Q E h=>?_) (fun X cdv A outer s H vs Q E hX hr hx h=>?_)
 . obtain⟨p,z,l,t,rfl,_⟩:=h
   rfl
 subst hX
 obtain⟨p,z,l,t,rfl,k⟩:=h
 refine⟨_,(A7 (B5 A1f)),?_⟩
 exact k H (B7.refl H)
noncomputable abbrev sT0:Stmt:=(J1 (top 44) 2)
theorem J0v:B8 Q3 Q3 (A5 sT0):=scK
theorem G5u(F:Fun K "to_end" "Down.to_end" sT0 f fd):C6 P w K mg base 1 f fd Q3 (A1q .down):=by
 refine F.ok2 J0v (fun vs H Q E h=>?_) (fun X cdv A outer s H vs Q E hX hr hx h=>?_)
 . obtain⟨p,z,rfl,_⟩:=h
   rfl
 subst hX
 obtain⟨p,z,rfl,k⟩:=h
 refine⟨_,(A7 (B5 A1f)),?_⟩
 exact k H (B7.refl H)
noncomputable abbrev sU1:Stmt:=(J1 (top 45) 1)
theorem G8u:B8 Q0 Q0 (A5 sU1):=scK
theorem G5s(F:Fun K "goes_up" "Up.goes_up" sU1 f fd):C6 P w K mg base 1 f fd Q0 (A3k .up):=by
 refine F.ok2 G8u (fun vs H Q E h=>?_) (fun X cdv A outer s H vs Q E hX hr hx h=>?_)
 . obtain⟨p,z,l,t,rfl,_⟩:=h
   rfl
 subst hX
 obtain⟨p,z,l,t,rfl,k⟩:=h
 refine⟨_,(A7 (B5 A1f)),?_⟩
 exact k H (B7.refl H)
noncomputable abbrev sT1:Stmt:=(J1 (top 45) 2)
theorem G9s:B8 Q3 Q3 (A5 sT1):=scK
theorem G4n(F:Fun K "to_end" "Up.to_end" sT1 f fd):C6 P w K mg base 1 f fd Q3 (A1q .up):=by
 refine F.ok2 G9s (fun vs H Q E h=>?_) (fun X cdv A outer s H vs Q E hX hr hx h=>?_)
 . obtain⟨p,z,rfl,_⟩:=h
   rfl
 subst hX
 obtain⟨p,z,rfl,k⟩:=h
 refine⟨_,(A7 (B5 A1f)),?_⟩
 exact k H (B7.refl H)
noncomputable abbrev sU2:Stmt:=(J1 (top 46) 1)
theorem G9w:B8 Q0 Q0 (A5 sU2):=scK
theorem G4j(F:Fun K "goes_up" "Floor.goes_up" sU2 f fd):C6 P w K mg base 1 f fd Q0 (A3k .floor):=by
 refine F.ok2 G9w (fun vs H Q E h=>?_) (fun X cdv A outer s H vs Q E hX hr hx h=>?_)
 . obtain⟨p,z,l,t,rfl,_⟩:=h
   rfl
 subst hX
 obtain⟨p,z,l,t,rfl,k⟩:=h
 refine⟨_,(A7 (B5 (G6 G4 (pv 1) A2 (B9 _)))),?_⟩
 exact⟨_,rfl,rfl,k H (B7.refl H)⟩
noncomputable abbrev sT2:Stmt:=(J1 (top 46) 2)
theorem G9t:B8 Q3 Q3 (A5 sT2):=scK
theorem G5w(F:Fun K "to_end" "Floor.to_end" sT2 f fd):C6 P w K mg base 1 f fd Q3 (A1q .floor):=by
 refine F.ok2 G9t (fun vs H Q E h=>?_) (fun X cdv A outer s H vs Q E hX hr hx h=>?_)
 . obtain⟨p,z,rfl,_⟩:=h
   rfl
 subst hX
 obtain⟨p,z,rfl,k⟩:=h
 refine⟨_,(A7 (B5 (G6 G4 (pv 1) A2 (B9 _)))),?_⟩
 exact⟨_,rfl,rfl,k H (B7.refl H)⟩
noncomputable abbrev sU3:Stmt:=(J1 (top 47) 1)
theorem G9m:B8 Q0 Q0 (A5 sU3):=scK
theorem G5j(F:Fun K "goes_up" "Ceiling.goes_up" sU3 f fd):C6 P w K mg base 1 f fd Q0 (A3k .ceiling):=by
 refine F.ok2 G9m (fun vs H Q E h=>?_) (fun X cdv A outer s H vs Q E hX hr hx h=>?_)
 . obtain⟨p,z,l,t,rfl,_⟩:=h
   rfl
 subst hX
 obtain⟨p,z,l,t,rfl,k⟩:=h
 refine⟨_,(A7 (B5 (G6 G4 (pv 1) A2 (B9 _)))),?_⟩
 exact⟨_,rfl,rfl,k H (B7.refl H)⟩
noncomputable abbrev sT3:Stmt:=(J1 (top 47) 2)
theorem G9v:B8 Q3 Q3 (A5 sT3):=scK
theorem G6y(F:Fun K "to_end" "Ceiling.to_end" sT3 f fd):C6 P w K mg base 1 f fd Q3 (A1q .ceiling):=by
 refine F.ok2 G9v (fun vs H Q E h=>?_) (fun X cdv A outer s H vs Q E hX hr hx h=>?_)
 . obtain⟨p,z,rfl,_⟩:=h
   rfl
 subst hX
 obtain⟨p,z,rfl,k⟩:=h
 refine⟨_,(A7 (B5 (G6 G4 (pv 1) A2 (B9 _)))),?_⟩
 exact⟨_,rfl,rfl,k H (B7.refl H)⟩
noncomputable abbrev sU4:Stmt:=(J1 (top 48) 1)
theorem G9a:B8 Q0 Q0 (A5 sU4):=scK
theorem G6e(F:Fun K "goes_up" "HalfUp.goes_up" sU4 f fd):C6 P w K mg base 1 f fd Q0 (A3k .halfUp):=by
 refine F.ok2 G9a (fun vs H Q E h=>?_) (fun X cdv A outer s H vs Q E hX hr hx h=>?_)
 . obtain⟨p,z,l,t,rfl,_⟩:=h
   rfl
 subst hX
 obtain⟨p,z,l,t,rfl,k⟩:=h
 refine⟨_,(A7 (B5 (G6 C2t (pv 3) A2 (B9 _)))),?_⟩
 exact⟨_,rfl,_,_,rfl,rfl,k H (B7.refl H)⟩
noncomputable abbrev sT4:Stmt:=(J1 (top 48) 2)
theorem J0f:B8 Q3 Q3 (A5 sT4):=scK
theorem G7c(F:Fun K "to_end" "HalfUp.to_end" sT4 f fd):C6 P w K mg base 1 f fd Q3 (A1q .halfUp):=by
 refine F.ok2 J0f (fun vs H Q E h=>?_) (fun X cdv A outer s H vs Q E hX hr hx h=>?_)
 . obtain⟨p,z,rfl,_⟩:=h
   rfl
 subst hX
 obtain⟨p,z,rfl,k⟩:=h
 refine⟨_,(A7 (B5 A1f)),?_⟩
 exact k H (B7.refl H)
noncomputable abbrev sU5:Stmt:=(J1 (top 49) 1)
theorem G8x:B8 Q0 Q0 (A5 sU5):=scK
theorem G5v(F:Fun K "goes_up" "HalfDown.goes_up" sU5 f fd):C6 P w K mg base 1 f fd Q0 (A3k .halfDown):=by
 refine F.ok2 G8x (fun vs H Q E h=>?_) (fun X cdv A outer s H vs Q E hX hr hx h=>?_)
 . obtain⟨p,z,l,t,rfl,_⟩:=h
   rfl
 subst hX
 obtain⟨p,z,l,t,rfl,k⟩:=h
 refine⟨_,(A7 (B5 (G6 G4 (pv 3) A2 (B9 _)))),?_⟩
 exact⟨_,rfl,rfl,k H (B7.refl H)⟩
noncomputable abbrev sT5:Stmt:=(J1 (top 49) 2)
theorem J0c:B8 Q3 Q3 (A5 sT5):=scK
theorem G7d(F:Fun K "to_end" "HalfDown.to_end" sT5 f fd):C6 P w K mg base 1 f fd Q3 (A1q .halfDown):=by
 refine F.ok2 J0c (fun vs H Q E h=>?_) (fun X cdv A outer s H vs Q E hX hr hx h=>?_)
 . obtain⟨p,z,rfl,_⟩:=h
   rfl
 subst hX
 obtain⟨p,z,rfl,k⟩:=h
 refine⟨_,(A7 (B5 A1f)),?_⟩
 exact k H (B7.refl H)
noncomputable abbrev sU6:Stmt:=(J1 (top 50) 1)
theorem G9d:B8 Q0 Q0 (A5 sU6):=scK
theorem G6d(F:Fun K "goes_up" "HalfEven.goes_up" sU6 f fd):C6 P w K mg base 1 f fd Q0 (A3k .halfEven):=by
 refine F.ok2 G9d (fun vs H Q E h=>?_) (fun X cdv A outer s H vs Q E hX hr hx h=>?_)
 . obtain⟨p,z,l,t,rfl,_⟩:=h
   rfl
 subst hX
 obtain⟨p,z,l,t,rfl,k⟩:=h
 refine⟨_,(A7 (B5 (B3h (G6 G4 (pv 3) A2 (B9 _)) (Z8 (A0e (G6 G4 (pv 3) A2 (B9 _)) (Z8 (G6 G4 (A9 U6 (pv 2) A2) A2 (B9 _)))))))),?_⟩
 have k:=k H (B7.refl H)
 unfold Wy.goes at k
 refine⟨_,rfl,rfl,_,rfl,?_⟩
 cases e:decide (V.int t=V.int 3) with
 |true=>rw[e] at k;exact Z7 k
 | false=>
   rw[e] at k
   refine V9 ⟨_,rfl,rfl,_,rfl,?_⟩
   cases e2:decide (V.int t=V.int 2) with
   |true=>rw[e2] at k;exact Z7 ⟨_,rfl,_,_,rfl,rfl,(by decide:(0:Int)<2),rfl,k⟩
   |false=>rw[e2] at k;exact V9 k
noncomputable abbrev sT6:Stmt:=(J1 (top 50) 2)
theorem J0b:B8 Q3 Q3 (A5 sT6):=scK
theorem G5t(F:Fun K "to_end" "HalfEven.to_end" sT6 f fd):C6 P w K mg base 1 f fd Q3 (A1q .halfEven):=by
 refine F.ok2 J0b (fun vs H Q E h=>?_) (fun X cdv A outer s H vs Q E hX hr hx h=>?_)
 . obtain⟨p,z,rfl,_⟩:=h
   rfl
 subst hX
 obtain⟨p,z,rfl,k⟩:=h
 refine⟨_,(A7 (B5 A1f)),?_⟩
 exact k H (B7.refl H)
noncomputable abbrev sU7:Stmt:=(J1 (top 51) 1)
theorem G8z:B8 Q0 Q0 (A5 sU7):=scK
theorem G6a(F:Fun K "goes_up" "FiveUp.goes_up" sU7 f fd):C6 P w K mg base 1 f fd Q0 (A3k .fiveUp):=by
 refine F.ok2 G8z (fun vs H Q E h=>?_) (fun X cdv A outer s H vs Q E hX hr hx h=>?_)
 . obtain⟨p,z,l,t,rfl,_⟩:=h
   rfl
 subst hX
 obtain⟨p,z,l,t,rfl,k⟩:=h
 refine⟨_,(A7 (B5 (G6 A7u (pv 2) (Y6 (A0 A2 (A0 A2 A4))) (by rfl)))),?_⟩
 exact⟨_,rfl,D0 (by decide),fun q nq=>⟨q,_,rfl,.inr (SqT.of A6),rfl,rfl,k _ (B7.upd nq)⟩⟩
noncomputable abbrev sT7:Stmt:=(J1 (top 51) 2)
theorem J0x:B8 Q3 Q3 (A5 sT7):=scK
theorem G6m(F:Fun K "to_end" "FiveUp.to_end" sT7 f fd):C6 P w K mg base 1 f fd Q3 (A1q .fiveUp):=by
 refine F.ok2 J0x (fun vs H Q E h=>?_) (fun X cdv A outer s H vs Q E hX hr hx h=>?_)
 . obtain⟨p,z,rfl,_⟩:=h
   rfl
 subst hX
 obtain⟨p,z,rfl,k⟩:=h
 refine⟨_,(A7 (B5 A1f)),?_⟩
 exact k H (B7.refl H)
noncomputable abbrev A9f:Stmt:=(top 29)
noncomputable abbrev A6f:Stmt:=(top 30)
noncomputable abbrev A3n:Stmt:=(top 31)
noncomputable abbrev A9k:Stmt:=(top 32)
noncomputable abbrev A9s:Stmt:=(top 33)
noncomputable abbrev B5g:Stmt:=(top 34)
noncomputable abbrev B4x:Stmt:=(top 35)
noncomputable abbrev A6s:Stmt:=(top 36)
noncomputable abbrev A6c:Stmt:=(top 37)
noncomputable abbrev A9t:Stmt:=(top 38)
structure Cv where
 r:Int
 y:Wy
 l:Int
 m:Int
structure Cv.Ok(c:Cv):Prop where
 r1:1<=c.r
 r2:c.r<=24
 l1: -60<=c.l
 l2:c.l<=0
 m1:0<=c.m
 m2:c.m<=60
noncomputable def A8q (ideal:Int):Nat ->Int ->Int ->Int×Int
 |0,f,p=>(f,p)
 |n+1,f,p=>if f % 10=0 then A8q ideal n (f/10) (p+1) else(f,p)
noncomputable def Z9 (ideal f p:Int):Int×Int:=A8q ideal (ideal-p).toNat f p
theorem B1p{ideal f p:Int}(h:p<ideal)(z:f % 10=0):Z9 ideal f p=Z9 ideal (f/10) (p+1):=by
 unfold Z9
 obtain⟨n,hn⟩:∃n,(ideal-p).toNat=n+1:=⟨(ideal-p).toNat-1,by omega⟩
 rw[hn,show(ideal-(p+1)).toNat=n by omega]
 show(if f % 10=0 then A8q ideal n (f/10) (p+1) else(f,p))=_
 rw[if_pos z]
theorem A9y{ideal f p:Int}(h:¬(p<ideal/\f % 10=0)):Z9 ideal f p=(f,p):=by
 unfold Z9
 by_cases q:p<ideal
 . obtain⟨n,hn⟩:∃n,(ideal-p).toNat=n+1:=⟨(ideal-p).toNat-1,by omega⟩
   rw[hn]
   show(if f % 10=0 then A8q ideal n (f/10) (p+1) else(f,p))=_
   rw[if_neg fun z=>h ⟨q,z⟩]
 rw[show(ideal-p).toNat=0 by omega]
 rfl
noncomputable def A1k (f:Int):Int:=((Str.ofString (toString f)).length:Nat)
noncomputable def upI (y:Wy) (s wh pt:Int):Int:=if(if pt=0 then false else y.goes s (wh % 10) pt)=true then wh+1 else wh
noncomputable def A4e (r f q:Int):Int×Int:=if f=A8 r then(f/10,q+1) else(f,q)
noncomputable def A0f (c:Cv) (s wh pt q ideal:Int):Int×Int:=if pt=0 then Z9 ideal wh q else A4e c.r (upI c.y s wh pt) q
noncomputable def A1t (m f p:Int):Bool:=if f=0 then false else decide (p+A1k f-1>m)
noncomputable def A7w (c:Cv) (s:Int):Nm:=if c.y.toEnd s=true then⟨.end_,s,0,0⟩ else⟨.plain,s,A8 c.r-1,c.m-c.r+1⟩
noncomputable def A0n (pt:Int) (cut:Bool):List Str:=if pt=0 then(if cut=true then ["cut"] else []) else ["off","cut"]
noncomputable def A0m (l L pt:Int):List Str:=if L>=l then [] else if pt=0 then ["faint"] else ["sunk","faint"]
noncomputable def A1r (c:Cv) (s wh pt L q ideal:Int):Nm×List Str:=
 if A1t c.m (A0f c s wh pt q ideal).1 (A0f c s wh pt q ideal).2=true then(A7w c s,Q32)
 else(⟨.plain,s,(A0f c s wh pt q ideal).1,(A0f c s wh pt q ideal).2⟩,A0n pt (decide ((A0f c s wh pt q ideal).2>ideal))++A0m c.l L pt)
noncomputable def A9a (a b:Int):Int:=if b>a then b else a
noncomputable def C7e (a b:Int):Int:=if b<a then b else a
noncomputable def Z6 (CC:Addr) (H:Hp) (c:Addr) (v:Cv) (a b:Addr) (xs ys:List Str):Prop:=A0d CC H c v.r v.y v.l v.m a b (xs.map V.str) (ys.map V.str)
theorem Z6.same{CC:Addr}{H H':Hp}{c:Addr}{v:Cv}{a b:Addr}{xs ys:List Str}(h:Z6 CC H c v a b xs ys)(e:B7 H H'):Z6 CC H' c v a b xs ys:=A0d.same h e
theorem B3p{CN:Addr}{H:Hp}{Q:VK}{E:XK}{k s f p:V}(h:∀n H',H n=none ->B7 H H' ->A2f CN H' n k s f p ->Q (.ref n) H'):
   ∀x dx,H x=none ->H dx=none ->dx≠x ->B5f CN (.ref x::([k,s,f,p]++ [])) (upd (upd H dx (.own x)) x (.ins CN dx [])) (fun v H2=>v= .non/\Q (.ref x) H2) E:=by
 intro x dx nx nd ne
 refine⟨x,dx,k,s,f,p,rfl,A6,fun H' e kp=>⟨rfl,h x H' nx (fun b o z=>?_) ⟨dx,e⟩⟩⟩
 refine kp b o ?_ (D9 z nx)
 rw[C7 (D9 z nx),C7 (D9 z nd)]
 exact z
structure B1y(P:Program)(w:World)(K:Frag)(mg:Str ->Option Value)(base:Heap)(CC CB CT CW:Addr)(cw:Wy ->Addr):Prop where
 c:B2b K mg CC
 way:A6y P w K mg base CC "way" 2 ["self"] (B0q CC cw)
 low:A6y P w K mg base CC "lowest" 1 ["self"] (B1h CC)
 raised:A6y P w K mg base CC "raised" 3 Q9 (B1c K CC CB CT)
 wc:∀y:Wy,A9c K mg y.cls (cw y) CW
 u:∀y:Wy,G6s P w K mg base (cw y) y
 e:∀y:Wy,G6f P w K mg base (cw y) y
noncomputable def B3d (CN:Addr):Sp:=fun vs H Q _=>∃i s f p:Int,vs=[.int i,.int s,.int f,.int p]/\∀n H',H n=none ->B7 H H' ->Z0 CN H' n ⟨.plain,s,(Z9 i f p).1,(Z9 i f p).2⟩ ->Q (.ref n) H'
theorem scNearest:B8 Q17 Q17 (A5 A6f):=scK
theorem B9q{f fI CN:Addr}{fd fdI:FuncData}(D:Def K mg "nearest_to" Q17 A6f f fd)(N:Num K mg CN)(M:A8x P w K mg base CN fI fdI):C6 P w K mg base 3 f fd Q17 (B3d CN):=by
 refine D.F.ok2 scNearest (fun vs H Q E h=>?_) (fun X cdv A outer s H vs Q E hX hr hx h=>?_)
 . obtain⟨i,s,f,p,rfl,_⟩:=h
   rfl
 subst hX
 obtain⟨i,sg,fg,pw,rfl,k⟩:=h
 refine⟨_,(A3 (A2x PassesOwn.leaving (PW.pt (A2t (C8 A3d (pv 3) (pv 0) (B9 _)) (A1c (C8 G4 (A9 U6 (pv 2) A2) A2 (B9 _))))) (A3 (D3 (i:=2) scNearest.nd rfl (Or.inl rfl) (A9 D7 (pv 2) A2)) (A7 (D3 (i:=3) scNearest.nd rfl (Or.inl rfl) (A9 G9 (pv 3) A2))))) (A7 (B5 (A3u M.m (C6.up M.g) hr N.g M.b .nil hx (A0 C9 (A0 (pv 1) (A0 (pv 2) (A0 (pv 3) A4)))))))),?_⟩
 have d10:(0:Int)<10/\(10:Int).natAbs.log2<9000:=⟨by decide,by decide+kernel⟩
 refine A3g (fun σ H2=>H2=H/\∃f p:Int,Z9 i f p=Z9 i fg pw/\σ=[si i,si sg,si f,si p]) (fun σ _=>match σ with| [_,_,_,some (.int p)]=>(i-p).toNat|_=>0) ?_ ?_ ?_
 . exact⟨rfl,fg,pw,rfl,rfl⟩
 . rintro σ H2 ⟨rfl,f,p,e,rfl⟩
   have stop:¬(p<i/\f % 10=0) ->∀n H',H2 n=none ->B7 H2 H' ->A2f CN H' n (.str "plain") (.int sg) (.int f) (.int p) ->Q (.ref n) H':=fun h n H' nn sm num=>by
     refine k n H' nn sm ?_
     rw[<-e,A9y h]
     exact num
   refine⟨_,rfl,_,rfl,_,_,rfl,rfl,_,rfl,U8 (fun h1=>?_) (fun h1=>V9 ⟨_,rfl,_,rfl,_,rfl,B3p (stop fun q=>h1 q.1)⟩)⟩
   refine⟨_,rfl,_,_,rfl,rfl,d10.1,rfl,_,rfl,U8 (fun h2=>?_) (fun h2=>⟨_,rfl,_,rfl,_,rfl,B3p (stop fun q=>h2 (congrArg V.int q.2))⟩)⟩
   have h1:p<i:=h1
   have h2:f % 10=0:=by injection h2
   refine⟨_,rfl,_,_,rfl,rfl,d10,_,rfl,_,_,rfl,rfl,⟨rfl,f/10,p+1,(B1p h1 h2).symm.trans e,rfl⟩,?_⟩
   show(i-(p+1)).toNat<(i-p).toNat
   omega
 rintro σ H2 Q1 Q2 hQ ⟨v,e,v2,e2,a,b,e3,e4,c,e5,q⟩
 refine⟨v,e,v2,e2,a,b,e3,e4,c,e5,?_⟩
 cases c with
 |false=>exact V9 (hQ _ _ (by simpa using q))
 | true=>
   have q:_:=q
   rw[if_pos rfl] at q ⊢
   obtain⟨v3,e6,a2,b2,e7,e8,e9,e10,e11,e12,q⟩:=q
   exact⟨v3,e6,a2,b2,e7,e8,e9,e10,e11,e12,hQ _ _ q⟩
noncomputable def A8s (CC:Addr):Sp:=fun vs H Q _=>∃c v a b xs ys p,∃s wh pt:Int,vs=[.ref c,.int s,.ref p]/\Z6 CC H c v a b xs ys/\H p=some (.tup [.int wh,.int pt])/\∀H',B7 H H' ->Q (.int (upI v.y s wh pt)) H'
theorem B6r:B8 Q18 Q18 (A5 A3n):=scK
theorem B5j{f CC CB CT CW:Addr}{cw:Wy ->Addr}(D:Def K mg "neighbour" Q18 A3n f fd)(C:B1y P w K mg base CC CB CT CW cw):C6 P w K mg base 3 f fd Q18 (A8s CC):=by
 refine D.F.ok2 B6r (fun vs H Q E h=>?_) (fun X cdv A outer s H vs Q E hX hr hx h=>?_)
 . obtain⟨c,v,a,b,xs,ys,p,sg,wh,pt,rfl,_⟩:=h
   rfl
 subst hX
 obtain⟨c,v,a,b,xs,ys,p,sg,wh,pt,rfl,hc,hp,k⟩:=h
 obtain⟨fW,fdW,mW,gW,bW⟩:=C.way
 obtain⟨fU,fdU,mU,gU,bU⟩:=C.u v.y
 refine⟨_,(A3 (U2 (PW.pt (A2t (C8 C2u (Y2 A2p (pv 2) A2 (fun _ _=>rfl)) A2 (B9 _)) (A1c (A0q (A7b (A3t (pv 0) C.c.cl mW gW hr bW .nil hx) (C.wc v.y).cl mU gU hr bU .nil hx (A0 (pv 1) (A0 (A9 U6 (Y2 A2p (pv 2) A2 (fun _ _=>rfl)) A2) (A0 (Y2 A2p (pv 2) A2 (fun _ _=>rfl)) A4)))))))) (A7 (B5 (A9 G9 (Y2 A2p (pv 2) A2 (fun _ _=>rfl)) A2))) D6) (A7 (B5 (Y2 A2p (pv 2) A2 (fun _ _=>rfl))))),?_⟩
 obtain⟨⟨dx,e⟩,_,_⟩:=id hc
 unfold upI at k
 refine⟨_,rfl,p,_,_,_,rfl,rfl,SqT.of hp,Y0 (j:=1) rfl,rfl,_,rfl,?_⟩
 by_cases h0:pt=0
 . subst h0
   rw[if_pos rfl,if_neg Bool.false_ne_true] at k
   exact D9f rfl (V9 ⟨_,rfl,p,_,_,_,rfl,rfl,SqT.of hp,Y0 (j:=0) rfl,k H (B7.refl H)⟩)
 rw[if_neg h0] at k
 rw[decide_eq_false (fun q=>h0 (by injection q):¬V.int pt=V.int 0)]
 refine Z7 ⟨_,rfl,c,dx,_,rfl,e,B0t _ _ _ _ _ _,c,v.r,v.y,v.l,v.m,a,b,_,_,rfl,hc,fun q dq H1 nq s1 eq=>?_⟩
 refine⟨q,dq,_,rfl,eq,rfl,_,rfl,_,rfl,p,_,_,_,rfl,rfl,SqT.of (s1 _ _ hp),Y0 (j:=0) rfl,_,_,rfl,rfl,(by decide:(0:Int)<10),_,rfl,p,_,_,_,rfl,rfl,SqT.of (s1 _ _ hp),Y0 (j:=1) rfl,q,sg,wh % 10,pt,rfl,fun H2 s2=>⟨_,rfl,?_⟩⟩
 have s3:=s1.trans s2
 cases g:v.y.goes sg (wh % 10) pt with
 | true=>
   rw[g,if_pos rfl] at k
   exact Z7 ⟨_,rfl,p,_,_,_,rfl,rfl,SqT.of (s3 _ _ hp),Y0 (j:=0) rfl,_,_,rfl,rfl,k H2 s3⟩
 | false=>
   rw[g,if_neg Bool.false_ne_true] at k
   exact V9 ⟨_,rfl,p,_,_,_,rfl,rfl,SqT.of (s3 _ _ hp),Y0 (j:=0) rfl,k H2 s3⟩
noncomputable def B7u (CN CC:Addr):Sp:=fun vs H Q _=>∃c v a b xs ys,∃s f q:Int,vs=[.ref c,.int s,.int f,.int q]/\Z6 CC H c v a b xs ys/\v.Ok/\∀n H',H n=none ->B7 H H' ->Z0 CN H' n ⟨.plain,s,(A4e v.r f q).1,(A4e v.r f q).2⟩ ->Q (.ref n) H'
theorem C7r:B8 Q19 Q19 (A5 A9k):=scK
theorem C4x{f f1 fI CN CC CB CT CW:Addr}{cw:Wy ->Addr}{fd fd1 fdI:FuncData}(D:Def K mg "within_room" Q19 A9k f fd)(dA:Def K mg "ten_to" ["count"] A4m f1 fd1)(dB:C6 P w K mg base 2 f1 fd1 ["count"] A5e)(C:B1y P w K mg base CC CB CT CW cw)(N:Num K mg CN)(M:A8x P w K mg base CN fI fdI):
   C6 P w K mg base 3 f fd Q19 (B7u CN CC):=by
 refine D.F.ok2 C7r (fun vs H Q E h=>?_) (fun X cdv A outer s H vs Q E hX hr hx h=>?_)
 . obtain⟨c,v,a,b,xs,ys,sg,f,q,rfl,_⟩:=h
   rfl
 subst hX
 obtain⟨c,v,a,b,xs,ys,sg,fg,q,rfl,hc,ok,k⟩:=h
 refine⟨_,(A3 (U2 (C8 G4 (pv 2) (U1 dA dB hr hx (A0 (U7 (pv 0) rfl) A4)) (B9 _)) (A7 (B5 (A3u M.m (C6.up M.g) hr N.g M.b .nil hx (A0 C9 (A0 (pv 1) (A0 (A9 D7 (pv 2) A2) (A0 (A9 G9 (pv 3) A2) A4))))))) D6) (A7 (B5 (A3u M.m (C6.up M.g) hr N.g M.b .nil hx (A0 C9 (A0 (pv 1) (A0 (pv 2) (A0 (pv 3) A4)))))))),?_⟩
 have d10:(0:Int)<10/\(10:Int).natAbs.log2<9000:=⟨by decide,by decide+kernel⟩
 obtain⟨⟨dx,e⟩,_,_⟩:=id hc
 have r1:=ok.r1;have r2:=ok.r2
 refine⟨_,rfl,_,rfl,c,CC,dx,_,_,rfl,e,C.c.cl,C.c.n_room,A4r _ _ _ _ _ _,v.r.toNat,(by rw[Int.toNat_of_nonneg (by omega)];rfl),by omega,rfl,_,rfl,?_⟩
 unfold A4e at k
 refine U8 (fun h=>?_) (fun h=>?_)
 . have h:fg=A8 v.r:=by injection h
   rw[if_pos h] at k
   exact⟨_,rfl,_,rfl,_,_,rfl,rfl,d10,_,rfl,_,_,rfl,rfl,B3p k⟩
 have h:¬fg=A8 v.r:=fun z=>h (congrArg V.int z)
 rw[if_neg h] at k
 exact⟨_,rfl,_,rfl,_,rfl,B3p k⟩
noncomputable def B7t (CN CC:Addr):Sp:=fun vs H Q _=>∃c v a b xs ys n x,vs=[.ref c,.ref n]/\Z6 CC H c v a b xs ys/\Z0 CN H n x/\x.f.natAbs<2^300/\Q (.bl (A1t v.m x.f x.p)) H
theorem D0d:B8 Q20 Q20 (A5 A9s):=scK
theorem C4b{f f1 CN CC CB CT CW:Addr}{cw:Wy ->Addr}(D:Def K mg "is_beyond" Q20 A9s f fd)(dA:Def K mg "lead_of" ["number"] C2j f1 fd1)(dB:C6 P w K mg base 1 f1 fd1 ["number"] (C7n CN))(C:B1y P w K mg base CC CB CT CW cw)(N:Num K mg CN):
   C6 P w K mg base 2 f fd Q20 (B7t CN CC):=by
 refine D.F.ok2 D0d (fun vs H Q E h=>?_) (fun X cdv A outer s H vs Q E hX hr hx h=>?_)
 . obtain⟨c,v,a,b,xs,ys,n,x,rfl,_⟩:=h
   rfl
 subst hX
 obtain⟨c,v,a,b,xs,ys,n,x,rfl,hc,hn,hf,k⟩:=h
 refine⟨_,(A7 (B5 (A0e (G6 C2u (U7 (pv 1) rfl) A2 (B9 _)) (Z8 (G6 A6r (U1 dA dB hr hx (A0 (pv 1) A4)) (U7 (pv 0) rfl) (B9 _)))))),?_⟩
 obtain⟨⟨dx,e⟩,_,_⟩:=id hc
 obtain⟨dn,en⟩:=id hn
 unfold A1t at k
 refine⟨_,rfl,n,CN,dn,_,_,rfl,en,N.cl,N.n3,C8b _ _ _ _,rfl,_,rfl,?_⟩
 by_cases h0:x.f=0
 . rw[if_pos h0] at k
   rw[decide_eq_true (congrArg V.int h0)]
   exact V9 k
 rw[if_neg h0] at k
 rw[decide_eq_false (fun q=>h0 (by injection q):¬V.int x.f=V.int 0)]
 exact Z7 ⟨_,rfl,n,_,_,_,_,rfl,hn,hf,_,rfl,c,CC,dx,_,_,rfl,e,C.c.cl,C.c.n_most,B1k _ _ _ _ _ _,_,_,rfl,rfl,k⟩
noncomputable def C2f (CN CC:Addr):Sp:=fun vs H Q _=>∃c v a b xs ys,∃s:Int,vs=[.ref c,.int s]/\Z6 CC H c v a b xs ys/\v.Ok/\∀n H',H n=none ->B7 H H' ->Z0 CN H' n ⟨.plain,s,A8 v.r-1,v.m-v.r+1⟩ ->Q (.ref n) H'
theorem D7z:B8 Q7 Q7 (A5 B4x):=scK
theorem C7m{f f1 fI CN CC CB CT CW:Addr}{cw:Wy ->Addr}{fd fd1 fdI:FuncData}(D:Def K mg "nines" Q7 B4x f fd)(dA:Def K mg "ten_to" ["count"] A4m f1 fd1)(dB:C6 P w K mg base 2 f1 fd1 ["count"] A5e)(C:B1y P w K mg base CC CB CT CW cw)(N:Num K mg CN)(M:A8x P w K mg base CN fI fdI):
   C6 P w K mg base 3 f fd Q7 (C2f CN CC):=by
 refine D.F.ok2 D7z (fun vs H Q E h=>?_) (fun X cdv A outer s H vs Q E hX hr hx h=>?_)
 . obtain⟨c,v,a,b,xs,ys,sg,rfl,_⟩:=h
   rfl
 subst hX
 obtain⟨c,v,a,b,xs,ys,sg,rfl,hc,ok,k⟩:=h
 refine⟨_,(A7 (B5 (A3u M.m (C6.up M.g) hr N.g M.b .nil hx (A0 C9 (A0 (pv 1) (A0 (A9 Y4 (U1 dA dB hr hx (A0 (U7 (pv 0) rfl) A4)) A2) (A0 (A9 G9 (A9 Y4 (U7 (pv 0) rfl) (U7 (pv 0) rfl)) A2) A4))))))),?_⟩
 obtain⟨⟨dx,e⟩,_,_⟩:=id hc
 have r1:=ok.r1;have r2:=ok.r2
 exact⟨_,rfl,_,rfl,c,CC,dx,_,_,rfl,e,C.c.cl,C.c.n_room,A4r _ _ _ _ _ _,v.r.toNat,(by rw[Int.toNat_of_nonneg (by omega)];rfl),by omega,_,_,rfl,rfl,_,rfl,c,CC,dx,_,_,rfl,e,C.c.cl,C.c.n_most,B1k _ _ _ _ _ _,_,rfl,c,CC,dx,_,_,rfl,e,C.c.cl,C.c.n_room,A4r _ _ _ _ _ _,_,_,rfl,rfl,_,_,rfl,rfl,B3p k⟩
noncomputable def C1m (CN CC:Addr):Sp:=fun vs H Q _=>∃c v a b xs ys,∃s:Int,vs=[.ref c,.int s]/\Z6 CC H c v a b xs ys/\v.Ok/\0<=s/\s<=1/\∀n H',B7 H H' ->Z0 CN H' n (A7w v s) ->Q (.ref n) H'
theorem D6j:B8 Q7 Q7 (A5 B5g):=scK
theorem C5z{f f1 f2 CN CN' CC CB CT CW:Addr}{cw:Wy ->Addr}(D:Def K mg "burst" Q7 B5g f fd)(dA:Def K mg "nines" Q7 B4x f1 fd1)(dB:C6 P w K mg base 3 f1 fd1 Q7 (C2f CN CC))(dC:Def K mg "end" ["sign"] C6c f2 fd2)(dD:C6 P w K mg base 3 f2 fd2 ["sign"] (C8w K CN CN'))(C:B1y P w K mg base CC CB CT CW cw):
   C6 P w K mg base 4 f fd Q7 (C1m CN CC):=by
 refine D.F.ok2 D6j (fun vs H Q E h=>?_) (fun X cdv A outer s H vs Q E hX hr hx h=>?_)
 . obtain⟨c,v,a,b,xs,ys,sg,rfl,_⟩:=h
   rfl
 subst hX
 obtain⟨c,v,a,b,xs,ys,sg,rfl,hc,ok,s0,s1,k⟩:=h
 obtain⟨fW,fdW,mW,gW,bW⟩:=C.way
 obtain⟨fU,fdU,mU,gU,bU⟩:=C.e v.y
 refine⟨_,(A7 (B5 (A4f (A0q (A7b (A3t (pv 0) C.c.cl mW gW hr bW .nil hx) (C.wc v.y).cl mU gU hr bU .nil hx (A0 (pv 1) A4))) (U1 dC dD hr hx (A0 (pv 1) A4)) (U1 dA dB hr hx (A0 (pv 0) (A0 (pv 1) A4)))))),?_⟩
 obtain⟨⟨dx,e⟩,_,_⟩:=id hc
 unfold A7w at k
 refine⟨_,rfl,c,dx,_,rfl,e,B0t _ _ _ _ _ _,c,v.r,v.y,v.l,v.m,a,b,_,_,rfl,hc,fun q dq H1 nq t1 eq=>?_⟩
 refine⟨q,dq,_,rfl,eq,rfl,_,rfl,q,sg,rfl,fun H2 t2=>⟨_,rfl,?_⟩⟩
 have t3:=t1.trans t2
 cases g:v.y.toEnd sg with
 | true=>
   rw[g,if_pos rfl] at k
   exact Z7 ⟨_,rfl,_,rfl,.inl ⟨⟨sg,rfl,s0,s1⟩,fun n H' _ sm num=>k n H' (t3.trans sm) num⟩⟩
 | false=>
   rw[g,if_neg Bool.false_ne_true] at k
   exact V9 ⟨_,rfl,_,rfl,c,v,a,b,xs,ys,sg,rfl,hc.same t3,ok,fun n H' _ sm num=>k n H' (t3.trans sm) num⟩
noncomputable def B3t:Sp:=fun vs H Q _=>∃(pt:Int) (cut:Bool),vs=[.int pt,.bl cut]/\∀l,H l=none ->Q (.ref l) (upd H l (.lst ((A0n pt cut).map V.str)))
theorem C5p:B8 Q21 Q21 (A5 A6s):=scK
theorem C0e(D:Def K mg "signals_of_rest" Q21 A6s f fd):C6 P w K mg base 1 f fd Q21 B3t:=by
 refine D.F.ok2 C5p (fun vs H Q E h=>?_) (fun X cdv A outer s H vs Q E hX hr hx h=>?_)
 . obtain⟨pt,cut,rfl,_⟩:=h
   rfl
 subst hX
 obtain⟨pt,cut,rfl,k⟩:=h
 refine⟨_,(A3 (U2 (C8 C2u (pv 0) A2 (B9 _)) (A7 (B5 (U5 (A0 C9 (A0 C9 A4))))) D6) (A7 (B5 (A4f (A0q (pv 1)) (U5 (A0 C9 A4)) (U5 A4))))),?_⟩
 unfold A0n at k
 refine⟨_,rfl,rfl,_,rfl,?_⟩
 by_cases h0:pt=0
 . subst h0
   rw[if_pos rfl] at k
   refine D9f rfl ⟨_,rfl,_,rfl,?_⟩
   cases cut with
   |true=>exact Z7 ⟨D0 (by decide),k⟩
   |false=>exact V9 ⟨D0 (by decide),k⟩
 rw[if_neg h0] at k
 rw[decide_eq_false (fun q=>h0 (by injection q):¬V.int pt=V.int 0)]
 exact Z7 ⟨D0 (by decide),k⟩
noncomputable def B3k (CC:Addr):Sp:=fun vs H Q _=>∃c v a b xs ys,∃L pt:Int,vs=[.ref c,.int L,.int pt]/\Z6 CC H c v a b xs ys/\∀l,H l=none ->Q (.ref l) (upd H l (.lst ((A0m v.l L pt).map V.str)))
theorem C3q:B8 Q22 Q22 (A5 A6c):=scK
theorem B9m{f CC CB CT CW:Addr}{cw:Wy ->Addr}(D:Def K mg "signals_of_lead" Q22 A6c f fd)(C:B1y P w K mg base CC CB CT CW cw):C6 P w K mg base 1 f fd Q22 (B3k CC):=by
 refine D.F.ok2 C3q (fun vs H Q E h=>?_) (fun X cdv A outer s H vs Q E hX hr hx h=>?_)
 . obtain⟨c,v,a,b,xs,ys,L,pt,rfl,_⟩:=h
   rfl
 subst hX
 obtain⟨c,v,a,b,xs,ys,L,pt,rfl,hc,k⟩:=h
 refine⟨_,(A3 (U2 (C8 C2t (pv 1) (U7 (pv 0) rfl) (B9 _)) (A7 (B5 (U5 A4))) D6) (A7 (B5 (A4f (C8 G4 (pv 2) A2 (B9 _)) (U5 (A0 C9 A4)) (U5 (A0 C9 (A0 C9 A4))))))),?_⟩
 obtain⟨⟨dx,e⟩,_,_⟩:=id hc
 unfold A0m at k
 refine⟨_,rfl,_,rfl,c,CC,dx,_,_,rfl,e,C.c.cl,C.c.n_least,B3a _ _ _ _ _ _,_,_,rfl,rfl,_,rfl,U8 (fun h=>?_) (fun h=>?_)⟩
 . rw[if_pos h] at k
   exact⟨D0 (by decide),k⟩
 rw[if_neg h] at k
 refine⟨_,rfl,rfl,_,rfl,U8 (fun h=>?_) (fun h=>?_)⟩
 . rw[if_pos (by injection h)] at k
   exact⟨D0 (by decide),k⟩
 rw[if_neg fun q=>h (congrArg V.int q)] at k
 exact⟨D0 (by decide),k⟩
noncomputable def B6j (CN CC:Addr):Sp:=fun vs H Q _=>∃c v a b xs ys,∃s i:Int,vs=[.ref c,.int s,.int i]/\Z6 CC H c v a b xs ys/\∀n H',H n=none ->B7 H H' ->Z0 CN H' n ⟨.plain,s,0,C7e (A9a i (v.l-v.r+1)) v.m⟩ ->Q (.ref n) H'
theorem C8r:B8 Q23 Q23 (A5 A9t):=scK
theorem C3z{f fI CN CC CB CT CW:Addr}{cw:Wy ->Addr}{fd fdI:FuncData}(D:Def K mg "nought" Q23 A9t f fd)(C:B1y P w K mg base CC CB CT CW cw)(N:Num K mg CN)(M:A8x P w K mg base CN fI fdI)(O:Own mg):C6 P w K mg base 3 f fd Q23 (B6j CN CC):=by
 refine D.F.ok2 C8r (fun vs H Q E h=>?_) (fun X cdv A outer s H vs Q E hX hr hx h=>?_)
 . obtain⟨c,v,a,b,xs,ys,sg,i,rfl,_⟩:=h
   rfl
 subst hX
 obtain⟨c,v,a,b,xs,ys,sg,i,rfl,hc,k⟩:=h
 obtain⟨fL,fdL,mL,gL,bL⟩:=C.low
 refine⟨_,(A7 (B5 (A3u M.m (C6.up M.g) hr N.g M.b .nil hx (A0 C9 (A0 (pv 1) (A0 A2 (A0 (Y3 (B9a hx.hd) (by rfl) O.min_ boot_min (A0 (Y3 (A3q hx.hd) (by rfl) O.max_ boot_max (A0 (pv 2) (A0 (A3t (pv 0) C.c.cl mL gL hr bL .nil hx) A4))) (A0 (U7 (pv 0) rfl) A4))) A4))))))),?_⟩
 obtain⟨⟨dx,e⟩,_,_⟩:=id hc
 exact⟨_,rfl,_,rfl,_,rfl,c,dx,_,rfl,e,A5n _ _ _ _ _ _,c,v.r,v.y,v.l,v.m,a,b,_,_,rfl,hc,_,_,rfl,_,rfl,c,CC,dx,_,_,rfl,e,C.c.cl,C.c.n_most,B1k _ _ _ _ _ _,_,_,rfl,B3p k⟩
noncomputable abbrev A6g:Stmt:=(top 28)
theorem A9w(i:Int):∀(n:Nat) (f p:Int),0<=f ->0<=(A8q i n f p).1/\(A8q i n f p).1<=f
 |0,f,p,h=>⟨h,Int.le_refl _⟩
 | n +1,f,p,h=>by
   show 0<=(if f % 10=0 then A8q i n (f/10) (p+1) else(f,p)).1/\(if f % 10=0 then A8q i n (f/10) (p+1) else(f,p)).1<=f
   by_cases z:f % 10=0
   . rw[if_pos z]
     have:=A9w i n (f/10) (p+1) (by omega)
     omega
   . rw[if_neg z]
     exact⟨h,Int.le_refl _⟩
theorem D8h{r:Int}(h:r<=24):A8 r<=10^24:=by
 unfold A8
 have:10^r.toNat<=10^24:=Nat.pow_le_pow_right (by decide) (by omega)
 exact Int.ofNat_le.mpr this
theorem B0s{c:Cv}{s wh pt q i:Int}(ok:c.Ok)(h0:0<=wh)(h1:wh<A8 c.r):(A0f c s wh pt q i).1.natAbs<2^300:=by
 have t:=D8h ok.r2
 have big:((10^24:Nat):Int)=10^24:=by decide+kernel
 have lt:∀z:Int,0<=z ->z<=10^24 ->z.natAbs<2^300:=fun z a b=>Nat.lt_of_le_of_lt (show z.natAbs<=10^24 by omega) (by decide+kernel)
 unfold A0f
 split
 . have:=A9w i (i-q).toNat wh q h0
   exact lt _ this.1 (by unfold Z9;omega)
 have hu:0<=upI c.y s wh pt/\upI c.y s wh pt<=A8 c.r:=by
   have e:upI c.y s wh pt=wh+1\/upI c.y s wh pt=wh:=by
     unfold upI
     generalize (if pt=0 then false else c.y.goes s (wh % 10) pt)=g
     cases g with
     |true=>exact .inl rfl
     |false=>exact .inr rfl
   omega
 generalize upI c.y s wh pt=u at hu
 unfold A4e
 split
 . exact lt (u/10) (by omega) (by omega)
 exact lt u (by omega) (by omega)
theorem C9s:B8 Q24 Q24 (A5 A9f):=scK
noncomputable def Cv.fin (v:Cv) (L:Int):Int:=A9a (L-v.r+1) (v.l-v.r+1)
noncomputable def A5p (CN CC CT:Addr) (H:Hp) (c:Addr) (v:Cv) (b:Addr) (xs ys:List Str) (res:Nm×List Str) (Q:VK) (E:XK):Prop:=
 (hit ys res.2=none ->∀m a' H',Exc c H H' ->Z6 CC H' c v a' b (V6 (xs++res.2)) ys ->Z0 CN H' m res.1 ->Q (.ref m) H')/\
 (∀z,hit ys res.2=some z ->∀a' d H',Exc c H H' ->Z6 CC H' c v a' b (V6 (xs++res.2)) ys ->H' d=some (.xd [("signal",.str z)]) ->E (.ref CT) (some d) H')
theorem scSettled:B8 ["context","sign","exact","ideal","finest","pair","number","names"] Q33 (A5 A6g):=scK
theorem C3r:∀z∈(Q32:List Str),z∈Y1:=by decide+kernel
theorem C6g{pt:Int}{cut:Bool}{l L:Int}:∀z∈A0n pt cut++A0m l L pt,z∈Y1:=by
 have r:∀z∈A0n pt cut,z∈Y1:=by
   unfold A0n
   split
   . split
     . decide+kernel
     . decide+kernel
   . decide+kernel
 have d:∀z∈A0m l L pt,z∈Y1:=by
   unfold A0m
   split
   . decide+kernel
   . split
     . decide+kernel
     . decide+kernel
 intro z hz
 rcases List.mem_append.mp hz with h|h
 . exact r z h
 exact d z h
theorem C8y{pt:Int}{cut:Bool}{l L:Int}:(A0n pt cut++A0m l L pt).length<=4:=by
 have r:(A0n pt cut).length<=2:=by
   unfold A0n
   split
   . split<;>decide
   . decide
 have d:(A0m l L pt).length<=2:=by
   unfold A0m
   split
   . decide
   . split<;>decide
 rw[List.length_append]
 omega
structure Exa where
 At:Hp ->Addr ->Prop
 L:Int
 wh:Int ->Int
 pt:Int ->Int
 okq:Int ->Prop
structure ExV(CR:Addr)(sp1 sp2:Sp)(e:Exa):Prop where
 same:∀H H' x,e.At H x ->B7 H H' ->e.At H' x
 ins:∀H x,e.At H x ->∃dx fs,H x=some (.ins CR dx fs)/\fs.lookup ("first":Str)=none/\fs.lookup ("at":Str)=none
 first:∀H x (Q:VK) (E:XK),e.At H x ->(∀H',B7 H H' ->Q (.int e.L) H') ->sp1 [.ref x] H Q E
 at_:∀H x q (Q:VK) (E:XK),e.At H x ->e.okq q ->(∀p H',B7 H H' ->H p=none ->H' p=some (.tup [.int (e.wh q),.int (e.pt q)]) ->Q (.ref p) H') ->sp2 [.ref x,.int q] H Q E
structure ExM(P:Program)(w:World)(K:Frag)(mg:Str ->Option Value)(base:Heap)(CR f1 f2:Addr)(fd1 fd2:FuncData)(sp1 sp2:Sp):Prop where
 cl:Cls K CR
 m1:A5v K CR "first" f1
 g1:C6 P w K mg base 4 f1 fd1 ["self"] sp1
 b1:V4 K fd1 ["self"] []
 m2:A5v K CR "at" f2
 g2:C6 P w K mg base 5 f2 fd2 Q25 sp2
 b2:V4 K fd2 Q25 []
noncomputable def B3g (CC CR:Addr) (sp1 sp2:Sp):Sp:=fun vs H Q _=>∃c v a b xs ys x,∃ex:Exa,vs=[.ref c,.ref x]/\Z6 CC H c v a b xs ys/\ExV CR sp1 sp2 ex/\ex.At H x/\∀H',B7 H H' ->Q (.int (A9a (ex.L-v.r+1) (v.l-v.r+1))) H'
theorem B9d{f CC CB CT CW CR CE g1 g2:Addr}{cw:Wy ->Addr}(D:Def K mg "finest_power" Q24 A9f f fd)(C:B1y P w K mg base CC CB CT CW cw){sp1 sp2:Sp}(RM:ExM P w K mg base CR g1 g2 gd1 gd2 sp1 sp2)(O:Own mg):C6 P w K mg base 5 f fd Q24 (B3g CC CR sp1 sp2):=by
 refine D.F.ok2 C9s (fun vs H Q E h=>?_) (fun X cdv A outer s H vs Q E hX hr hx h=>?_)
 . obtain⟨c,v,a,b,xs,ys,x,ex,rfl,_⟩:=h
   rfl
 subst hX
 obtain⟨c,v,a,b,xs,ys,x,ex,rfl,hc,ev,ra,k⟩:=h
 obtain⟨fL,fdL,mL,gL,bL⟩:=C.low
 refine⟨_,(A7 (B5 (Y3 (A3q hx.hd) (by rfl) O.max_ boot_max (A0 (A9 G9 (A9 Y4 (A3t (pv 1) RM.cl RM.m1 RM.g1 hr RM.b1 .nil hx) (U7 (pv 0) rfl)) A2) (A0 (A3t (pv 0) C.c.cl mL gL hr bL .nil hx) A4))))),?_⟩
 obtain⟨dr,fs,er,nf,_⟩:=ev.ins _ _ ra
 refine⟨_,rfl,x,dr,_,rfl,er,nf,ev.first _ _ _ _ ra fun H1 s1=>?_⟩
 have hc1:=hc.same s1
 obtain⟨⟨dx,e⟩,_,_⟩:=id hc1
 exact⟨_,rfl,c,CC,dx,_,_,rfl,e,C.c.cl,C.c.n_room,A4r _ _ _ _ _ _,_,_,rfl,rfl,_,_,rfl,rfl,_,rfl,c,dx,_,rfl,e,A5n _ _ _ _ _ _,c,v.r,v.y,v.l,v.m,a,b,_,_,rfl,hc1,_,_,rfl,k H1 s1⟩
noncomputable def A9u (CN CC CT CR:Addr) (sp1 sp2:Sp):Sp:=fun vs H Q E=>∃c v a b xs ys x,∃(ex:Exa) (s i:Int),vs=[.ref c,.int s,.ref x,.int i]/\Z6 CC H c v a b xs ys/\v.Ok/\xs.length<=900/\ExV CR sp1 sp2 ex/\ex.At H x/\ex.okq (v.fin ex.L)/\0<=ex.wh (v.fin ex.L)/\ex.wh (v.fin ex.L)<A8 v.r/\0<=s/\s<=1/\
 A5p CN CC CT H c v b xs ys (A1r v s (ex.wh (v.fin ex.L)) (ex.pt (v.fin ex.L)) ex.L (v.fin ex.L) i) Q E
theorem B6p{f f1 f2 f3 f4 f5 f6 f7 f8 CN CC CB CT CW CR CE g1 g2:Addr}{cw:Wy ->Addr}{sp1 sp2:Sp}(D:Def K mg "settled" Q33 A6g f fd)
   (dA:Def K mg "finest_power" Q24 A9f f1 fd1) (dB:C6 P w K mg base 5 f1 fd1 Q24 (B3g CC CR sp1 sp2)) (dC:Def K mg "nearest_to" Q17 A6f f2 fd2) (dD:C6 P w K mg base 3 f2 fd2 Q17 (B3d CN))
   (dE:Def K mg "neighbour" Q18 A3n f3 fd3) (dF:C6 P w K mg base 3 f3 fd3 Q18 (A8s CC)) (dG:Def K mg "within_room" Q19 A9k f4 fd4) (dH:C6 P w K mg base 3 f4 fd4 Q19 (B7u CN CC))
   (dJ:Def K mg "is_beyond" Q20 A9s f5 fd5) (dL:C6 P w K mg base 2 f5 fd5 Q20 (B7t CN CC)) (dM:Def K mg "burst" Q7 B5g f6 fd6) (dN:C6 P w K mg base 4 f6 fd6 Q7 (C1m CN CC))
   (dP:Def K mg "signals_of_rest" Q21 A6s f7 fd7) (dQ:C6 P w K mg base 1 f7 fd7 Q21 B3t) (dS:Def K mg "signals_of_lead" Q22 A6c f8 fd8) (dU:C6 P w K mg base 1 f8 fd8 Q22 (B3k CC))
   (C:B1y P w K mg base CC CB CT CW cw) (RM:ExM P w K mg base CR g1 g2 gd1 gd2 sp1 sp2) (N:Num K mg CN):C6 P w K mg base 6 f fd Q33 (A9u CN CC CT CR sp1 sp2):=by
 refine D.F.ok2 scSettled (fun vs H Q E h=>?_) (fun X cdv A outer s H vs Q E hX hr hx h=>?_)
 . obtain⟨c,v,a,b,xs,ys,x,ex,sg,i,rfl,_⟩:=h
   rfl
 subst hX
 obtain⟨c,v,a,b,xs,ys,x,ex,sg,i,rfl,hc,ok,lx,ev,ra,q0,wr0,wr1,s0,s1,k⟩:=h
 obtain⟨fR,fdR,mR,gR,bR⟩:=C.raised
 refine⟨_,(A3 (B0 (D3 (i:=4) scSettled.nd rfl (Or.inl rfl) (U1 dA dB hr hx (A0 (pv 0) (A0 (pv 2) A4))))) (A3 (B0 (D3 (i:=5) scSettled.nd rfl (Or.inl rfl) (A7b (pv 2) RM.cl RM.m2 RM.g2 hr RM.b2 .nil hx (A0 (pv 4) A4)))) (A3 (B0 (U2 (C8 G4 (Y2 A2p (pv 5) A2 (fun _ _=>rfl)) A2 (B9 _)) (A7 (D3 (i:=6) scSettled.nd rfl (Or.inl rfl) (U1 dC dD hr hx (A0 (pv 3) (A0 (pv 1) (A0 (Y2 A2p (pv 5) A2 (fun _ _=>rfl)) (A0 (pv 4) A4))))))) (A7 (D3 (i:=6) scSettled.nd rfl (Or.inl rfl) (U1 dG dH hr hx (A0 (pv 0) (A0 (pv 1) (A0 (U1 dE dF hr hx (A0 (pv 0) (A0 (pv 1) (A0 (pv 5) A4)))) (A0 (pv 4) A4))))))))) (A3 (B0 (U2 (A0q (U1 dJ dL hr hx (A0 (pv 0) (A0 (pv 6) A4)))) (A3 (Y8 (A7b (pv 0) C.c.cl mR gR hr bR .nil hx (A0 (U5 (A0 C9 (A0 C9 (A0 C9 A4)))) A4))) (A7 (B5 (U1 dM dN hr hx (A0 (pv 0) (A0 (pv 1) A4)))))) D6)) (A3 (B0 (D3 (i:=7) scSettled.nd rfl (Or.inl rfl) (U1 dP dQ hr hx (A0 (Y2 A2p (pv 5) A2 (fun _ _=>rfl)) (A0 (G6 A6r (U7 (pv 6) rfl) (pv 3) (B9 _)) A4))))) (A3 (B0 (Y8 (A7b (pv 0) C.c.cl mR gR hr bR .nil hx (A0 (A9 B1g (pv 7) (U1 dS dU hr hx (A0 (pv 0) (A0 (A3t (pv 2) RM.cl RM.m1 RM.g1 hr RM.b1 .nil hx) (A0 (Y2 A2p (pv 5) A2 (fun _ _=>rfl)) A4))))) A4)))) (A7 (B5 (pv 6))))))))),?_⟩
 have wr:=And.intro wr0 wr1
 unfold A1r at k
 let I_:L2.St ->L2.Hp ->Prop:=fun σ' H'=>B7 H H'/\σ'=[sr c,si sg,sr x,si i,si (v.fin ex.L),none,none,none]
 refine⟨I_,?_,?_⟩
 . exact⟨_,rfl,_,rfl,c,v,a,b,xs,ys,x,ex,rfl,hc,ev,ra,fun H' s'=>⟨s',rfl⟩⟩
 rintro σ' H1 ⟨t1,rfl⟩
 clear I_
 have hc1:=hc.same t1
 have ra1:=ev.same _ _ _ ra t1
 generalize v.fin ex.L=q at*
 generalize hwh:ex.wh q=wh at*
 generalize hpt:ex.pt q=pt at*
 let I_:L2.St ->L2.Hp ->Prop:=fun σ' H'=>∃p,B7 H1 H'/\H' p=some (.tup [.int wh,.int pt])/\σ'=[sr c,si sg,sr x,si i,si q,sr p,none,none]
 refine⟨I_,?_,?_⟩
 . obtain⟨dr,fs,er,_,na⟩:=ev.ins _ _ ra1
   refine⟨_,rfl,x,dr,_,rfl,er,na,_,rfl,ev.at_ _ _ _ _ _ ra1 q0 fun p H' s' np ep=>⟨p,s',?_,rfl⟩⟩
   rw[hwh,hpt] at ep
   exact ep
 refine L2.hideG fun Z_ z_=>?_
 rintro σ' H2 ⟨p,t2,hp,rfl⟩
 subst z_
 clear I_
 have hc2:=hc1.same t2
 have sm:=B0s (s:=sg) (pt:=pt) (q:=q) (i:=i) ok wr.1 wr.2
 let I_:L2.St ->L2.Hp ->Prop:=fun σ' H'=>∃m,B7 H2 H'/\H2 m=none/\Z0 CN H' m ⟨.plain,sg,(A0f v sg wh pt q i).1,(A0f v sg wh pt q i).2⟩/\σ'=[sr c,si sg,sr x,si i,si q,sr p,sr m,none]
 refine⟨I_,?_,?_⟩
 . refine⟨_,rfl,p,_,_,_,rfl,rfl,SqT.of hp,Y0 (j:=1) rfl,rfl,_,rfl,U8 (fun h=>?_) (fun h=>?_)⟩
   . have h:pt=0:=by injection h
     refine⟨_,rfl,_,rfl,_,rfl,p,_,_,_,rfl,rfl,SqT.of hp,Y0 (j:=0) rfl,_,rfl,i,sg,wh,q,rfl,fun m H' nm s' num=>⟨m,s',nm,?_,rfl⟩⟩
     unfold A0f
     rw[if_pos h]
     exact num
   . have h:¬pt=0:=fun z=>h (congrArg V.int z)
     refine⟨_,rfl,_,rfl,_,rfl,_,rfl,_,rfl,c,v,a,b,xs,ys,p,sg,wh,pt,rfl,hc2,hp,fun H3 s3=>?_⟩
     refine⟨_,rfl,c,v,a,b,xs,ys,sg,_,q,rfl,hc2.same s3,ok,fun m H' nm s' num=>⟨m,s3.trans s',s3.free nm,?_,rfl⟩⟩
     unfold A0f
     rw[if_neg h]
     exact num
 refine L2.hideG fun Z_ z_=>?_
 rintro σ' H3 ⟨m,t3,nm,num,rfl⟩
 subst z_
 clear I_
 have hc3:=hc2.same t3
 have tA:=(t1.trans t2).trans t3
 have nmc:m≠c:=fun z=>by
   obtain⟨⟨dx,e⟩,_,_⟩:=hc2
   rw[z,e] at nm
   cases nm
 obtain⟨⟨dx,e3⟩,_,_⟩:=id hc3
 generalize hf:(A0f v sg wh pt q i).1=fg at*
 generalize hg:(A0f v sg wh pt q i).2=pw at*
 refine⟨fun σ' H'=>H'=H3/\A1t v.m fg pw=false/\σ'=[sr c,si sg,sr x,si i,si q,sr p,sr m,none],?_,?_⟩
 . refine⟨_,rfl,_,rfl,c,v,a,b,xs,ys,m,_,rfl,hc3,num,sm,_,rfl,?_⟩
   cases e:A1t v.m fg pw with
   |false=>exact V9 ⟨rfl,rfl,rfl⟩
   | true=>
     rw[e,if_pos rfl] at k
     refine Z7 ⟨_,rfl,c,dx,_,rfl,e3,A2q _ _ _ _ _ _,D0 (by decide),fun l nl=>?_⟩
     have u:=B7.upd (o:= .lst [.str "burst",.str "off",.str "cut"]) nl
     refine⟨c,v.r,v.y,v.l,v.m,a,b,xs,ys,.ref l,rfl,hc3.same u,by omega,.inl ⟨l,Q32,rfl,A6,by decide,C3r,fun hn a' H4 x4 na ct=>?_,fun z hz a' d H4 x4 na ct nd ed=>?_⟩⟩
     . refine⟨_,rfl,_,rfl,c,v,a',b,_,ys,sg,rfl,ct,ok,s0,s1,fun m' H5 s5 num5=>k.1 hn m' a' H5 (((Exc.of (tA.trans u)).trans x4).trans (.of s5)) (Z6.same ct s5) num5⟩
     . exact k.2 z hz a' d H4 ((Exc.of (tA.trans u)).trans x4) ct ed
 refine L2.hideG fun Z_ z_=>?_
 rintro σ' H4 ⟨rfl,e,rfl⟩
 subst z_
 rw[e,if_neg Bool.false_ne_true] at k
 let I_:L2.St ->L2.Hp ->Prop:=fun σ' H'=>∃l,B7 H4 H'/\H' l=some (.lst ((A0n pt (decide (pw>i))).map V.str))/\σ'=[sr c,si sg,sr x,si i,si q,sr p,sr m,sr l]
 refine⟨I_,?_,?_⟩
 . obtain⟨dn,en⟩:=id num
   exact⟨_,rfl,p,_,_,_,rfl,rfl,SqT.of (t3 _ _ hp),Y0 (j:=1) rfl,_,rfl,m,CN,dn,_,_,rfl,en,N.cl,N.n4,num4 _ _ _ _,_,rfl,_,_,rfl,rfl,pt,_,rfl,fun l nl=>⟨l,B7.upd nl,A6,rfl⟩⟩
 refine L2.hideG fun Z_ z_=>?_
 rintro σ' H5 ⟨l,t5,hl,rfl⟩
 subst z_
 clear I_
 refine⟨fun σ' H'=>hit ys (A0n pt (decide (pw>i))++A0m v.l ex.L pt)=none/\∃a',Exc c H H'/\Z6 CC H' c v a' b (V6 (xs++(A0n pt (decide (pw>i))++A0m v.l ex.L pt))) ys/\Z0 CN H' m ⟨.plain,sg,fg,pw⟩/\σ'=[sr c,si sg,sr x,si i,si q,sr p,sr m,sr l],?_,?_⟩
 . have ra5:=ev.same _ _ _ ra1 ((t2.trans t3).trans t5)
   obtain⟨dr,fs,er,nf,_⟩:=ev.ins _ _ ra5
   have hc5:=hc3.same t5
   refine⟨_,rfl,c,dx,_,rfl,t5 _ _ e3,A2q _ _ _ _ _ _,_,rfl,_,rfl,_,rfl,x,dr,_,rfl,er,nf,ev.first _ _ _ _ ra5 fun H6 t6=>?_⟩
   generalize ex.L=f at*
   refine⟨_,rfl,p,_,_,_,rfl,rfl,SqT.of ((t5.trans t6) _ _ (t3 _ _ hp)),Y0 (j:=1) rfl,c,v,a,b,xs,ys,f,pt,rfl,hc5.same t6,fun l2 nl2=>?_⟩
   have u2:=B7.upd (o:= .lst ((A0m v.l f pt).map V.str)) nl2
   have rl:=C8y (pt:=pt) (cut:=decide (pw>i)) (l:=v.l) (L:=f)
   rw[List.length_append] at rl
   refine⟨l,l2,_,_,rfl,rfl,(t6.trans u2) _ _ hl,A6,D0 (by rw[List.length_map,List.length_map];omega),fun l3 nl3=>?_⟩
   have u3:=B7.upd (o:= .lst ((A0n pt (decide (pw>i))).map V.str++(A0m v.l f pt).map V.str)) nl3
   have tB:=(t6.trans u2).trans u3
   have num7:=(num.same t5).same tB
   obtain⟨dn7,en7⟩:=id num7
   have keep:∀{H':Hp},Exc c _ H' ->Z0 CN H' m ⟨.plain,sg,fg,pw⟩:=fun x7=>⟨dn7,x7 _ _ en7 nmc⟩
   refine⟨c,v.r,v.y,v.l,v.m,a,b,xs,ys,.ref l3,rfl,(hc5.same tB),by omega,.inl ⟨l3,A0n pt (decide (pw>i))++A0m v.l f pt,rfl,by rw[A6,List.map_append],by rw[List.length_append];omega,C6g,fun hn a' H8 x8 na ct=>?_,fun z hz a' d H8 x8 na ct nd ed=>?_⟩⟩
   . exact⟨hn,a',(Exc.of (tA.trans (t5.trans tB))).trans x8,ct,keep x8,rfl⟩
   . exact k.2 z hz a' d H8 ((Exc.of (tA.trans (t5.trans tB))).trans x8) ct ed
 refine L2.hideG fun Z_ z_=>?_
 rintro σ' H6 ⟨hn,a',x6,ct,num6,rfl⟩
 subst z_
 exact⟨_,rfl,k.1 hn m a' H6 x6 ct num6⟩
noncomputable def A2n (t s:Int):Prop:=A8 (-s)<=t*A8 s/\t*A8 s<100*A8 (-s)
noncomputable def A0y (t s wh:Int):Prop:=0<=wh/\wh*wh*A8 (-s)<=t*A8 s/\t*A8 s<(wh+1)*(wh+1)*A8 (-s)
noncomputable def A6p (t s wh:Int):Int:=if wh*wh*A8 (-s)=t*A8 s then 0 else 1+(if decide ((2*wh+1)*(2*wh+1)*A8 (-s)<=4*(t*A8 s))=true then 1 else 0)+(if decide ((2*wh+1)*(2*wh+1)*A8 (-s)<4*(t*A8 s))=true then 1 else 0)
structure J0y(t s wh:Int):Prop where
 o1:IntMulOk t (A8 s)
 o2:IntMulOk wh wh
 o3:IntMulOk (wh*wh) (A8 (-s))
 o4:IntMulOk (wh+1) (wh+1)
 o5:IntMulOk ((wh+1)*(wh+1)) (A8 (-s))
 o6:IntMulOk (2*wh+1) (2*wh+1)
 o7:IntMulOk ((2*wh+1)*(2*wh+1)) (A8 (-s))
theorem B4e{s:Int}(h:s<=0):A8 s=1:=by unfold A8;rw[show s.toNat=0 by omega];rfl
theorem B6u{t s r:Int}(ht:0<t)(h1:A2n t s)(h2:A2n t r)(hp:(r-s) % 2=0):r<=s:=by
 apply Classical.byContradiction
 intro h
 have hs:s<=r:=by omega
 have c:=A1w hs
 have g:A8 2<=A8 (r-s):=Z5 (by omega)
 have e100:A8 2=100:=by decide+kernel
 rw[e100] at g
 have p1:=U0 (-s)
 have p2:=U0 (-r)
 have e:t*A8 r*A8 (-s)=t*A8 s*A8 (-r)*A8 (r-s):=by
   calc t*A8 r*A8 (-s)=t*(A8 r*A8 (-s)):=by ac_rfl
     _=t*(A8 s*A8 (-r)*A8 (r-s)):=by rw[c]
     _=t*A8 s*A8 (-r)*A8 (r-s):=by ac_rfl
 have a1:t*A8 r*A8 (-s)<100*A8 (-r)*A8 (-s):=Int.mul_lt_mul_of_pos_right h2.2 p1
 have hp:0<t*A8 s:=Int.mul_pos ht (U0 s)
 have a2:t*A8 s*A8 (-r)*100<=t*A8 s*A8 (-r)*A8 (r-s):=Int.mul_le_mul_of_nonneg_left g (Int.le_of_lt (Int.mul_pos hp p2))
 have a3:A8 (-s)*A8 (-r)<=t*A8 s*A8 (-r):=Int.mul_le_mul_of_nonneg_right h1.1 (Int.le_of_lt p2)
 have e2:100*A8 (-r)*A8 (-s)=A8 (-s)*A8 (-r)*100:=by ac_rfl
 have a4:A8 (-s)*A8 (-r)*100<=t*A8 s*A8 (-r)*100:=Int.mul_le_mul_of_nonneg_right a3 (by decide)
 rw[e,e2] at a1
 exact absurd (Int.lt_of_lt_of_le a1 (Int.le_trans a4 a2)) (Int.lt_irrefl _)
theorem C8q{t n f g:Int}(ht:0<t)(h1:A2n t (n-2*f))(h2:A2n t (n-2*g)):f=g:=by
 have a:=B6u ht h1 h2 (by omega)
 have b:=B6u ht h2 h1 (by omega)
 omega
noncomputable def SzQ (t:Int):Prop:=1<=t/\t<10^61
theorem B7h{t s:Int}(ht:SzQ t)(h:A2n t s): -61<=s/\s<=1:=by
 refine⟨?_,?_⟩
 . apply Classical.byContradiction
   intro hs
   have g:A8 61<=A8 (-s):=Z5 (by omega)
   have e61:A8 61=10^61:=by decide+kernel
   have a:=h.1
   rw[B4e (by omega:s<=0),Int.mul_one] at a
   rw[e61] at g
   have:=ht.2
   omega
 apply Classical.byContradiction
 intro hs
 have g:A8 2<=A8 s:=Z5 (by omega)
 have e2:A8 2=100:=by decide+kernel
 have a:=h.2
 rw[B4e (by omega: -s<=0)] at a
 have:1*A8 s<=t*A8 s:=Int.mul_le_mul_of_nonneg_right ht.1 (Int.le_of_lt (U0 _))
 omega
theorem A1x{s:Int}(h:s<=200):(A8 s).natAbs<2^700:=by
 unfold A8
 rw[Int.natAbs_natCast]
 exact Nat.lt_of_le_of_lt (Nat.pow_le_pow_right (by decide) (show s.toNat<=200 by omega)) (by decide+kernel)
theorem SzQ.small{t:Int}(h:SzQ t):t.natAbs<2^203:=by
 have e:(10^61:Int).natAbs<2^203:=by decide+kernel
 have:=h.1;have:=h.2
 omega
theorem B0u{k:Nat}(h:k<=1000):(2:Nat)^k<=2^1000:=Nat.pow_le_pow_right (by decide) h
theorem B7w{t s:Int}(ht:SzQ t)(h:s<=200):(t*A8 s).natAbs<2^903:=by
 rw[Int.natAbs_mul]
 exact Nat.lt_of_lt_of_le (Nat.mul_lt_mul'' ht.small (A1x h)) (Nat.le_of_eq (Nat.pow_add 2 203 700).symm)
theorem B9n{t s wh:Int}(ht:SzQ t)(h2:s<=200)(r:A0y t s wh):wh.natAbs<2^452:=by
 obtain⟨w0,w1,_⟩:=r
 obtain⟨n,rfl⟩:=Int.eq_ofNat_of_zero_le w0
 rw[Int.natAbs_natCast]
 have hh:=B7w ht h2
 have l1:(1:Int)<=A8 (-s):=U0 (-s)
 have a:(n:Int)*n*1<=(n:Int)*n*A8 (-s):=Int.mul_le_mul_of_nonneg_left l1 (Int.mul_nonneg w0 w0)
 have b:(n:Int)*n<=t*A8 s:=by omega
 have c:n*n<2^903:=by
   have:((n*n:Nat):Int)<=t*A8 s:=b
   omega
 apply Classical.byContradiction
 intro z
 have:2^452*2^452<=n*n:=Nat.mul_le_mul (by omega) (by omega)
 rw[<-Nat.pow_add] at this
 have q:(2:Nat)^903<=2^(452+452):=Nat.pow_le_pow_right (by decide) (by decide)
 exact absurd (Nat.lt_of_lt_of_le c (Nat.le_trans q this)) (Nat.lt_irrefl _)
theorem C6m{a:Int}{k:Nat}(h:a.natAbs<2^k):(a*a).natAbs<2^(k+k):=by
 rw[Int.natAbs_mul,Nat.pow_add]
 exact Nat.mul_lt_mul'' h h
theorem D7c{t s wh:Int}(ht:SzQ t)(h1: -200<=s)(h2:s<=200)(r:A0y t s wh):J0y t s wh:=by
 have rs:=B9n ht h2 r
 have w0:=r.1
 have l:(A8 (-s)).natAbs<2^1000:=Nat.lt_of_lt_of_le (A1x (by omega)) (B0u (by decide))
 have d:(2:Nat)^454=4*2^452:=by rw[show 454=2+452 from rfl,Nat.pow_add]
 have e:∀{a:Int},a.natAbs<2^454 ->a.natAbs<2^1000:=fun h=>Nat.lt_of_lt_of_le h (B0u (by decide))
 have e2:∀{a:Int},a.natAbs<2^454 ->(a*a).natAbs<2^1000:=fun h=>Nat.lt_of_lt_of_le (C6m h) (B0u (by decide))
 have b1:wh.natAbs<2^454:=by omega
 have b2:(wh+1).natAbs<2^454:=by omega
 have b3:(2*wh+1).natAbs<2^454:=by omega
 exact⟨Z3 (Nat.lt_of_lt_of_le ht.small (B0u (by decide))) (Nat.lt_of_lt_of_le (A1x h2) (B0u (by decide))),Z3 (e b1) (e b1),Z3 (e2 b1) l,Z3 (e b2) (e b2),Z3 (e2 b2) l,Z3 (e b3) (e b3),Z3 (e2 b3) l⟩
theorem C0y{t s a b:Int}(ha:A0y t s a)(hb:A0y t s b):b<=a:=by
 apply Classical.byContradiction
 intro h
 have p:=U0 (-s)
 have q:(a+1)*(a+1)<=b*b:=Int.mul_le_mul (by omega) (by omega) (by have:=ha.1;omega) hb.1
 have q2:(a+1)*(a+1)*A8 (-s)<=b*b*A8 (-s):=Int.mul_le_mul_of_nonneg_right q (Int.le_of_lt p)
 have:=ha.2.2
 have:=hb.2.1
 omega
theorem D8c{t s a b:Int}(ha:A0y t s a)(hb:A0y t s b):a=b:=Int.le_antisymm (C0y hb ha) (C0y ha hb)
noncomputable abbrev A3s:Stmt:=(J1 (top 6) 0)
structure C5u(K:Frag)(mg:Str ->Option Value)(CR CE:Addr):Prop where
 g:mg "Root"=some (.ref CR)
 ge:mg "Exact"=some (.ref CE)
 cl:Cls K CR
 n_top:A0a K CR "top"
 n_power:A0a K CR "power"
 ca:findIn K (.ref CR) "__class__"=some (some (.builtin "object.__class__"))
 sn:specialIn K (.builtin "object.__class__") "__get__"=some (some (.builtin "getset_descriptor.__get__"))
 tk:takesIn K (.builtin "object.__class__")=some true
 ob:mroIn K CR (.type "object")=some true
 up:kitOne K (.ref CR) (.ref CE)=some true
noncomputable def B7f (t n:V):List (Str×V):=Y5 "power" n (Y5 "top" t [])
theorem B5e(t n:V)(x:Str):(B7f t n).lookup x=if x="power" then some n else if x="top" then some t else none:=by
 unfold B7f
 rw[J0,J0]
 rfl
theorem C1k(t n:V):(B7f t n).lookup ("top":Str)=some t:=by rw[B5e,if_neg (by decide+kernel),if_pos rfl]
theorem B2s(t n:V):(B7f t n).lookup ("power":Str)=some n:=by rw[B5e,if_pos rfl]
theorem B4z(t n:V):(B7f t n).lookup ("first":Str)=none:=by rw[B5e,if_neg (by decide+kernel),if_neg (by decide+kernel)]
theorem C4a(t n:V):(B7f t n).lookup ("at":Str)=none:=by rw[B5e,if_neg (by decide+kernel),if_neg (by decide+kernel)]
noncomputable def A8w (CR:Addr) (H:Hp) (x:Addr) (t n:Int):Prop:=∃dx,H x=some (.ins CR dx (B7f (.int t) (.int n)))
theorem A8w.same{CR:Addr}{H H':Hp}{x:Addr}{t n:Int}(h:A8w CR H x t n)(s:B7 H H'):A8w CR H' x t n:=by
 obtain⟨dx,e⟩:=h
 exact⟨dx,s _ _ e⟩
noncomputable def B5c (CR:Addr):Sp:=fun vs H Q _=>∃(p dx:Addr) (t n:V),vs=[.ref p,t,n]/\H p=some (.ins CR dx [])/\∀H',H' p=some (.ins CR dx (B7f t n)) ->Exc p H H' ->Q .non H'
theorem D6c:B8 Q11 Q11 (A5 A3s):=scK
theorem C6e{f CR CE:Addr}{dV:Value}(F:D0g K "__init__" "Root.__init__" A3s dV f fd)(R:C5u K mg CR CE):C6 P w K mg base 1 f fd Q11 (B5c CR):=by
 refine F.ok2 D6c (fun vs H Q E h=>?_) (fun X cdv A outer s H vs Q E hX hr hx h=>?_)
 . obtain⟨p,dx,a,c,rfl,_⟩:=h
   rfl
 subst hX
 obtain⟨p,dx,a,c,rfl,hp,k⟩:=h
 refine⟨_,(A3 (A0t (pv 0) (pv 1) rfl) (A7 (A0t (pv 0) (pv 2) rfl))),?_⟩
 have l:∀(fs:List (Str×V)) (f:Str) (v:V) (n:Nat),fs.length<=n ->(Y5 f v fs).length<=n+1:=fun fs f v n h=>Nat.le_trans (A1g f v fs) (Nat.succ_le_succ h)
 refine⟨_,rfl,_,rfl,p,CR,dx,[],rfl,hp,R.cl,R.n_top,(by show 0<1000;decide),?_⟩
 refine⟨_,rfl,_,rfl,p,CR,dx,_,rfl,A6,R.cl,R.n_power,Nat.lt_of_le_of_lt (l _ _ _ 0 (Nat.le_refl _)) (by decide),?_⟩
 refine k _ A6 fun b o e hb=>?_
 rw[C7 hb,C7 hb]
 exact e
noncomputable def A4h (CR:Addr):Sp:=fun vs H Q _=>∃x t n,vs=[.ref x]/\A8w CR H x t n/\SzQ t/\ -900<=n/\n<=900/\∀f H',B7 H H' ->A2n t (n-2*f) ->Q (.int f) H'
noncomputable def B6q (CR:Addr):Sp:=fun vs H Q _=>∃x t n p,vs=[.ref x,.int p]/\A8w CR H x t n/\SzQ t/\ -200<=n-2*p/\n-2*p<=200/\
 ∀wh q H',B7 H H' ->H q=none ->A0y t (n-2*p) wh ->H' q=some (.tup [.int wh,.int (A6p t (n-2*p) wh)]) ->Q (.ref q) H'
structure D9j(P:Program)(w:World)(K:Frag)(mg:Str ->Option Value)(base:Heap)(CR fI:Addr)(fdI:FuncData)(d0:Value)(gP:List Value ->List Value ->List Value)(vP:List V ->List V ->List V):Prop where
 m:Mk K CR fI
 g:C6 P w K mg base 1 fI fdI Q11 (B5c CR)
 b3:V4 K fdI Q11 []
 b2:V4 K fdI Q11 [d0]
 r0:V0 (.int 0) d0
 kP:G2g K fdI Q11 ["power"] gP vP
 eP:∀x a c,vP [x,a] [c]=[x,a,c]
structure G7g(P:Program)(w:World)(K:Frag)(mg:Str ->Option Value)(base:Heap)(CR f1 f2:Addr)(fd1 fd2:FuncData):Prop where
 m1:A5v K CR "first" f1
 g1:C6 P w K mg base 4 f1 fd1 ["self"] (A4h CR)
 b1:V4 K fd1 ["self"] []
 m2:A5v K CR "at" f2
 g2:C6 P w K mg base 5 f2 fd2 Q25 (B6q CR)
 b2:V4 K fd2 Q25 []
theorem G5g{CR x dx:Addr}{H:Hp}{Q:VK}{E:XK}{t n:Int}(n1:H x=none)(n2:H dx=none)(ne:dx≠x)(k:∀H',B7 H H' ->A8w CR H' x t n ->Q .non H'):
   B5c CR [.ref x,.int t,.int n] (upd (upd H dx (.own x)) x (.ins CR dx [])) Q E:=
 ⟨x,dx,_,_,rfl,A6,fun H' e s=>k H' (fun c o z=>s c o (by rw[C7 (D9 z n1),C7 (D9 z n2)];exact z) (D9 z n1)) ⟨dx,e⟩⟩
noncomputable abbrev B4g:Stmt:=(top 9)
theorem G1b{n g:Nat}(hg:1<=g):n<((g+n/g)/2+1)*((g+n/g)/2+1):=by
 have q:n<g*(n/g+1):=by
   have:=Nat.div_add_mod n g
   have:=Nat.mod_lt n hg
   rw[Nat.mul_add,Nat.mul_one]
   omega
 generalize n/g=d at q
 have b:g+(d+1)<=2*((g+d)/2+1):=by omega
 generalize (g+d)/2+1=c at b
 have s1:(g+(d+1))*(g+(d+1))<=2*c*(2*c):=Nat.mul_le_mul b b
 have s2:4*(g*(d+1))<=(g+(d+1))*(g+(d+1)):=by
   generalize d+1=e
   rcases Nat.le_total g e with h|h
   . obtain⟨k,rfl⟩:=Nat.exists_eq_add_of_le h
     have e1:(g+(g+k))*(g+(g+k))=4*(g*(g+k))+k*k:=by
       simp only[Nat.mul_add,Nat.add_mul]
       have:=Nat.mul_comm k g
       omega
     omega
   . obtain⟨k,rfl⟩:=Nat.exists_eq_add_of_le h
     have e1:(e+k+e)*(e+k+e)=4*((e+k)*e)+k*k:=by
       simp only[Nat.mul_add,Nat.add_mul]
       have:=Nat.mul_comm k e
       omega
     omega
 have s3:2*c*(2*c)=4*(c*c):=by
   rw[Nat.mul_mul_mul_comm]
 omega
noncomputable def C2c:Sp:=fun vs H Q _=>∃n:Nat,vs=[.int (n:Int)]/\n<10^300/\∀r:Nat,r*r<=n ->n<(r+1)*(r+1) ->Q (.int (r:Int)) H
theorem scWRoot:B8 ["whole","guess","better"] ["whole"] (A5 B4g):=scK
theorem C7v(D:Def K mg "whole_root" ["whole"] B4g f fd)(dA:Def K mg "ten_to" ["count"] A4m f1 fd1)(dB:C6 P w K mg base 2 f1 fd1 ["count"] A5e)(dC:Def K mg "whole_lead" ["whole"] B0d f2 fd2)(dD:C6 P w K mg base 3 f2 fd2 ["whole"] B5p):C6 P w K mg base 4 f fd ["whole"] C2c:=by
 refine D.F.ok2 scWRoot (fun vs H Q E h=>?_) (fun X cdv A outer s H vs Q E hX hr hx h=>?_)
 . obtain⟨n,rfl,_⟩:=h
   rfl
 subst hX
 obtain⟨n,rfl,n2,k⟩:=h
 refine⟨_,(A3 (U2 (C8 G4 (pv 0) A2 (B9 _)) (A7 (B5 A2)) D6) (A3 (D3 (i:=1) scWRoot.nd rfl (Or.inl rfl) (U1 dA dB hr hx (A0 (A9 G9 (A9 D7 (U1 dC dD hr hx (A0 (pv 0) A4)) A2) A2) A4))) (A3 (D3 (i:=2) scWRoot.nd rfl (Or.inl rfl) (A9 D7 (A9 G9 (pv 1) (A9 D7 (pv 0) (pv 1))) A2)) (A3 (A2x PassesOwn.leaving (C8 A3d (pv 2) (pv 1) (B9 _)) (A3 (D3 (i:=1) scWRoot.nd rfl (Or.inl rfl) (pv 2)) (A7 (D3 (i:=2) scWRoot.nd rfl (Or.inl rfl) (A9 D7 (A9 G9 (pv 1) (A9 D7 (pv 0) (pv 1))) A2))))) (A7 (B5 (pv 1))))))),?_⟩
 have d2:(0:Int)<2/\(2:Int).natAbs.log2<9000:=⟨by decide,by decide+kernel⟩
 refine⟨_,rfl,rfl,_,rfl,U8 (fun h0=>?_) (fun h0=>?_)⟩
 . have e:n=0:=by
     have:(n:Int)=0:=by injection h0
     omega
   subst e
   exact k 0 (Nat.le_refl _) (by decide)
 have n1:1<=n:=by
   apply Classical.byContradiction
   intro z
   exact h0 (by rw[show n=0 by omega];rfl)
 have lg:∀{g:Nat},1<=g ->g<2^1000 ->0<(g:Int)/\(g:Int).natAbs.log2<9000:=fun h1 h2=>⟨by omega,Nat.lt_trans (A0r (k:=1000) (by rw[Int.natAbs_natCast];exact h2) (by decide)) (by decide)⟩
 refine⟨_,rfl,n,rfl,n1,Nat.lt_trans n2 (Nat.pow_lt_pow_right (by decide) (by decide)),fun L L1 L2=>?_⟩
 have l3:L<300:=(Nat.pow_lt_pow_iff_right (by decide:1<10)).mp (Nat.lt_of_le_of_lt L1 n2)
 refine⟨_,_,rfl,rfl,d2,_,_,rfl,rfl,L/2+1,rfl,by omega,?_⟩
 have g1:1<=10^(L/2+1):=Nat.pow_pos (by decide)
 have g2:10^(L/2+1)<2^1000:=Nat.lt_of_le_of_lt (Nat.pow_le_pow_right (by decide) (show L/2+1<=200 by omega)) (by decide+kernel)
 have g3:n<(10^(L/2+1)+1)*(10^(L/2+1)+1):=by
   have a:10^(L+1)<=10^(L/2+1)*10^(L/2+1):=by
     rw[<-Nat.pow_add]
     exact Nat.pow_le_pow_right (by decide) (by omega)
   have b:10^(L/2+1)*10^(L/2+1)<=(10^(L/2+1)+1)*(10^(L/2+1)+1):=Nat.mul_le_mul (Nat.le_succ _) (Nat.le_succ _)
   omega
 refine⟨_,rfl,_,rfl,_,rfl,_,_,rfl,rfl,lg g1 g2,_,_,rfl,rfl,_,_,rfl,rfl,d2,?_⟩
 refine A3g (fun σ H2=>H2=H/\∃g:Nat,1<=g/\g<2^1000/\n<(g+1)*(g+1)/\σ=[si (n:Int),si (g:Int),si (((g+n/g)/2:Nat):Int)]) (fun σ _=>match σ with| [_,some (.int c),_]=>c.toNat|_=>0) ?_ ?_ ?_
 . exact⟨rfl,10^(L/2+1),g1,g2,g3,rfl⟩
 . rintro σ H2 ⟨rfl,g,g1,g2,g3,rfl⟩
   refine⟨_,rfl,_,rfl,_,_,rfl,rfl,_,rfl,U8 (fun hlt=>?_) (fun hge=>?_)⟩
   . have hlt:(g+n/g)/2<g:=Int.ofNat_lt.mp hlt
     have b1:1<=(g+n/g)/2:=by
       rcases(by omega:g=1\/2<=g) with rfl|h
       . rw[Nat.div_one];omega
       . clear hlt
         generalize n/g=d
         omega
     have b3:=G1b (n:=n) g1
     generalize (g+n/g)/2=b at hlt b1 b3
     refine⟨_,rfl,_,rfl,_,rfl,_,rfl,_,_,rfl,rfl,lg b1 (Nat.lt_trans hlt g2),_,_,rfl,rfl,_,_,rfl,rfl,d2,⟨rfl,b,b1,Nat.lt_trans hlt g2,b3,rfl⟩,?_⟩
     show(b:Int).toNat<(g:Int).toNat
     omega
   . have hge:g<=(g+n/g)/2:=by
       have:¬((g+n/g)/2<g):=fun z=>hge (Int.ofNat_lt.mpr z)
       omega
     refine⟨_,rfl,k g ?_ g3⟩
     have:g<=n/g:=by omega
     exact(Nat.le_div_iff_mul_le (by omega)).mp this
 rintro σ H2 Q1 Q2 hQ ⟨v,e,v2,e2,i,j,e3,e4,b,e5,q⟩
 exact⟨v,e,v2,e2,i,j,e3,e4,b,e5,hQ _ _ q⟩
noncomputable abbrev C9j:Stmt:=(J1 (top 6) 2)
noncomputable abbrev B0p:Stmt:=(J1 (top 6) 1)
theorem D5c{t:Int}(h:SzQ t):∃n:Nat,t=(n:Int)/\1<=n/\n<10^61:=by
 obtain⟨n,rfl⟩:=Int.eq_ofNat_of_zero_le (show 0<=t by have:=h.1;omega)
 have:=h.1;have:=h.2
 exact⟨n,rfl,by omega,by omega⟩
theorem D6q{h m:Int}(hp:0<h):A4t (2*h) m=1+(if decide (m<=4*h)=true then 1 else 0)+(if decide (m<4*h)=true then 1 else 0):=by
 unfold A4t
 rw[decide_eq_true (by omega:0<2*h),show 2*(2*h)=4*h by omega]
 rfl
theorem A7h{t L:Nat}{n f:Int}(t1:10^L<=t)(t2:t<10^(L+1))(e:f=((L:Int)+n)/2):A2n t (n-2*f):=by
 have hs:n-2*f= -(L:Int)\/n-2*f=1-(L:Int):=by omega
 have key:∀u v:Nat,(u=0/\(v=L\/v+1=L))\/(u=1/\v=0/\L=0) ->10^v<=t*10^u/\t*10^u<100*10^v:=by
   rintro u v (⟨rfl,rfl|rfl⟩|⟨rfl,rfl,rfl⟩)
   . rw[Nat.pow_succ] at t2
     omega
   . rw[Nat.pow_succ] at t1
     rw[Nat.pow_succ,Nat.pow_succ] at t2
     omega
   . simp at t1 t2 ⊢
     omega
 have:=key (n-2*f).toNat (-(n-2*f)).toNat (by
   rcases hs with e|e
   . rw[e]
     exact .inl ⟨Int.toNat_of_nonpos (by omega),.inl (by rw[Int.neg_neg];exact Int.toNat_natCast L)⟩
   . rw[e]
     cases L with
     |zero=>exact .inr ⟨rfl,rfl,rfl⟩
     |succ j=>exact .inl ⟨Int.toNat_of_nonpos (by omega),.inr (by rw[show -(1-((j+1:Nat):Int))=(j:Int) by omega,Int.toNat_natCast])⟩)
 unfold A2n A8
 exact⟨Int.ofNat_le.mpr this.1,Int.ofNat_lt.mpr this.2⟩
theorem C9e:B8 ["self"] ["self"] (A5 B0p):=scK
theorem C4m{f f1 CR CE:Addr}(F:Fun K "first" "Root.first" B0p f fd)(dA:Def K mg "whole_lead" ["whole"] B0d f1 fd1)(dB:C6 P w K mg base 3 f1 fd1 ["whole"] B5p)(R:C5u K mg CR CE):C6 P w K mg base 4 f fd ["self"] (A4h CR):=by
 refine F.ok2 C9e (fun vs H Q E h=>?_) (fun X cdv A outer s H vs Q E hX hr hx h=>?_)
 . obtain⟨x,t,n,rfl,_⟩:=h
   rfl
 subst hX
 obtain⟨x,t,n,rfl,ra,ht,_,_,k⟩:=h
 refine⟨_,(A7 (B5 (A9 D7 (A9 G9 (U1 dA dB hr hx (A0 (U7 (pv 0) rfl) A4)) (U7 (pv 0) rfl)) A2))),?_⟩
 obtain⟨tn,rfl,ta,tb⟩:=D5c ht
 obtain⟨dx,e⟩:=id ra
 have d2:(0:Int)<2/\(2:Int).natAbs.log2<9000:=⟨by decide,by decide+kernel⟩
 refine⟨_,rfl,x,CR,dx,_,_,rfl,e,R.cl,R.n_top,C1k _ _,tn,rfl,ta,Nat.lt_trans tb (Nat.pow_lt_pow_right (by decide) (by decide)),fun L L1 L2=>?_⟩
 exact⟨_,rfl,x,CR,dx,_,_,rfl,e,R.cl,R.n_power,B2s _ _,_,_,rfl,rfl,_,_,rfl,rfl,d2,k _ H (B7.refl H) (A7h L1 L2 rfl)⟩
theorem scQAt:B8 ["self","power","shift","top","bottom","whole"] Q25 (A5 C9j):=scK
theorem G0b{f f1 f2 f3 CR CE:Addr}(F:Fun K "at" "Root.at" C9j f fd)(dA:Def K mg "ten_to" ["count"] A4m f1 fd1)(dB:C6 P w K mg base 2 f1 fd1 ["count"] A5e)
   (dC:Def K mg "part_of" Q15 A9n f2 fd2) (dD:C6 P w K mg base 1 f2 fd2 Q15 B6a) (dE:Def K mg "whole_root" ["whole"] B4g f3 fd3) (dF:C6 P w K mg base 4 f3 fd3 ["whole"] C2c) (R:C5u K mg CR CE) (O:Own mg):C6 P w K mg base 5 f fd Q25 (B6q CR):=by
 refine F.ok2 scQAt (fun vs H Q E h=>?_) (fun X cdv A outer s H vs Q E hX hr hx h=>?_)
 . obtain⟨x,t,n,p,rfl,_⟩:=h
   rfl
 subst hX
 obtain⟨x,t,n,p,rfl,⟨dx,e⟩,ht,h1,h2,k⟩:=h
 refine⟨_,(A3 (D3 (i:=2) scQAt.nd rfl (Or.inl rfl) (A9 Y4 (U7 (pv 0) rfl) (A9 G0 A2 (pv 1)))) (A3 (D3 (i:=3) scQAt.nd rfl (Or.inl rfl) (A9 G0 (U7 (pv 0) rfl) (U1 dA dB hr hx (A0 (Y3 (A3q hx.hd) (by rfl) O.max_ boot_max (A0 (pv 2) (A0 A2 A4))) A4)))) (A3 (D3 (i:=4) scQAt.nd rfl (Or.inl rfl) (U1 dA dB hr hx (A0 (Y3 (A3q hx.hd) (by rfl) O.max_ boot_max (A0 (A2j A0x (pv 2)) (A0 A2 A4))) A4))) (A3 (D3 (i:=5) scQAt.nd rfl (Or.inl rfl) (U1 dE dF hr hx (A0 (A9 D7 (pv 3) (pv 4)) A4))) (A3 (U2 (C8 G4 (A9 G0 (A9 G0 (pv 5) (pv 5)) (pv 4)) (pv 3) (B9 _)) (A7 (B5 (Y6 (A0 (pv 5) (A0 A2 A4))))) D6) (A7 (B5 (Y6 (A0 (pv 5) (A0 (U1 dC dD hr hx (A0 (A9 G0 A2 (pv 3)) (A0 (A9 G0 (A9 G0 (A9 G9 (A9 G0 A2 (pv 5)) A2) (A9 G9 (A9 G0 A2 (pv 5)) A2)) (pv 4)) A4))) A4)))))))))),?_⟩
 have z2:2<=sizeLine:=D0 (by decide)
 have mC':∀z n:Int, -(2^64)<n ->n<2^64 ->IntMulOk n z:=fun z n a b=>A2h.ok (.inl ⟨a,b⟩)
 have oT:IntMulOk t (A8 (n-2*p)):=Z3 (Nat.lt_of_lt_of_le ht.small (B0u (by decide))) (Nat.lt_of_lt_of_le (A1x h2) (B0u (by decide)))
 refine⟨_,rfl,x,CR,dx,_,_,rfl,e,R.cl,R.n_power,B2s _ _,_,rfl,_,_,rfl,rfl,mC' _ _ (by decide) (by decide),_,_,rfl,rfl,?_⟩
 refine⟨_,rfl,x,CR,dx,_,_,rfl,e,R.cl,R.n_top,C1k _ _,_,rfl,_,_,rfl,(n-2*p).toNat,congrArg (fun z=>[V.int z]) (G4z (n-2*p)),by omega,_,_,rfl,rfl,oT,?_⟩
 refine⟨_,rfl,_,rfl,_,_,rfl,(-(n-2*p)).toNat,congrArg (fun z=>[V.int z]) (G4z (-(n-2*p))),by omega,?_⟩
 have lp:0<A8 (-(n-2*p)):=U0 _
 have ll:(A8 (-(n-2*p))).natAbs.log2<9000:=Nat.lt_trans (A0r (A1x (by omega)) (by decide)) (by decide)
 have hp:0<t*A8 (n-2*p):=Int.mul_pos (by have:=ht.1;omega) (U0 _)
 have hs:=B7w ht h2
 obtain⟨hi,ehi⟩:=Int.eq_ofNat_of_zero_le (Int.le_of_lt hp)
 obtain⟨lo,elo⟩:=Int.eq_ofNat_of_zero_le (Int.le_of_lt lp)
 have b300:hi/lo<10^300:=by
   have a:hi<2^903:=by rw[ehi,Int.natAbs_natCast] at hs;exact hs
   exact Nat.lt_of_le_of_lt (Nat.div_le_self _ _) (Nat.lt_trans a (by decide+kernel))
 refine⟨_,rfl,_,rfl,_,_,rfl,rfl,⟨lp,ll⟩,hi/lo,(by show [V.int (t*A8 (n-2*p)/A8 (-(n-2*p)))]=_;rw[ehi,elo];rfl),b300,fun r r1 r2=>?_⟩
 have lo0:0<lo:=by omega
 have rt:A0y t (n-2*p) (r:Int):=by
   refine⟨by omega,?_,?_⟩
   . rw[ehi,elo]
     have:=(Nat.le_div_iff_mul_le lo0).mp r1
     exact Int.ofNat_le.mpr this
   . rw[ehi,elo]
     have:=(Nat.div_lt_iff_lt_mul lo0).mp r2
     exact Int.ofNat_lt.mpr this
 have m:=D7c ht h1 h2 rt
 refine⟨_,rfl,_,rfl,_,_,rfl,rfl,m.o2,_,rfl,_,_,rfl,rfl,m.o3,_,rfl,rfl,_,rfl,U8 (fun he=>?_) (fun hn=>?_)⟩
 . have he:(r:Int)*r*A8 (-(n-2*p))=t*A8 (n-2*p):=by injection he
   refine⟨_,rfl,z2,fun q nq=>k r q _ (B7.upd nq) nq rt ?_⟩
   rw[A6]
   unfold A6p
   rw[if_pos he]
 have hn:¬(r:Int)*r*A8 (-(n-2*p))=t*A8 (n-2*p):=fun z=>hn (congrArg V.int z)
 have m0:0<(2*(r:Int)+1)*(2*(r:Int)+1)*A8 (-(n-2*p)):=Int.mul_pos (Int.mul_pos (by omega) (by omega)) lp
 refine⟨_,rfl,_,rfl,_,_,rfl,rfl,mC' _ _ (by decide) (by decide),_,rfl,_,_,rfl,rfl,mC' _ _ (by decide) (by decide),_,_,rfl,rfl,_,rfl,_,_,rfl,rfl,mC' _ _ (by decide) (by decide),_,_,rfl,rfl,_,_,rfl,rfl,m.o6,_,rfl,_,_,rfl,rfl,m.o7,2*(t*A8 (n-2*p)),(2*(r:Int)+1)*(2*(r:Int)+1)*A8 (-(n-2*p)),?_,by omega,m0,z2,fun q nq=>k r q _ (B7.upd nq) nq rt ?_⟩
 . show [V.int (4*(t*A8 (n-2*p))),_]=[V.int (2*(2*(t*A8 (n-2*p)))),_]
   rw[show 2*(2*(t*A8 (n-2*p)))=4*(t*A8 (n-2*p)) by omega]
   rfl
 rw[A6,D6q hp]
 unfold A6p
 rw[if_neg hn]
theorem C2d:∀n:Nat,∃r:Nat,r*r<=n/\n<(r+1)*(r+1)
 |0=>⟨0,by decide,by decide⟩
 | n + 1=>by
   obtain⟨r,h1,h2⟩:=C2d n
   by_cases h:n+1<(r+1)*(r+1)
   . exact⟨r,by omega,h⟩
   . refine⟨r+1,by omega,?_⟩
     have:(r+1+1)*(r+1+1)=(r+1)*(r+1)+2*(r+1)+1:=by
       simp only[Nat.add_mul,Nat.mul_add]
       omega
     omega
theorem D7j{t s:Int}(ht:1<=t):∃w,A0y t s w:=by
 obtain⟨hi,ehi⟩:=Int.eq_ofNat_of_zero_le (Int.le_of_lt (Int.mul_pos (show 0<t by omega) (U0 s)))
 obtain⟨lo,elo⟩:=Int.eq_ofNat_of_zero_le (Int.le_of_lt (U0 (-s)))
 have lo0:0<lo:=by have:=U0 (-s);omega
 obtain⟨r,r1,r2⟩:=C2d (hi/lo)
 refine⟨r,by omega,?_,?_⟩
 . rw[ehi,elo]
   exact Int.ofNat_le.mpr ((Nat.le_div_iff_mul_le lo0).mp r1)
 rw[ehi,elo]
 exact Int.ofNat_lt.mpr ((Nat.div_lt_iff_lt_mul lo0).mp r2)
noncomputable def whQ (t s:Int):Int:=by
 classical exact if h:∃w,A0y t s w then Classical.choose h else 0
theorem B1q{t s:Int}(ht:1<=t):A0y t s (whQ t s):=by
 have h:=D7j (s:=s) ht
 unfold whQ
 rw[dif_pos h]
 exact Classical.choose_spec h
theorem C8m{t s w:Int}(ht:1<=t)(h:A0y t s w):whQ t s=w:=D8c (B1q ht) h
noncomputable def rooE (CR:Addr) (t n L:Int):Exa:=⟨fun H x=>A8w CR H x t n,L,fun q=>whQ t (n-2*q),fun q=>A6p t (n-2*q) (whQ t (n-2*q)),fun q=> -200<=n-2*q/\n-2*q<=200⟩
theorem G9n{CR:Addr}{t n L:Int}(ht:SzQ t)(n1: -900<=n)(n2:n<=900)(hL:A2n t (n-2*L)):ExV CR (A4h CR) (B6q CR) (rooE CR t n L) where
 same:=fun _ _ _ h s=>A8w.same h s
 ins:=fun _ _ h=>by
   obtain⟨dx,e⟩:=h
   exact⟨dx,_,e,B4z _ _,C4a _ _⟩
 first:=fun H x Q E h k=>⟨x,t,n,rfl,h,ht,n1,n2,fun f H' s ld=>by
   have ef:f=L:=C8q (show 0<t by have:=ht.1;omega) ld hL
   rw[ef]
   exact k H' s⟩
 at_:=fun H x q Q E h ok k=>⟨x,t,n,q,rfl,h,ht,ok.1,ok.2,fun wh p H' s np rt ep=>by
   have e:=C8m ht.1 rt
   refine k p H' s np ?_
   show H' p=some (.tup [.int (whQ t (n-2*q)),.int (A6p t (n-2*q) (whQ t (n-2*q)))])
   rw[e]
   exact ep⟩
theorem G8t{CR CE g1 g2:Addr}(RM:G7g P w K mg base CR g1 g2 gd1 gd2)(R:C5u K mg CR CE):ExM P w K mg base CR g1 g2 gd1 gd2 (A4h CR) (B6q CR):=⟨R.cl,RM.m1,RM.g1,RM.b1,RM.m2,RM.g2,RM.b2⟩
theorem G1t:Sz 1:=⟨by decide,by
 have:A8 1<=A8 1000:=Z5 (by decide)
 have e:A8 1=10:=rfl
 omega⟩
theorem G0v{f:Int}(h0:0<=f)(h:f≠0)(h1:f<=10^60-1):Sz f:=by
 refine⟨by omega,?_⟩
 have:A8 60<=A8 1000:=Z5 (by decide)
 have e:A8 60=10^60:=by decide+kernel
 omega
noncomputable def B1a:Nm:=⟨.none,0,0,0⟩
noncomputable def C2q (v:Cv) (s i:Int):Nm:=⟨.plain,s,0,C7e (A9a i (v.l-v.r+1)) v.m⟩
theorem A5p.same{CN CC CT:Addr}{H H1:Hp}{c:Addr}{v:Cv}{b:Addr}{xs ys:List Str}{res:Nm×List Str}{Q:VK}{E:XK}(k:A5p CN CC CT H c v b xs ys res Q E)(s:B7 H H1):A5p CN CC CT H1 c v b xs ys res Q E:=
 ⟨fun hn m a' H' x=>k.1 hn m a' H' ((Exc.of s).trans x),fun z hz a' d H' x=>k.2 z hz a' d H' ((Exc.of s).trans x)⟩
theorem D6w(tr:List Str):hit tr []=none:=by
 unfold hit
 rw[List.find?_eq_none]
 simp
theorem A5p.calm{CN CC CT:Addr}{H H1:Hp}{c n a:Addr}{v:Cv}{b:Addr}{xs ys:List Str}{x:Nm}{Q:VK}{E:XK}(k:A5p CN CC CT H c v b xs ys (x,[]) Q E)(ox:V6 xs=xs)(s:B7 H H1)(hc:Z6 CC H c v a b xs ys)(hn:Z0 CN H1 n x):Q (.ref n) H1:=
 k.1 (D6w _) n a H1 (Exc.of s) (by show Z6 CC H1 c v a b (V6 (xs++ [])) ys;rw[List.append_nil,ox];exact hc.same s) hn
deriving instance DecidableEq for Kd
noncomputable abbrev C0z:Stmt:=(top 39)
noncomputable def C9w (CN CC CT:Addr):Sp:=fun vs H Q E=>∃c v a b xs ys,vs=[.ref c]/\Z6 CC H c v a b xs ys/\xs.length<=900/\A5p CN CC CT H c v b xs ys (B1a,["void"]) Q E
theorem G0m:B8 ["context"] ["context"] (A5 C0z):=scK
theorem D6a{f f1 CN CC CB CT CW:Addr}{cw:Wy ->Addr}(D:Def K mg "void" ["context"] C0z f fd)(dA:Def K mg "nothing" [] A2v f1 fd1)(dB:C6 P w K mg base 3 f1 fd1 [] (A5f CN))(C:B1y P w K mg base CC CB CT CW cw):C6 P w K mg base 4 f fd ["context"] (C9w CN CC CT):=by
 refine D.F.ok2 G0m (fun vs H Q E h=>?_) (fun X cdv A outer s H vs Q E hX hr hx h=>?_)
 . obtain⟨c,v,a,b,xs,ys,rfl,_⟩:=h
   rfl
 subst hX
 obtain⟨c,v,a,b,xs,ys,rfl,hc,lx,k⟩:=h
 obtain⟨fR,fdR,mR,gR,bR⟩:=C.raised
 refine⟨_,(A3 (Y8 (A7b (pv 0) C.c.cl mR gR hr bR .nil hx (A0 (U5 (A0 C9 A4)) A4))) (A7 (B5 (C2r dA dB hr hx)))),?_⟩
 have z1:1<=sizeLine:=D0 (by decide)
 obtain⟨dx,e⟩:=hc.ins
 refine⟨_,rfl,c,dx,_,rfl,e,A2q _ _ _ _ _ _,z1,fun p np=>?_⟩
 have u:=B7.upd (o:= .lst [.str "void"]) np
 refine⟨c,v.r,v.y,v.l,v.m,a,b,xs,ys,_,rfl,hc.same u,by omega,.inl ⟨p,["void"],rfl,A6,by decide,by decide+kernel,fun hn a' H' x na ct=>?_,fun t ht a' d H' x na ct nd ed=>?_⟩⟩
 . exact⟨rfl,fun n H2 nn s2 num=>k.1 hn n a' H2 ((Exc.of u).trans (x.trans (Exc.of s2))) (A0d.same ct s2) num⟩
 exact k.2 t ht a' d H' ((Exc.of u).trans x) ct ed
noncomputable abbrev C2b:Stmt:=(top 41)
theorem C3d{t s s0 r:Int}(ht:1<=t)(h:A2n t s0)(hr:1<=r)(e:s<=s0+2*(r-1)):whQ t s<A8 r:=by
 have wq:=B1q (s:=s) ht
 have bp:=U0 (-s)
 have key:t*A8 s<A8 (2*r)*A8 (-s):=by
   have p0:=U0 (-s0)
   by_cases hs:s0<=s
   . have c:=A1w hs
     have q:t*A8 s*A8 (-s0)=t*A8 s0*A8 (-s)*A8 (s-s0):=by
       calc t*A8 s*A8 (-s0)=t*(A8 s*A8 (-s0)):=by ac_rfl
         _=t*(A8 s0*A8 (-s)*A8 (s-s0)):=by rw[c]
         _=t*A8 s0*A8 (-s)*A8 (s-s0):=by ac_rfl
     have a1:t*A8 s0*A8 (-s)<100*A8 (-s0)*A8 (-s):=Int.mul_lt_mul_of_pos_right h.2 bp
     have a2:t*A8 s0*A8 (-s)*A8 (s-s0)<100*A8 (-s0)*A8 (-s)*A8 (s-s0):=Int.mul_lt_mul_of_pos_right a1 (U0 _)
     have g:A8 (s-s0)<=A8 (2*(r-1)):=Z5 (by omega)
     have a3:100*A8 (-s0)*A8 (-s)*A8 (s-s0)<=100*A8 (-s0)*A8 (-s)*A8 (2*(r-1)):=Int.mul_le_mul_of_nonneg_left g (Int.le_of_lt (Int.mul_pos (Int.mul_pos (by decide) p0) bp))
     have e2:A8 (2*r)=100*A8 (2*(r-1)):=by
       unfold A8
       rw[show(2*r).toNat=(2*(r-1)).toNat+2 by omega,Nat.pow_add,Int.natCast_mul,Int.mul_comm]
       rfl
     have e3:100*A8 (-s0)*A8 (-s)*A8 (2*(r-1))=A8 (2*r)*A8 (-s)*A8 (-s0):=by rw[e2];ac_rfl
     exact Int.lt_of_mul_lt_mul_right (by rw[q, <-e3];omega) (Int.le_of_lt p0)
   . have c:=A1w (show s<=s0 by omega)
     have q:t*A8 s0*A8 (-s)=t*A8 s*A8 (-s0)*A8 (s0-s):=by
       calc t*A8 s0*A8 (-s)=t*(A8 s0*A8 (-s)):=by ac_rfl
         _=t*(A8 s*A8 (-s0)*A8 (s0-s)):=by rw[c]
         _=t*A8 s*A8 (-s0)*A8 (s0-s):=by ac_rfl
     have a1:t*A8 s0*A8 (-s)<100*A8 (-s0)*A8 (-s):=Int.mul_lt_mul_of_pos_right h.2 bp
     have d:=U0 (s0-s)
     have a2:t*A8 s*A8 (-s0)*1<=t*A8 s*A8 (-s0)*A8 (s0-s):=Int.mul_le_mul_of_nonneg_left (by omega) (Int.le_of_lt (Int.mul_pos (Int.mul_pos (by omega) (U0 _)) p0))
     have g:100<=A8 (2*r):=by
       have:A8 2<=A8 (2*r):=Z5 (by omega)
       have e:A8 2=100:=rfl
       omega
     have a3:100*(A8 (-s0)*A8 (-s))<=A8 (2*r)*(A8 (-s0)*A8 (-s)):=Int.mul_le_mul_of_nonneg_right g (Int.le_of_lt (Int.mul_pos p0 bp))
     have e3:100*A8 (-s0)*A8 (-s)=100*(A8 (-s0)*A8 (-s)):=by ac_rfl
     have e4:A8 (2*r)*(A8 (-s0)*A8 (-s))=A8 (2*r)*A8 (-s)*A8 (-s0):=by ac_rfl
     exact Int.lt_of_mul_lt_mul_right (a:=A8 (-s0)) (by rw[q] at a1;rw[<-e4];omega) (Int.le_of_lt p0)
 apply Classical.byContradiction
 intro z
 have w:A8 r<=whQ t s:=by omega
 have ww:A8 r*A8 r<=whQ t s*whQ t s:=Int.mul_le_mul w w (Int.le_of_lt (U0 _)) wq.1
 have e:A8 (2*r)=A8 r*A8 r:=by
   unfold A8
   rw[<-Int.natCast_mul, <-Nat.pow_add]
   congr 2
   omega
 have:=wq.2.1
 have b:A8 r*A8 r*A8 (-s)<=whQ t s*whQ t s*A8 (-s):=Int.mul_le_mul_of_nonneg_right ww (Int.le_of_lt bp)
 rw[e] at key
 omega
theorem B6b{v:Cv}{t n L:Int}(ok:v.Ok)(ht:SzQ t)(ld:A2n t (n-2*L))(n0: -200<=n)(n1:n<=200): -200<=n-2*v.fin L/\n-2*v.fin L<=200/\whQ t (n-2*v.fin L)<A8 v.r:=by
 have lb:=B7h ht ld
 have r1:=ok.r1;have r2:=ok.r2;have l1:=ok.l1;have l2:=ok.l2
 have rm:=C3d (s:=n-2*v.fin L) (r:=v.r) ht.1 ld r1 (by
   unfold Cv.fin A9a
   split<;>omega)
 refine⟨?_,?_,rm⟩
 . unfold Cv.fin A9a
   split<;>omega
 unfold Cv.fin A9a
 split<;>omega
noncomputable def setQ (v:Cv) (x:Nm) (L:Int):Nm×List Str:=A1r v 0 (whQ x.f (x.p-2*v.fin L)) (A6p x.f (x.p-2*v.fin L) (whQ x.f (x.p-2*v.fin L))) L (v.fin L) (x.p/2)
noncomputable def rootA (v:Cv) (x:Nm) (L:Int):Nm×List Str:=if x.k= .none then(B1a,[]) else if x.k= .plain/\x.f=0 then(C2q v x.s (x.p/2),[]) else if x.s=1 then(B1a,["void"]) else if x.k= .end_ then(x,[]) else setQ v x L
noncomputable def B3c (x:Nm) (L:Int):Prop:=x.k= .plain ->x.f≠0 ->A2n x.f (x.p-2*L)
noncomputable def B8y (K:Frag) (CN CC CT CB:Addr):Sp:=fun vs H Q E=>∃c v1,vs=[.ref c,v1]/\
 ((∃v a b xs ys n x L,v1= .ref n/\Z6 CC H c v a b xs ys/\v.Ok/\xs.length<=900/\V6 xs=xs/\Z0 CN H n x/\x.Ok/\B3c x L/\A5p CN CC CT H c v b xs ys (rootA v x L) Q E)\/(B0k K CN H v1/\E (.ref CB) none H))
theorem D9z:B8 Q26 Q26 (A5 C2b):=scK
theorem D6d{f f1 f2 f3 f4 f5 fQ CN CC CB' CT CQ CE:Addr}{fd fd1 fd2 fd3 fd4 fd5 fdQ:FuncData}{d0:Value}{gP:List Value ->List Value ->List Value}{vP:List V ->List V ->List V}(D:Def K mg "root" Q26 C2b f fd)(dA:Def K mg "need_number" ["thing"] B0b f1 fd1)(dB:C6 P w K mg base 1 f1 fd1 ["thing"] (C1u K CN CB'))
   (dC:Def K mg "nothing" [] A2v f2 fd2) (dD:C6 P w K mg base 3 f2 fd2 [] (A5f CN)) (dE:Def K mg "nought" Q23 A9t f3 fd3) (dF:C6 P w K mg base 3 f3 fd3 Q23 (B6j CN CC)) (dG:Def K mg "void" ["context"] C0z f4 fd4) (dH:C6 P w K mg base 4 f4 fd4 ["context"] (C9w CN CC CT))
   (dJ:Def K mg "settled" Q33 A6g f5 fd5) (dL:C6 P w K mg base 6 f5 fd5 Q33 (A9u CN CC CT CQ (A4h CQ) (B6q CQ))) (N:Num K mg CN) (MQ:D9j P w K mg base CQ fQ fdQ d0 gP vP) (RQ:C5u K mg CQ CE):C6 P w K mg base 7 f fd Q26 (B8y K CN CC CT CB'):=by
 refine D.F.ok2 D9z (fun vs H Q E h=>?_) (fun X cdv A outer s H vs Q E hX hr hx h=>?_)
 . obtain⟨c,v1,rfl,_⟩:=h
   rfl
 subst hX
 obtain⟨c,v1,rfl,h⟩:=h
 refine⟨_,(A3 (Y8 (U1 dA dB hr hx (A0 (pv 1) A4))) (A3 (U2 (C8 G4 (U7 (pv 1) rfl) C9 (B9 _)) (A7 (B5 (C2r dC dD hr hx))) D6) (A3 (U2 (PW.pt (A2t (C8 G4 (U7 (pv 1) rfl) C9 (B9 _)) (A1c (C8 G4 (U7 (pv 1) rfl) A2 (B9 _))))) (A7 (B5 (U1 dE dF hr hx (A0 (pv 0) (A0 (U7 (pv 1) rfl) (A0 (A9 D7 (U7 (pv 1) rfl) A2) A4)))))) D6) (A3 (U2 (C8 G4 (U7 (pv 1) rfl) A2 (B9 _)) (A7 (B5 (U1 dG dH hr hx (A0 (pv 0) A4)))) D6) (A3 (U2 (C8 G4 (U7 (pv 1) rfl) C9 (B9 _)) (A7 (B5 (pv 1))) D6) (A7 (B5 (U1 dJ dL hr hx (A0 (pv 0) (A0 A2 (A0 (A3u MQ.m MQ.g hr RQ.g MQ.b3 .nil hx (A0 (U7 (pv 1) rfl) (A0 (U7 (pv 1) rfl) A4))) (A0 (A9 D7 (U7 (pv 1) rfl) A2) A4)))))))))))),?_⟩
 rcases h with⟨v,a,b,xs,ys,n,x,L,rfl,hc,ok,lx,ox,hn,xo,hL,kk⟩|⟨bad,kk⟩
 . obtain⟨dn,en⟩:=id hn
   have xp0:=xo.p0;have xp1:=xo.p1;have xf0:=xo.f0;have xf1:=xo.f1;have xs0:=xo.s0;have xs1:=xo.s1
   have d2:(0:Int)<2/\(2:Int).natAbs.log2<9000:=⟨by decide,by decide+kernel⟩
   refine⟨_,rfl,_,rfl,.inl ⟨n,_,_,_,_,rfl,hn,?_⟩⟩
   unfold rootA at kk
   refine⟨_,rfl,n,CN,dn,_,_,rfl,en,N.cl,N.n1,num1 _ _ _ _,rfl,_,rfl,U8 (fun h=>?_) (fun h=>?_)⟩
   . rw[if_pos (eqS (b:= .none) h)] at kk
     exact⟨rfl,fun m H' nm sm num=>kk.calm ox sm hc num⟩
   have h1:x.k≠ .none:=neS (b:= .none) h
   rw[if_neg h1] at kk
   have rest:∀(_:¬(x.k= .plain/\x.f=0)),A5p CN CC CT H c v b xs ys (if x.s=1 then(B1a,["void"]) else if x.k= .end_ then(x,[]) else setQ v x L) Q E:=fun hp=>by
     rw[if_neg hp] at kk
     exact kk
   refine have els:¬(x.k= .plain/\x.f=0) ->_:= ?els;⟨_,rfl,n,CN,dn,_,_,rfl,en,N.cl,N.n1,num1 _ _ _ _,rfl,_,rfl,U8 (fun hp=>⟨_,rfl,n,CN,dn,_,_,rfl,en,N.cl,N.n3,C8b _ _ _ _,rfl,_,rfl,U8 (fun hf=>?A) (fun hf=>els fun z=>hf (congrArg V.int z.2))⟩) (fun hp=>els fun z=>hp (by rw[z.1];rfl))⟩
   case A=>
     rw[if_pos ⟨eqS (b:= .plain) hp,V.int.inj hf⟩] at kk
     exact⟨_,rfl,_,rfl,n,CN,dn,_,_,rfl,en,N.cl,N.n2,G1k _ _ _ _,_,rfl,n,CN,dn,_,_,rfl,en,N.cl,N.n4,num4 _ _ _ _,_,_,rfl,rfl,d2,c,v,a,b,xs,ys,x.s,x.p/2,rfl,hc,fun m H' nm sm num=>kk.calm ox sm hc num⟩
   intro hpf
   have kk:=rest hpf
   refine⟨_,rfl,n,CN,dn,_,_,rfl,en,N.cl,N.n2,G1k _ _ _ _,rfl,_,rfl,U8 (fun hs=>?_) (fun hs=>?_)⟩
   . rw[if_pos (V.int.inj hs)] at kk
     exact⟨_,rfl,c,v,a,b,xs,ys,rfl,hc,lx,kk⟩
   rw[if_neg fun z=>hs (congrArg V.int z)] at kk
   refine⟨_,rfl,n,CN,dn,_,_,rfl,en,N.cl,N.n1,num1 _ _ _ _,rfl,_,rfl,U8 (fun he=>?_) (fun he=>?_)⟩
   . rw[if_pos (eqS (b:= .end_) he)] at kk
     exact⟨_,rfl,kk.calm ox (B7.refl _) hc hn⟩
   have h2:x.k≠ .end_:=neS (b:= .end_) he
   rw[if_neg h2] at kk
   have hk:x.k= .plain:=by
     cases q:x.k with
     |plain=>rfl
     |end_=>exact absurd q h2
     |none=>exact absurd q h1
   have hf:x.f≠0:=fun z=>hpf ⟨hk,z⟩
   have ld:=hL hk hf
   refine⟨_,rfl,_,rfl,n,CN,dn,_,_,rfl,en,N.cl,N.n3,C8b _ _ _ _,_,rfl,n,CN,dn,_,_,rfl,en,N.cl,N.n4,num4 _ _ _ _,fun q dq m1 m2 me=>G5g m1 m2 me fun H4 s4 ra=>⟨rfl,?_⟩⟩
   have szq:SzQ x.f:=⟨by omega,Int.lt_of_le_of_lt xf1 (by decide+kernel)⟩
   obtain⟨q0,q1,wr⟩:=B6b ok szq ld xp0 xp1
   have wq:=B1q (t:=x.f) (s:=x.p-2*v.fin L) (by omega)
   obtain⟨dn4,en4⟩:=hn.same s4
   refine⟨_,rfl,n,CN,dn4,_,_,rfl,en4,N.cl,N.n4,num4 _ _ _ _,_,_,rfl,rfl,d2,⟨c,v,a,b,xs,ys,q,rooE CQ x.f x.p L,0,x.p/2,rfl,hc.same s4,ok,lx,G9n szq (by omega) (by omega) ld,ra,⟨q0,q1⟩,wq.1,wr,by decide,by decide,kk.same s4⟩⟩
 exact⟨_,rfl,_,rfl,.inr ⟨bad,kk⟩⟩
noncomputable abbrev C2x:Stmt:=(top 60)
noncomputable def C9n (K:Frag):Sp:=fun vs H Q _=>∃a ns k,vs=[.ref a,.int k]/\SqL K H a ((ns:List Int).map V.int)/\0<=k/\∀i,Q (.int i) H
theorem D9x:B8 Q27 Q27 (A5 C2x):=scK
theorem D5f(D:Def K mg "_law_cell_at" Q27 C2x f fd)(O:Own mg):sI P w K mg base 1 f fd Q27 (C9n K):=by
 refine G8.up (D.F.ok D9x (fun vs H Q E h=>?_) (fun cdv A outer s H vs Q E hr h=>?_))
 . obtain⟨a,ns,k,rfl,_⟩:=h
   rfl
 obtain⟨a,ns,i,rfl,hs,h0,k⟩:=h
 refine⟨_,(A3 (U2 (C8 A3d (pv 1) (Y3 B4n (by rfl) O.len_ PySem.boot_len (A0 (pv 0) A4)) (B9 _)) (A7 (B5 (Y2 V7 (pv 0) (pv 1) (fun _ _=>rfl)))) D6) (A7 (B5 A2))),?_⟩
 refine⟨_,rfl,_,rfl,a,_,rfl,.inl hs,_,_,rfl,rfl,_,rfl,?_⟩
 refine U8 (fun hlt=>?_) (fun _=>k 0)
 rw[List.length_map] at hlt
 obtain⟨j,rfl⟩:=Int.eq_ofNat_of_zero_le h0
 have hj:j<ns.length:=by omega
 exact⟨_,rfl,_,rfl,a,_,_,_,rfl,rfl,hs,Y0 (v:=V.int ns[j]) (by simp[hj]),k _⟩
noncomputable abbrev A3v:Stmt:=(top 61)
noncomputable def A6t:Sp:=fun vs H Q _=>∃c k,vs=[.int c,.int k]/\0<=k/\k<=100/\∀m,0<=m ->m<2147483629 ->Q (.int m) H
theorem C2a:B8 Q5 Q5 (A5 A3v):=scK
theorem C6s(D:Def K mg "_law_mixed" Q5 A3v f fd):sI P w K mg base 1 f fd Q5 A6t:=by
 refine G8.up (D.F.ok C2a (fun vs H Q E h=>?_) (fun cdv A outer s H vs Q E hr h=>?_))
 . obtain⟨c,k,rfl,_⟩:=h
   rfl
 obtain⟨c,i,rfl,h0,h1,k⟩:=h
 refine⟨_,(A7 (B5 (A9 U6 (A9 G0 (A9 U6 (A9 G9 (A9 G9 (A9 G0 (pv 0) (A9 G9 A2 (A9 G0 (A9 G0 A2 (pv 1)) (pv 1)))) (A9 G0 A2 (pv 1))) A2) A2) A2) A2))),?_⟩
 have q0:(0:Int)<=2*i*i:=Int.mul_nonneg (by omega) h0
 have q1:2*i*i<=200*100:=Int.mul_le_mul (by omega) h1 h0 (by decide)
 have m1:IntMulOk 2 i:=A2h.ok (.inl ⟨by decide,by decide⟩)
 have m2:IntMulOk (2*i) i:=A2h.ok (.inr ⟨by omega,by omega⟩)
 have m3:IntMulOk c (48271+2*i*i):=A2h.ok (.inr ⟨by omega,by omega⟩)
 have m4:IntMulOk 69621 i:=A2h.ok (.inl ⟨by decide,by decide⟩)
 have m5:∀z:Int,IntMulOk z 69621:=fun z=>A2h.ok (.inr ⟨by decide,by decide⟩)
 refine⟨_,rfl,_,rfl,_,_,rfl,rfl,m1,_,rfl,_,_,rfl,rfl,m2,_,_,rfl,rfl,_,_,rfl,rfl,m3,_,rfl,_,_,rfl,rfl,m4,_,_,rfl,rfl,_,_,rfl,rfl,_,_,rfl,rfl,(by show(0:Int)<2147483647;decide),_,_,rfl,rfl,m5 _,_,_,rfl,rfl,(by show(0:Int)<2147483629;decide),?_⟩
 exact k _ (Int.emod_nonneg _ (by decide)) (Int.emod_lt_of_pos _ (by decide))
noncomputable abbrev A8r:Stmt:=(top 62)
noncomputable def A7y:Sp:=fun vs H Q _=>∃n:Nat,vs=[.int (n:Int)]/\n<=600/\Q (.int ((10^n:Nat):Int)) H
theorem G1c:B8 ["_law_count"] ["_law_count"] (A5 A8r):=scK
theorem D6k(D:Def K mg "_law_ten" ["_law_count"] A8r f fd)(O:Own mg):sI P w K mg base 1 f fd ["_law_count"] A7y:=by
 refine G8.up (D.F.ok G1c (fun vs H Q E h=>?_) (fun cdv A outer s H vs Q E hr h=>?_))
 . obtain⟨n,rfl,_⟩:=h
   rfl
 obtain⟨n,rfl,hn,k⟩:=h
 refine⟨_,(A7 (B5 (V2 B2k (by rfl) O.int_ boot_int (A0 (A9 B8n C9 (A9 C0h C9 (pv 0))) A4)))),?_⟩
 have l1:("1":Str).length=1:=by decide+kernel
 have l0:("0":Str).length=1:=by decide+kernel
 refine⟨_,rfl,_,_,rfl,rfl,by omega,by omega,D0 (by rw[l0];omega),_,_,rfl,rfl,D0 (by rw[B0a,l0,l1];omega),?_⟩
 exact⟨C4h n,_,rfl,C5x n hn,by rw[B7c];omega,k⟩
noncomputable abbrev A9h:Stmt:=(top 63)
noncomputable abbrev A4v:Stmt:=(top 64)
noncomputable abbrev B0c:Stmt:=(top 65)
structure Nm.Wf(x:Nm):Prop where
 ok:x.Ok
 e:x.k= .end_ ->x.f=0/\x.p=0
 n:x.k= .none ->x.s=0/\x.f=0/\x.p=0
theorem B7n{s f p:Int}(h1:0<=s/\s<=1)(h2:0<=f/\f<=10^60-1)(h3: -200<=p/\p<=200):(Nm.mk .plain s f p).Wf:=⟨⟨h1.1,h1.2,h2.1,h2.2,h3.1,h3.2⟩,fun q=>(by cases q),fun q=>(by cases q)⟩
theorem G1m{s:Int}(h1:0<=s/\s<=1):(Nm.mk .end_ s 0 0).Wf:=⟨⟨h1.1,h1.2,by show(0:Int)<=0;decide,by show(0:Int)<=10^60-1;decide,by show(-200:Int)<=0;decide,by show(0:Int)<=200;decide⟩,fun _=>⟨rfl,rfl⟩,fun q=>(by cases q)⟩
theorem D6n:(Nm.mk .none 0 0 0).Wf:=⟨⟨by show(0:Int)<=0;decide,by show(0:Int)<=1;decide,by show(0:Int)<=0;decide,by show(0:Int)<=10^60-1;decide,by show(-200:Int)<=0;decide,by show(0:Int)<=200;decide⟩,fun q=>(by cases q),fun _=>⟨rfl,rfl,rfl⟩⟩
theorem D7q{L:Int}{n:Nat}(hn:n<=60):0<=L % ((10^n:Nat):Int)/\L % ((10^n:Nat):Int)<=10^60-1:=by
 have p:0<((10^n:Nat):Int):=Int.natCast_pos.mpr (Nat.pow_pos (by decide))
 have a:=Int.emod_nonneg L (Int.ne_of_gt p)
 have b:=Int.emod_lt_of_pos L p
 have c:(10:Nat)^n<=10^60:=Nat.pow_le_pow_right (by decide) hn
 have e:((10^60:Nat):Int)=10^60:=by decide+kernel
 omega
theorem C3v{L:Int}{n:Nat}(h1:1<=n)(hn:n<=60):0<=((10^n:Nat):Int)-1-L % 3/\((10^n:Nat):Int)-1-L % 3<=10^60-1:=by
 have c:(10:Nat)^n<=10^60:=Nat.pow_le_pow_right (by decide) hn
 have d:(10:Nat)^1<=10^n:=Nat.pow_le_pow_right (by decide) h1
 have e:((10^60:Nat):Int)=10^60:=by decide+kernel
 omega
theorem C4r{L:Int}{n:Nat}(hn:n<60):0<=((10^n:Nat):Int)*(1+L % 9)/\((10^n:Nat):Int)*(1+L % 9)<=10^60-1:=by
 have c:(10:Nat)^n<=10^59:=Nat.pow_le_pow_right (by decide) (by omega)
 have q:0<=1+L % 9/\1+L % 9<=9:=by omega
 generalize 1+L % 9=d at q
 have a:((10^n:Nat):Int)*d<=((10^59:Nat):Int)*9:=Int.mul_le_mul (Int.ofNat_le.mpr c) q.2 q.1 (by omega)
 have b:0<=((10^n:Nat):Int)*d:=Int.mul_nonneg (Int.natCast_nonneg _) q.1
 have e:((10^59:Nat):Int)*9<=10^60-1:=by decide+kernel
 exact⟨b,Int.le_trans a e⟩
noncomputable def B7r:Sp:=fun vs H Q _=>∃i,vs=[.int i]/\Q (.bl true) H
theorem C6t:B8 ["_law_thing"] ["_law_thing"] (A5 A9h):=scK
noncomputable def A5d:Sp:=fun vs H Q _=>∃c,vs=[.int c]/\∀(x:Nm) t H',x.Wf ->B7 H H' ->H' t=some (.tup x.vs) ->Q (.ref t) H'
theorem scLNumber:B8 Q45 ["_law_cell"] (A5 A4v):=scK
theorem B8e(D:Def K mg "_law_number" ["_law_cell"] A4v f fd)(dA:Def K mg "_law_mixed" Q5 A3v f1 fd1)(dB:sI P w K mg base 1 f1 fd1 Q5 A6t)
   (dC:Def K mg "_law_ten" ["_law_count"] A8r f2 fd2) (dD:sI P w K mg base 1 f2 fd2 ["_law_count"] A7y) (O:Own mg):sI P w K mg base 2 f fd ["_law_cell"] A5d:=by
 refine G8.up (D.F.ok scLNumber (fun vs H Q E h=>?_) (fun cdv A outer s H vs Q E hr h=>?_))
 . obtain⟨c,rfl,_⟩:=h
   rfl
 obtain⟨c,rfl,k⟩:=h
 have hx:V3 (A2g CX0 P w K mg base Q45 "_law_number" (A5 A4v) f cdv A outer s H E).nox EKF:=A2b
 refine⟨_,(A3 (B0 (D3 (i:=1) scLNumber.nd rfl (Or.inl rfl) (A9 U6 (A9 D7 (U9 dA dB hr hx (A0 (pv 0) (A0 A2 A4))) A2) A2))) (A3 (B0 (D3 (i:=2) scLNumber.nd rfl (Or.inl rfl) (A9 U6 (A9 D7 (U9 dA dB hr hx (A0 (pv 0) (A0 A2 A4))) A2) A2))) (A3 (B0 (U2 (C8 A3d (pv 1) A2 (B9 _)) (A7 (B5 (Y2 V7 (U5 (A0 (Y6 (A0 C9 (A0 A2 (A0 A2 (A0 A2 A4))))) (A0 (Y6 (A0 C9 (A0 (pv 2) (A0 A2 (A0 A2 A4))))) A4))) (pv 1) (fun _ _=>rfl)))) D6)) (A3 (B0 (D3 (i:=3) scLNumber.nd rfl (Or.inl rfl) (Y2 V7 (U5 (A0 A2 (A0 A2 (A0 A2 (A0 A2 (A0 A2 (A0 A2 (A0 A2 (A0 A2 (A0 A2 (A0 A2 (A0 A2 (A0 A2 A4))))))))))))) (A9 U6 (A9 D7 (U9 dA dB hr hx (A0 (pv 0) (A0 A2 A4))) A2) A2) (fun _ _=>rfl)))) (A3 (B0 (D3 (i:=4) scLNumber.nd rfl (Or.inl rfl) A2)) (A3 (B0 (B0h PassesOwn.never rfl (A1v rfl O.range_ (A0 (A9 G9 A2 (A9 D7 (pv 3) A2)) A4)) (D4 (i:=5) scLNumber.nd rfl (Or.inl rfl)) (A7 (D3 (i:=4) scLNumber.nd rfl (Or.inl rfl) (A9 G9 (A9 G0 (pv 4) A2) (U9 dA dB hr hx (A0 (pv 0) (A0 (A9 G9 A2 (pv 5)) A4)))))))) (A3 (B0 (D3 (i:=6) scLNumber.nd rfl (Or.inl rfl) (A9 U6 (pv 4) (U9 dC dD hr hx (A0 (pv 3) A4))))) (A3 (B0 (U2 (C8 A3d (pv 1) A2 (B9 _)) (A7 (D3 (i:=6) scLNumber.nd rfl (Or.inl rfl) A2)) (A7 (U2 (C8 A3d (pv 1) A2 (B9 _)) (A7 (D3 (i:=6) scLNumber.nd rfl (Or.inl rfl) (A9 Y4 (A9 Y4 (U9 dC dD hr hx (A0 (pv 3) A4)) A2) (A9 U6 (pv 4) A2)))) (A7 (U2 (C8 A3d (pv 1) A2 (B9 _)) (A7 (D3 (i:=6) scLNumber.nd rfl (Or.inl rfl) (A9 G0 (U9 dC dD hr hx (A0 (A9 Y4 (pv 3) A2) A4)) (A9 G9 A2 (A9 U6 (pv 4) A2))))) D6)))))) (A3 (B0 (D3 (i:=7) scLNumber.nd rfl (Or.inl rfl) (A9 Y4 (A9 U6 (A9 D7 (U9 dA dB hr hx (A0 (pv 0) (A0 A2 A4))) A2) A2) A2))) (A3 (B0 (U2 (C8 G4 (A9 U6 (A9 D7 (U9 dA dB hr hx (A0 (pv 0) (A0 A2 A4))) A2) A2) A2 (B9 _)) (A7 (D3 (i:=7) scLNumber.nd rfl (Or.inl rfl) (Y2 V7 (U5 (A0 (A2j A0x A2) (A0 A2 (A0 A2 (A0 (A2j A0x A2) (A0 A2 (A0 (A2j A0x A2) (A0 A2 (A0 (A2j A0x A2) A4))))))))) (A9 U6 (A9 D7 (U9 dA dB hr hx (A0 (pv 0) (A0 A2 A4))) A2) A2) (fun _ _=>rfl)))) D6)) (A7 (B5 (Y6 (A0 C9 (A0 (pv 2) (A0 (pv 6) (A0 (pv 7) A4))))))))))))))))),?_⟩
 have z2:2<=sizeLine:=D0 (by decide)
 have z4:4<=sizeLine:=D0 (by decide)
 have z8:8<=sizeLine:=D0 (by decide)
 have z12:12<=sizeLine:=D0 (by decide)
 have d7:(0:Int)<7/\(7:Int).natAbs.log2<9000:=⟨by decide,by decide+kernel⟩
 have d8:(0:Int)<8/\(8:Int).natAbs.log2<9000:=⟨by decide,by decide+kernel⟩
 have mC:∀z n:Int, -(2^64)<n ->n<2^64 ->IntMulOk z n:=fun z n a b=>A2h.ok (.inr ⟨a,b⟩)
 have pT:∀n:Nat,0<((10^n:Nat):Int):=fun n=>Int.natCast_pos.mpr (Nat.pow_pos (by decide))
 let I_:L2.St ->L2.Hp ->Prop:=fun σ' H'=>∃kd:Int,H'=H/\0<=kd/\kd<24/\σ'=[si c,si kd,none,none,none,none,none,none]
 refine⟨I_,?_,?_⟩
 . refine⟨_,rfl,c,1,rfl,by decide,by decide,fun m _ _=>⟨_,_,rfl,rfl,d7,_,_,rfl,rfl,(by decide:(0:Int)<24),_,rfl,Int.emod_nonneg _ (by decide),Int.emod_lt_of_pos _ (by decide),rfl⟩⟩
 refine L2.hideG fun Z_ z_=>?_
 rintro σ' H' ⟨kd,rfl,k0,k1,rfl⟩
 subst z_
 clear I_
 refine⟨fun σ' H2=>∃sg:Int,H2=H'/\0<=sg/\sg<=1/\σ'=[si c,si kd,si sg,none,none,none,none,none],?_,?_⟩
 . refine⟨_,rfl,c,2,rfl,by decide,by decide,fun m _ _=>⟨_,_,rfl,rfl,d7,_,_,rfl,rfl,(by decide:(0:Int)<2),m/7 % 2,rfl,by omega,by omega,rfl⟩⟩
 refine L2.hideG fun Z_ z_=>?_
 rintro σ' H2 ⟨sg,rfl,s0,s1,rfl⟩
 subst z_
 refine⟨fun σ' H3=>H3=H2/\σ'=[si c,si kd,si sg,none,none,none,none,none],?_,?_⟩
 . refine⟨_,rfl,_,_,rfl,rfl,_,rfl,U8 (fun hk=>?_) (fun hk=>⟨rfl,rfl⟩)⟩
   refine⟨z4,fun t1 n1=>?_⟩
   have u1:=B7.upd (o:= .tup [.str "none",.int 0,.int 0,.int 0]) n1
   refine⟨_,rfl,z4,fun t2 n2=>⟨z2,fun l nl=>?_⟩⟩
   have u2:=B7.upd (o:= .tup [.str "end",.int sg,.int 0,.int 0]) n2
   have u3:=B7.upd (o:= .lst [.ref t1,.ref t2]) nl
   have hk:kd<2:=hk
   rcases(by omega:kd=0\/kd=1) with rfl|rfl
   . exact⟨_,rfl,l,_,_,_,rfl,rfl,SqL.of A6,Y0 (j:=0) rfl,k ⟨.none,0,0,0⟩ t1 _ D6n ((u1.trans u2).trans u3) ((u2.trans u3) _ _ A6)⟩
   . exact⟨_,rfl,l,_,_,_,rfl,rfl,SqL.of A6,Y0 (j:=1) rfl,k ⟨.end_,sg,0,0⟩ t2 _ (G1m ⟨s0,s1⟩) ((u1.trans u2).trans u3) (u3 _ _ A6)⟩
 rintro σ' H3 ⟨rfl,rfl⟩
 refine⟨fun σ' H4=>∃n:Nat,B7 H3 H4/\1<=n/\n<=60/\σ'=[si c,si kd,si sg,si (n:Int),none,none,none,none],?_,?_⟩
 . refine⟨z12,fun l nl=>⟨_,rfl,c,3,rfl,by decide,by decide,fun m _ _=>?_⟩⟩
   obtain⟨v,hv,ix⟩:=ixs (xs:=[1,1,2,2,3,3,4,5,9,12,24,60]) (i:=m/7 % 12) (Int.emod_nonneg _ (by decide)) (by show m/7 % 12<12;exact Int.emod_lt_of_pos _ (by decide))
   have bv:1<=v/\v<=60:=by
     simp only[List.mem_cons,List.not_mem_nil,or_false] at hv
     omega
   obtain⟨n,rfl⟩:=Int.eq_ofNat_of_zero_le (show 0<=v by omega)
   exact⟨_,_,rfl,rfl,d7,_,_,rfl,rfl,(by decide:(0:Int)<12),l,_,_,_,rfl,rfl,SqL.of A6,ix,n,B7.upd nl,by omega,by omega,rfl⟩
 refine L2.hideG fun Z_ z_=>?_
 rintro σ' H4 ⟨n,s4,n1,n2,rfl⟩
 subst z_
 refine⟨fun σ' H5=>H5=H4/\σ'=[si c,si kd,si sg,si (n:Int),si 0,none,none,none],⟨rfl,rfl⟩,?_⟩
 rintro σ' H5 ⟨rfl,rfl⟩
 refine⟨fun σ' H6=>H6=H5/\∃(L:Int) (v:Option V),σ'=[si c,si kd,si sg,si (n:Int),si L,v,none,none],?_,?_⟩
 . refine⟨_,rfl,_,_,rfl,rfl,d8,_,_,rfl,rfl,_,rfl,by omega,by omega,A7p (fun i σ' H6=>H6=H5/\∃(L:Int) (v:Option V),σ'=[si c,si kd,si sg,si (n:Int),si L,v,none,none]) ⟨rfl,0,none,rfl⟩ ?_ ?_⟩
   . rintro i σ' H6 hi ⟨rfl,L,v,rfl⟩
     exact⟨_,rfl,_,_,rfl,rfl,mC _ _ (by decide) (by decide),_,rfl,_,rfl,_,_,rfl,rfl,c,_,rfl,by omega,by omega,fun m _ _=>⟨_,_,rfl,rfl,rfl,_,_,rfl⟩⟩
   . rintro σ' H6 h
     exact h
 refine L2.hideG fun Z_ z_=>?_
 rintro σ' H6 ⟨rfl,L,v,rfl⟩
 subst z_
 refine⟨fun σ' H7=>H7=H6/\σ'=[si c,si kd,si sg,si (n:Int),si L,v,si (L % ((10^n:Nat):Int)),none],?_,?_⟩
 . exact⟨_,rfl,_,rfl,n,rfl,by omega,_,_,rfl,rfl,pT n,rfl,rfl⟩
 rintro σ' H7 ⟨rfl,rfl⟩
 refine⟨fun σ' H8=>H8=H7/\∃fg:Int,0<=fg/\fg<=10^60-1/\σ'=[si c,si kd,si sg,si (n:Int),si L,v,si fg,none],?_,?_⟩
 . have f1:=D7q (L:=L) n2
   have f2:=C3v (L:=L) n1 n2
   have f3:=C4r (L:=L) (n:=n-1) (by omega)
   refine⟨_,rfl,_,_,rfl,rfl,_,rfl,U8 (fun _=>⟨rfl,0,by decide,by decide,rfl⟩) (fun _=>?_)⟩
   refine⟨_,rfl,_,_,rfl,rfl,_,rfl,U8 (fun _=>?_) (fun _=>?_)⟩
   . exact⟨_,rfl,n,rfl,by omega,_,_,rfl,rfl,_,rfl,_,_,rfl,rfl,(by decide:(0:Int)<3),_,_,rfl,rfl,rfl,_,f2.1,f2.2,rfl⟩
   refine⟨_,rfl,_,_,rfl,rfl,_,rfl,U8 (fun _=>?_) (fun _=>⟨rfl,_,f1.1,f1.2,rfl⟩)⟩
   have mu:IntMulOk ((10^(n-1):Nat):Int) (1+L % 9):=A2h.ok (.inr ⟨by omega,by omega⟩)
   exact⟨_,rfl,_,_,rfl,rfl,n-1,(by show [V.int ((n:Int)-1)]=[V.int ((n-1:Nat):Int)];rw[show(n:Int)-1=((n-1:Nat):Int) by omega]),by omega,_,rfl,_,_,rfl,rfl,(by decide:(0:Int)<9),_,_,rfl,rfl,_,_,rfl,rfl,mu,rfl,_,f3.1,f3.2,rfl⟩
 refine L2.hideG fun Z_ z_=>?_
 rintro σ' H8 ⟨rfl,fg,g0,g1,rfl⟩
 subst z_
 refine⟨fun σ' H9=>H9=H8/\∃pw:Int, -200<=pw/\pw<=200/\σ'=[si c,si kd,si sg,si (n:Int),si L,v,si fg,si pw],?_,?_⟩
 . exact⟨_,rfl,c,14,rfl,by decide,by decide,fun m _ _=>⟨_,_,rfl,rfl,d7,_,_,rfl,rfl,(by decide:(0:Int)<13),_,_,rfl,rfl,rfl,m/7 % 13-6,by omega,by omega,rfl⟩⟩
 refine L2.hideG fun Z_ z_=>?_
 rintro σ' H9 ⟨rfl,pw,p0,p1,rfl⟩
 subst z_
 refine⟨fun σ' H10=>B7 H9 H10/\∃pw:Int, -200<=pw/\pw<=200/\σ'=[si c,si kd,si sg,si (n:Int),si L,v,si fg,si pw],?_,?_⟩
 . refine⟨_,rfl,c,15,rfl,by decide,by decide,fun m _ _=>⟨_,_,rfl,rfl,d7,_,_,rfl,rfl,(by decide:(0:Int)<12),rfl,_,rfl,U8 (fun _=>?_) (fun _=>⟨B7.refl _,pw,p0,p1,rfl⟩)⟩⟩
   refine⟨_,rfl,_,rfl,_,rfl,_,rfl,z8,fun l nl=>⟨_,rfl,c,16,rfl,by decide,by decide,fun m' _ _=>?_⟩⟩
   obtain⟨q,hq,ix⟩:=ixs (xs:=[-200,200,60, -60,97, -83,30, -30]) (i:=m'/7 % 8) (Int.emod_nonneg _ (by decide)) (by show m'/7 % 8<8;exact Int.emod_lt_of_pos _ (by decide))
   have bq: -200<=q/\q<=200:=by
     simp only[List.mem_cons,List.not_mem_nil,or_false] at hq
     omega
   exact⟨_,_,rfl,rfl,d7,_,_,rfl,rfl,(by decide:(0:Int)<8),l,_,_,_,rfl,rfl,SqL.of A6,ix,B7.upd nl,q,bq.1,bq.2,rfl⟩
 refine L2.hideG fun Z_ z_=>?_
 rintro σ' H10 ⟨s10,pw,p0,p1,rfl⟩
 subst z_
 refine⟨_,rfl,_,rfl,_,rfl,z4,fun t nt=>?_⟩
 exact k ⟨.plain,sg,fg,pw⟩ t _ (B7n ⟨s0,s1⟩ ⟨g0,g1⟩ ⟨p0,p1⟩) (s4.trans (s10.trans (B7.upd nt))) A6
noncomputable def C1g (CN:Addr):Sp:=fun vs H Q _=>∃t x,vs=[.ref t]/\H t=some (.tup (Nm.vs x))/\x.Wf/\∀n H',H n=none ->B7 H H' ->Z0 CN H' n x ->Q (.ref n) H'
theorem scLMade:B8 Q46 Q12 (A5 B0c):=scK
theorem C9t{f f1 f2 f3 CN CB:Addr}(D:Def K mg "_law_made" Q12 B0c f fd)(dA:Def K mg "plain" Q14 B5d f1 fd1)(dB:sI P w K mg base 3 f1 fd1 Q14 (C2y K CN CB))
   (dC:Def K mg "end" ["sign"] C6c f2 fd2) (dD:sI P w K mg base 3 f2 fd2 ["sign"] (C8w K CN CB)) (dE:Def K mg "nothing" [] A2v f3 fd3) (dF:sI P w K mg base 3 f3 fd3 [] (A5f CN)):sI P w K mg base 4 f fd Q12 (C1g CN):=by
 refine G8.up (D.F.ok scLMade (fun vs H Q E h=>?_) (fun cdv A outer s H vs Q E hr h=>?_))
 . obtain⟨t,x,rfl,_⟩:=h
   rfl
 obtain⟨t,x,rfl,ht,wf,k⟩:=h
 have hx:V3 (A2g CX0 P w K mg base Q46 "_law_made" (A5 B0c) f cdv A outer s H E).nox EKF:=A2b
 refine⟨_,(A3 (A2u (pv 0) (A2c rfl (D8 (D4 (i:=1) scLMade.nd rfl (Or.inl rfl)) (D8 (D4 (i:=2) scLMade.nd rfl (Or.inl rfl)) (D8 (D4 (i:=3) scLMade.nd rfl (Or.inl rfl)) (D8 (D4 (i:=4) scLMade.nd rfl (Or.inl rfl)) A0b)))))) (A3 (U2 (C8 G4 (pv 1) C9 (B9 _)) (A7 (B5 (U9 dA dB hr hx (A0 (pv 2) (A0 (pv 3) (A0 (pv 4) A4)))))) D6) (A3 (U2 (C8 G4 (pv 1) C9 (B9 _)) (A7 (B5 (U9 dC dD hr hx (A0 (pv 2) A4)))) D6) (A7 (B5 (G0t dE dF hr hx)))))),?_⟩
 have ok:=wf.ok
 have g1:A2y 0 1 (.int x.s):=⟨_,rfl,ok.s0,ok.s1⟩
 have g2:A2y 0 (10^60-1) (.int x.f):=⟨_,rfl,ok.f0,ok.f1⟩
 have g3:A2y (-200) 200 (.int x.p):=⟨_,rfl,ok.p0,ok.p1⟩
 refine⟨_,rfl,t,_,rfl,SqT.of ht,rfl,_,_,rfl,_,_,rfl,_,_,rfl,_,_,rfl,rfl,?_⟩
 refine⟨_,rfl,rfl,_,rfl,U8 (fun h=>?_) (fun h=>?_)⟩
 . have hk:x.k= .plain:=eqS (b:= .plain) h
   refine⟨_,rfl,_,rfl,_,rfl,_,_,_,rfl,.inl ⟨g1,g2,g3,fun n H' nn sm num=>k n H' nn sm ?_⟩⟩
   unfold Z0
   rw[hk]
   exact num
 have hk:x.k≠ .plain:=neS (b:= .plain) h
 refine⟨_,rfl,rfl,_,rfl,U8 (fun h=>?_) (fun h=>?_)⟩
 . have hk:x.k= .end_:=eqS (b:= .end_) h
   obtain⟨ef,ep⟩:=wf.e hk
   refine⟨_,rfl,_,rfl,.inl ⟨g1,fun n H' nn sm num=>k n H' nn sm ?_⟩⟩
   unfold Z0
   rw[hk,ef,ep]
   exact num
 have hk':x.k= .none:=by
   have a:=neS (b:= .end_) h
   cases q:x.k with
   |plain=>exact absurd q hk
   |end_=>exact absurd q a
   |none=>rfl
 obtain⟨es,ef,ep⟩:=wf.n hk'
 refine⟨rfl,fun n H' nn sm num=>k n H' nn sm ?_⟩
 unfold Z0
 rw[hk',es,ef,ep]
 exact num
structure A2e(H:Hp)(l:Addr)(ts:List (Addr×Nm)):Prop where
 l:H l=some (.lst (ts.map fun p=>V.ref p.1))
 t:∀p∈ts,H p.1=some (.tup p.2.vs)/\p.2.Wf
theorem A2e.same{H H':Hp}{l:Addr}{ts:List (Addr×Nm)}(h:A2e H l ts)(e:B7 H H'):A2e H' l ts:=⟨e _ _ h.l,fun p hp=>⟨e _ _ (h.t p hp).1,(h.t p hp).2⟩⟩
theorem D6s{H H':Hp}{l:Addr}{o:HO}(s:B7 H H')(n:H l=none):B7 H (upd H' l o):=fun b u e=>by
 rw[C7 (D9 e n)]
 exact s _ _ e
theorem C1r{α:Type}{f:α ->V}{R:α ->Prop}:∀{ys:List V},(∀(i:Nat) y,ys[i]?=some y ->∃a,y=f a/\R a) ->∃as:List α,ys=as.map f/\∀a∈as,R a
 | [],_=>⟨[],rfl,fun a h=>by simp at h⟩
 | y::ys,h=>by
   obtain⟨a,ha,ra⟩:=h 0 y rfl
   obtain⟨as,e,r⟩:=C1r (ys:=ys) (fun i z hz=>h (i+1) z (by simpa using hz))
   refine⟨a::as,by rw[ha,e];rfl,fun b hb=>?_⟩
   rcases List.mem_cons.mp hb with rfl|hb
   . exact ra
   . exact r b hb
noncomputable def rdS (zs:List Str):PyData:= .list (zs.map PyData.str)
noncomputable def OkL (zs:List Str):Prop:=zs.length<=100/\∀z∈zs,PyData.strOk z=true
theorem G5y:∀{zs:List Str},(∀z∈zs,PyData.strOk z=true) ->PyData.canLayAll0 (zs.map PyData.str)=true/\PyData.depthAll (zs.map PyData.str)<=1
 | [],_=>by simp[PyData.canLayAll0,PyData.depthAll]
 | z ::zs,h=>by
   obtain⟨a,b⟩:=G5y (zs:=zs) fun z' h'=>h z' (List.mem_cons_of_mem _ h')
   have c:=h z List.mem_cons_self
   constructor
   . simp[PyData.canLayAll0,PyData.canLay0,c,a]
   . simp only[List.map_cons,PyData.depthAll,PyData.depth]
     omega
theorem shS{zs:List Str}(h:OkL zs):SeqAt.shaped (rdS zs)=true:=by
 obtain⟨a,b⟩:=G5y h.2
 unfold SeqAt.shaped rdS
 simp only[PyData.canLay0,PyData.depth,a,Bool.and_true,Bool.and_eq_true,decide_eq_true_eq,List.length_map]
 exact⟨trivial,decide_eq_true (by omega)⟩
theorem G0q:∀zs:List Str,PyData.eqv (rdS zs) (rdS zs)=true:=by
 have h:∀zs:List Str,PyData.eqvAll (zs.map PyData.str) (zs.map PyData.str)=true:=fun zs=>by
   induction zs with
   |nil=>simp[PyData.eqvAll]
   |cons z zs ih=>simp[PyData.eqvAll,PyData.eqv,ih]
 intro zs
 simp[rdS,PyData.eqv,h]
theorem G6t{K:Frag}{H:Hp}:∀zs:List Str,B2a K H (zs.map V.str) (zs.map PyData.str)
 | []=> .nil
 |z::zs=> .cons (.str z) (G6t zs)
theorem A4d{K:Frag}{H:Hp}{p:Addr}{zs:List Str}(h:H p=some (.lst (zs.map V.str))):RdD K H (.ref p) (rdS zs):= .lst (SqL.of h) (G6t zs)
theorem C8p:∀z∈Y1,PyData.strOk z=true:=by decide+kernel
noncomputable def B2p (zs:List Str):Prop:=∃p:Str ->Bool,zs=Y1.filter p
theorem B2p.mem{zs:List Str}(h:B2p zs):∀z∈zs,z∈Y1:=by
 obtain⟨p,rfl⟩:=h
 exact fun z hz=>(List.mem_filter.mp hz).1
theorem A9z{zs ws:List Str}(h:B2p zs)(e:∀z,z∈ws↔z∈zs):V6 ws=zs:=by
 obtain⟨p,rfl⟩:=h
 unfold V6
 refine List.filter_congr fun z hz=>?_
 rw[Bool.eq_iff_iff,List.contains_iff_mem,e,List.mem_filter]
 simp[hz]
theorem G0p:∀i<7,Y1.idxOf (Y1.getD i "")=i:=by decide+kernel
noncomputable def B7x (k:Str) (s f p:Int):PyData:= .tuple [.str k,.int s,.int f,.int p]
theorem shD{k:Str}(s f p:Int)(h:PyData.strOk k=true):SeqAt.shaped (B7x k s f p)=true:=by
 unfold SeqAt.shaped B7x
 simp[PyData.canLay0,PyData.canLayAll0,PyData.depth,PyData.depthAll,h]
theorem eqD(k:Str)(s f p:Int):PyData.eqv (B7x k s f p) (B7x k s f p)=true:=by
 simp[B7x,PyData.eqv,PyData.eqvAll]
theorem rdD{K:Frag}{H:Hp}{d:Addr}{k:Str}{s f p:Int}(h:H d=some (.tup [.str k,.int s,.int f,.int p])):RdD K H (.ref d) (B7x k s f p):= .tup (SqT.of h) (.cons (.str _) (.cons (.int _) (.cons (.int _) (.cons (.int _) .nil))))
theorem okK(k:Kd):PyData.strOk k.str=true:=by cases k<;>decide+kernel
noncomputable abbrev C6j:Stmt:=(top 75)
theorem B8p(D:Def K mg "_law_whole" ["_law_thing"] A9h f fd)(O:Own mg)(T:Kit K):C6 P w K mg base 1 f fd ["_law_thing"] B7r:=by
 refine D.F.ok2 C6t (fun vs H Q E h=>?_) (fun X cdv A outer s H vs Q E hX hr hx h=>?_)
 . obtain⟨i,rfl,_⟩:=h
   rfl
 subst hX
 obtain⟨i,rfl,k⟩:=h
 refine⟨_,(A7 (B5 (A0e (A8y O.isi (pv 0) (pty O.int_ boot_int)) (Z8 (G2b (A8y O.isi (pv 0) (pty O.bool_ boot_bool))))))),?_⟩
 exact⟨_,rfl,_,_,_,_,true,rfl,rfl,B8a i,T.int_int,_,rfl,Z7 ⟨_,rfl,_,_,_,_,false,rfl,rfl,B8a i,T.int_bool,_,rfl,k⟩⟩
noncomputable def C8j (CN:Addr):Sp:=fun vs H Q _=>∃n q x,vs=[.ref n,.ref q]/\Z0 CN H n x/\H q=some (.tup (Nm.vs x))/\∀H',B7 H H' ->Q (.bl true) H'
theorem scLIs:B8 ["_law_found","_law_due","_law_made_here"] Q13 (A5 C6j):=scK
theorem G0e{f f1 f2 CN CB:Addr}(D:Def K mg "_law_is" Q13 C6j f fd)(dA:Def K mg "told" ["number"] C1b f1 fd1)(dB:C6 P w K mg base 2 f1 fd1 ["number"] (C6r K CN CB))(dC:Def K mg "_law_whole" ["_law_thing"] A9h f2 fd2)(dD:C6 P w K mg base 1 f2 fd2 ["_law_thing"] B7r)(O:Own mg)(T:Kit K):C6 P w K mg base 3 f fd Q13 (C8j CN):=by
 refine D.F.ok2 scLIs (fun vs H Q E h=>?_) (fun X cdv A outer s H vs Q E hX hr hx h=>?_)
 . obtain⟨n,q,x,rfl,_⟩:=h
   rfl
 subst hX
 obtain⟨n,q,x,rfl,num,eq,k⟩:=h
 have hu:=hr.units
 refine⟨_,(A3 (B0 (D3 (i:=2) scLIs.nd rfl (Or.inl rfl) (U1 dA dB hr hx (A0 (pv 0) A4)))) (A3 (B0 (U2 (PW.pt (A6x (A2a (A0q (A8y O.isi (pv 2) (pty O.tuple_ boot_tuple)))) (A6x (C8 (B8f hr.units) (pv 2) (pv 1) (B9 _)) (B0m (A2a (A0q (A8y O.isi (Y2 A2p (pv 2) A2 (fun _ _=>rfl)) (pty O.str_ boot_str)))))))) (A7 (B5 A1f)) D6)) (A7 (B5 (Y3 (C5j hx.hd) (by rfl) O.all_ boot_all (A0 (D0c (N:=["_law_part"]) ⟨rfl,by decide+kernel,by decide+kernel,by decide+kernel,by decide+kernel⟩ hx.hd (A9g (C9z G2d (pv 2) (D7a A2) D6e)) rfl (fun C s₀ H₀ ex pn h=>D4 (i:=0) (by decide+kernel:(["_law_part"]:List Str).Nodup) rfl (Or.inl rfl)) (fun C s₀ H₀ ex pn h=>(D5q h dC dD hr (A0 (pv 0) A4)))) A4)))))),?_⟩
 refine⟨fun σ' H'=>∃t,B7 H H'/\H' t=some (.tup x.vs)/\σ'=[sr n,sr q,sr t],⟨_,rfl,_,rfl,.inl ⟨n,_,_,_,_,rfl,num,fun t nt=>⟨t,B7.upd nt,A6,rfl⟩⟩⟩,?_⟩
 refine L2.hideG fun Z_ z_=>?_
 rintro σ' H1 ⟨t,s1,et,rfl⟩
 subst z_
 let I_:L2.St ->L2.Hp ->Prop:=fun σ' H'=>H'=H1/\σ'=[sr n,sr q,sr t]
 refine⟨I_,?_,?_⟩
 . refine⟨_,rfl,_,_,_,_,true,rfl,rfl,D9a et,T.tuple_tuple,_,rfl,V9 ?_⟩
   refine⟨_,rfl,_,rfl,B7x x.k.str x.s x.f x.p,B7x x.k.str x.s x.f x.p,rdD et,rdD (s1 _ _ eq),shD _ _ _ (okK _),shD _ _ _ (okK _),_,rfl,?_⟩
   rw[if_pos rfl,eqD]
   refine V9 ⟨_,rfl,t,_,_,_,rfl,rfl,SqT.of et,Y0 (j:=0) rfl,_,_,_,_,true,rfl,rfl,B6n _,T.str_str,_,rfl,V9 ⟨rfl,rfl⟩⟩
 rintro σ' H2 ⟨rfl,rfl⟩
 clear I_
 refine⟨_,rfl,1,rfl,t,x.vs,rfl,SqT.of et,(fun z=>absurd (show HT.sIx 4 0 (some 1)=0 from z.1) (by decide)),fun p np=>⟨p,rfl,⟨_,SqT.of A6⟩,?_⟩⟩
 have u1:=B7.upd (o:= .tup (C0c x.vs (some 1) none)) np
 have ep:upd H2 p (.tup (C0c x.vs (some 1) none)) p=some (.tup [.int x.s,.int x.f,.int x.p]):=A6
 generalize upd H2 p (.tup (C0c x.vs (some 1) none))=G at*
 refine A2w (J:=Itt K p) (n:=3) (fun _ y _=>y= .bl true) (by decide) (fun _ _ _ _ _ _ h _ _=>h) (fun i H3 Qy hi sm hy=>?_) (fun H3 sm=>⟨_,SqT.of (sm _ _ ep),Nat.le_refl 3⟩) (fun D H' ys sm nD eD hlen hR=>?_)
 . obtain⟨j,hj⟩:∃j:Int,([.int x.s,.int x.f,.int x.p]:List V)[i]?=some (.int j):=by
     rcases(by omega:i=0\/i=1\/i=2) with rfl|rfl|rfl<;>exact⟨_,rfl⟩
   refine⟨⟨_,_,SqT.of (sm _ _ ep),hj⟩,fun y H4 yl=>?_⟩
   obtain⟨rfl,yl⟩:=yl
   have e:=yl _ (SqT.of (sm _ _ ep))
   rw[hj] at e
   obtain rfl:=(Option.some.inj e).symm
   exact⟨_,rfl,j,rfl,hy _ _ (B7.refl _) rfl⟩
 have ey:ys=[true,true,true].map V.bl:=by
   match ys,hlen with
   | [a,b,c],_=>rw[hR 0 a rfl,hR 1 b rfl,hR 2 c rfl];rfl
 refine⟨D,[true,true,true],rfl,SqL.of (by rw[eD,ey]),k _ (s1.trans (u1.trans sm))⟩
noncomputable abbrev A4g:Stmt:=(top 74)
noncomputable def Rdy (CN:Addr) (wh:Int) (as:List V) (v:Cv) (c:Addr) (res:Nm×List Str) (H:Hp):Prop:=∃n x L,as=[.ref n]/\Z0 CN H n x/\x.Ok/\B3c x L/\res=rootA v x L/\n≠c
noncomputable def G6w (K:Frag) (CN:Addr) (wh:Int) (as:List V) (H:Hp):Prop:=∃v1,as=[v1]/\B0k K CN H v1
theorem Z0.keepD{CN:Addr}{H H':Hp}{n c:Addr}{x:Nm}(h:Z0 CN H n x)(k:∀b o,H b=some o ->(∀kv,o≠ .dK kv) ->b≠c ->H' b=some o)(hn:n≠c):Z0 CN H' n x:=by
 obtain⟨d,e⟩:=h
 exact⟨d,k _ _ e (fun _ z=>by cases z) hn⟩
theorem Rdy.keep{CN:Addr}{wh:Int}{as:List V}{v:Cv}{c:Addr}{res:Nm×List Str}{H H':Hp}(h:Rdy CN wh as v c res H)(k:∀b o,H b=some o ->(∀kv,o≠ .dK kv) ->b≠c ->H' b=some o):Rdy CN wh as v c res H':=by
 obtain⟨n,x,L,h1,m1,o1,hL,hr,c1⟩:=h
 exact⟨n,x,L,h1,m1.keepD k c1,o1,hL,hr,c1⟩
noncomputable def A7t (K:Frag) (CN CC CT CB:Addr):Sp:=fun vs H Q E=>∃wh c l as,vs=[.int wh,.ref c,.ref l]/\H l=some (.lst as)/\
 ((∃v a b xs ys res,Z6 CC H c v a b xs ys/\v.Ok/\xs.length<=900/\V6 xs=xs/\Rdy CN wh as v c res H/\A5p CN CC CT H c v b xs ys res Q E)\/(G6w K CN wh as H/\∀H',B7 H H' ->E (.ref CB) none H'))
theorem C4f:B8 Q10 Q10 (A5 A4g):=scK
theorem B8w{f f1 CN CC CB CT:Addr}(D:Def K mg "_law_called" Q10 A4g f fd)(dB:Def K mg "root" Q26 C2b f1 fd1)(dA:C6 P w K mg base 7 f1 fd1 Q26 (B8y K CN CC CT CB)):C6 P w K mg base 9 f fd Q10 (A7t K CN CC CT CB):=by
 refine D.F.ok2 C4f (fun vs H Q E h=>?_) (fun X cdv A outer s H vs Q E hX hr hx h=>?_)
 . obtain⟨wh,c,l,as,rfl,_⟩:=h
   rfl
 subst hX
 obtain⟨wh,c,l,as,rfl,el,h⟩:=h
 have go:∃v1,as=[v1]/\B8y K CN CC CT CB [.ref c,v1] H Q E:=by
   rcases h with⟨v,a,b,xs,ys,res,ct,ok,lx,ox,⟨n,x,L,rfl,m1,o1,hL,rfl,_⟩,k⟩|⟨⟨v1,rfl,bad⟩,k⟩
   . exact⟨_,rfl,c,_,rfl,.inl ⟨v,a,b,xs,ys,n,x,L,rfl,ct,ok,lx,ox,m1,o1,hL,k⟩⟩
   . exact⟨_,rfl,c,_,rfl,.inr ⟨bad,k H (B7.refl _)⟩⟩
 obtain⟨v1,rfl,k⟩:=go
 have dA:=C6.mono dA (show 7<=8 by decide)
 refine⟨_,(A7 (B5 (U1 dB dA hr hx (A0 (pv 1) (A0 (Y2 V7 (pv 2) A2 (fun _ _=>rfl)) A4))))),?_⟩
 exact⟨_,rfl,_,rfl,l,_,_,_,rfl,rfl,SqL.of el,Y0 (j:=0) rfl,k⟩
theorem B6d(n q:Int):∃d:Nat,A8 n*A8 (0-q)=A8 (n-q)*((10^d:Nat):Int)/\A8 (-n)*A8 (-(0-q))=A8 (-(n-q))*((10^d:Nat):Int):=by
 refine⟨n.toNat+(0-q).toNat-(n-q).toNat,?_,?_⟩
 . unfold A8
   rw[<-Int.natCast_mul, <-Int.natCast_mul, <-Nat.pow_add, <-Nat.pow_add]
   congr 2
   omega
 unfold A8
 rw[<-Int.natCast_mul, <-Int.natCast_mul, <-Nat.pow_add, <-Nat.pow_add]
 congr 2
 omega
theorem lead_scale{t b n L:Int}:A3b (t*A8 n) (b*A8 (-n)) (0-L)↔A3b t b (n-L):=by
 obtain⟨d,e1,e2⟩:=B6d n L
 have hk:0<((10^d:Nat):Int):=Int.natCast_pos.mpr (Nat.pow_pos (by decide))
 have a:t*A8 n*A8 (0-L)=t*A8 (n-L)*((10^d:Nat):Int):=by rw[Int.mul_assoc,e1,Int.mul_assoc]
 have c:b*A8 (-n)*A8 (-(0-L))=b*A8 (-(n-L))*((10^d:Nat):Int):=by rw[Int.mul_assoc,e2,Int.mul_assoc]
 unfold A3b
 rw[a,c,show 10*(b*A8 (-(n-L))*((10^d:Nat):Int))=10*(b*A8 (-(n-L)))*((10^d:Nat):Int) by ac_rfl]
 constructor
 . intro h
   exact⟨Int.le_of_mul_le_mul_right h.1 hk,Int.lt_of_mul_lt_mul_right h.2 (Int.le_of_lt hk)⟩
 intro h
 exact⟨Int.mul_le_mul_of_nonneg_right h.1 (Int.le_of_lt hk),Int.mul_lt_mul_of_pos_right h.2 hk⟩
theorem A9q(n:Nat)(h:1<=n):∃L:Nat,10^L<=n/\n<10^(L+1):=by
 induction n using Nat.strongRecOn with
 | ind n ih=>
   by_cases h10:n<10
   . exact⟨0,by simpa using h,by simpa using h10⟩
   . obtain⟨L,a,b⟩:=ih (n/10) (by omega) (by omega)
     refine⟨L+1,?_,?_⟩
     . rw[Nat.pow_succ];omega
     . rw[Nat.pow_succ];omega
theorem C2h{n j:Nat}(h1:n<10^(j+1))(h2:10^j<=n):A1k (n:Int)=(j:Int)+1:=by
 unfold A1k
 have e:(Str.ofString (toString (n:Int))).length=(Nat.toDigits 10 n).length:=by
   have:=congrArg List.length (KIN.signs_num n)
   rw[List.length_map] at this
   rw[<-this];rfl
 rw[e]
 have a:(Nat.toDigits 10 n).length<=j+1:=digits10_le (by omega) h1
 have b:j+1<=(Nat.toDigits 10 n).length:=digits10_ge h2
 omega
noncomputable abbrev A6b:Stmt:=(top 66)
noncomputable abbrev A3c:Stmt:=(top 67)
noncomputable abbrev B0v:Stmt:=(top 68)
noncomputable def Cv.tup (v:Cv):List V:=[.int v.r,.str v.y.name,.int v.l,.int v.m]
noncomputable def D9h:List Wy:=[.down,.up,.floor,.ceiling,.halfUp,.halfDown,.halfEven,.fiveUp]
noncomputable def B7y:Sp:=fun vs H Q _=>∃c,vs=[.int c]/\∀(v:Cv) t H',v.Ok ->B7 H H' ->H' t=some (.tup v.tup) ->Q (.ref t) H'
theorem scLRules:B8 Q47 ["_law_cell"] (A5 A6b):=scK
theorem C4z(D:Def K mg "_law_rules" ["_law_cell"] A6b f fd)(dA:Def K mg "_law_mixed" Q5 A3v f1 fd1)(dB:sI P w K mg base 1 f1 fd1 Q5 A6t):sI P w K mg base 2 f fd ["_law_cell"] B7y:=by
 refine G8.up (D.F.ok scLRules (fun vs H Q E h=>?_) (fun cdv A outer s H vs Q E hr h=>?_))
 . obtain⟨c,rfl,_⟩:=h
   rfl
 obtain⟨c,rfl,k⟩:=h
 have hx:V3 (A2g CX0 P w K mg base Q47 "_law_rules" (A5 A6b) f cdv A outer s H E).nox EKF:=A2b
 refine⟨_,(A3 (B0 (D3 (i:=1) scLRules.nd rfl (Or.inl rfl) (Y2 V7 (U5 (A0 A2 (A0 A2 (A0 A2 (A0 A2 (A0 A2 (A0 A2 (A0 A2 (A0 A2 A4))))))))) (A9 U6 (A9 D7 (U9 dA dB hr hx (A0 (pv 0) (A0 A2 A4))) A2) A2) (fun _ _=>rfl)))) (A3 (B0 (D3 (i:=2) scLRules.nd rfl (Or.inl rfl) (U5 (A0 C9 (A0 C9 (A0 C9 (A0 C9 (A0 C9 (A0 C9 (A0 C9 (A0 C9 A4))))))))))) (A3 (B0 (D3 (i:=3) scLRules.nd rfl (Or.inl rfl) (Y2 V7 (pv 2) (A9 U6 (A9 D7 (U9 dA dB hr hx (A0 (pv 0) (A0 A2 A4))) A2) A2) (fun _ _=>rfl)))) (A3 (B0 (D3 (i:=4) scLRules.nd rfl (Or.inl rfl) (Y2 V7 (U5 (A0 (A2j A0x A2) (A0 A2 (A0 (A2j A0x A2) (A0 (A2j A0x A2) (A0 (A2j A0x A2) (A0 (A2j A0x A2) A4))))))) (A9 U6 (A9 D7 (U9 dA dB hr hx (A0 (pv 0) (A0 A2 A4))) A2) A2) (fun _ _=>rfl)))) (A3 (B0 (D3 (i:=5) scLRules.nd rfl (Or.inl rfl) (Y2 V7 (U5 (A0 A2 (A0 A2 (A0 A2 (A0 A2 (A0 A2 (A0 A2 A4))))))) (A9 U6 (A9 D7 (U9 dA dB hr hx (A0 (pv 0) (A0 A2 A4))) A2) A2) (fun _ _=>rfl)))) (A7 (B5 (Y6 (A0 (pv 1) (A0 (pv 3) (A0 (pv 4) (A0 (pv 5) A4)))))))))))),?_⟩
 have z4:4<=sizeLine:=D0 (by decide)
 have z6:6<=sizeLine:=D0 (by decide)
 have z8:8<=sizeLine:=D0 (by decide)
 have d7:(0:Int)<7/\(7:Int).natAbs.log2<9000:=⟨by decide,by decide+kernel⟩
 let I_:L2.St ->L2.Hp ->Prop:=fun σ' H'=>B7 H H'/\∃r:Int,1<=r/\r<=24/\σ'=[si c,si r,none,none,none,none]
 refine⟨I_,?_,?_⟩
 . refine⟨z8,fun l nl=>⟨_,rfl,c,1,rfl,by decide,by decide,fun m _ _=>?_⟩⟩
   obtain⟨q,hq,ix⟩:=ixs (xs:=[1,2,3,4,5,9,24,2]) (i:=m/7 % 8) (Int.emod_nonneg _ (by decide)) (by show m/7 % 8<8;exact Int.emod_lt_of_pos _ (by decide))
   have bq:1<=q/\q<=24:=by
     simp only[List.mem_cons,List.not_mem_nil,or_false] at hq
     omega
   exact⟨_,_,rfl,rfl,d7,_,_,rfl,rfl,(by decide:(0:Int)<8),l,_,_,_,rfl,rfl,SqL.of A6,ix,B7.upd nl,q,bq.1,bq.2,rfl⟩
 refine L2.hideG fun Z_ z_=>?_
 rintro σ' H1 ⟨s1,r,r1,r2,rfl⟩
 subst z_
 clear I_
 let I_:L2.St ->L2.Hp ->Prop:=fun σ' H'=>∃l,B7 H H'/\H' l=some (.lst (D9h.map fun y=>V.str y.name))/\σ'=[si c,si r,sr l,none,none,none]
 refine⟨I_,?_,?_⟩
 . exact⟨z8,fun l nl=>⟨l,s1.trans (B7.upd nl),A6,rfl⟩⟩
 refine L2.hideG fun Z_ z_=>?_
 rintro σ' H2 ⟨l,s2,hl,rfl⟩
 subst z_
 clear I_
 let I_:L2.St ->L2.Hp ->Prop:=fun σ' H'=>H'=H2/\∃y:Wy,σ'=[si c,si r,sr l,sR y.name,none,none]
 refine⟨I_,?_,?_⟩
 . refine⟨_,rfl,_,rfl,c,2,rfl,by decide,by decide,fun m _ _=>?_⟩
   obtain⟨q,hq,ix⟩:=ixv (xs:=D9h.map fun y=>V.str y.name) (i:=m/7 % 8) (Int.emod_nonneg _ (by decide)) (by show m/7 % 8<8;exact Int.emod_lt_of_pos _ (by decide))
   obtain⟨y,_,rfl⟩:=List.mem_map.mp hq
   exact⟨_,_,rfl,rfl,d7,_,_,rfl,rfl,(by decide:(0:Int)<8),l,_,_,_,rfl,rfl,SqL.of hl,ix,rfl,y,rfl⟩
 refine L2.hideG fun Z_ z_=>?_
 rintro σ' H3 ⟨rfl,y,rfl⟩
 subst z_
 clear I_
 let I_:L2.St ->L2.Hp ->Prop:=fun σ' H'=>B7 H H'/\∃q:Int, -60<=q/\q<=0/\σ'=[si c,si r,sr l,sR y.name,si q,none]
 refine⟨I_,?_,?_⟩
 . refine⟨_,rfl,_,rfl,_,rfl,_,rfl,_,rfl,z6,fun p np=>⟨_,rfl,c,3,rfl,by decide,by decide,fun m _ _=>?_⟩⟩
   obtain⟨q,hq,ix⟩:=ixs (xs:=[-60,0, -2, -5, -9, -1]) (i:=m/7 % 6) (Int.emod_nonneg _ (by decide)) (by show m/7 % 6<6;exact Int.emod_lt_of_pos _ (by decide))
   have bq: -60<=q/\q<=0:=by
     simp only[List.mem_cons,List.not_mem_nil,or_false] at hq
     omega
   exact⟨_,_,rfl,rfl,d7,_,_,rfl,rfl,(by decide:(0:Int)<6),p,_,_,_,rfl,rfl,SqL.of A6,ix,s2.trans (B7.upd np),q,bq.1,bq.2,rfl⟩
 refine L2.hideG fun Z_ z_=>?_
 rintro σ' H4 ⟨s4,q,q1,q2,rfl⟩
 subst z_
 clear I_
 let I_:L2.St ->L2.Hp ->Prop:=fun σ' H'=>B7 H H'/\∃m:Int,0<=m/\m<=60/\σ'=[si c,si r,sr l,sR y.name,si q,si m]
 refine⟨I_,?_,?_⟩
 . refine⟨z6,fun p np=>⟨_,rfl,c,4,rfl,by decide,by decide,fun m _ _=>?_⟩⟩
   obtain⟨u,hu,ix⟩:=ixs (xs:=[60,0,2,5,9,1]) (i:=m/7 % 6) (Int.emod_nonneg _ (by decide)) (by show m/7 % 6<6;exact Int.emod_lt_of_pos _ (by decide))
   have bu:0<=u/\u<=60:=by
     simp only[List.mem_cons,List.not_mem_nil,or_false] at hu
     omega
   exact⟨_,_,rfl,rfl,d7,_,_,rfl,rfl,(by decide:(0:Int)<6),p,_,_,_,rfl,rfl,SqL.of A6,ix,s4.trans (B7.upd np),u,bu.1,bu.2,rfl⟩
 refine L2.hideG fun Z_ z_=>?_
 rintro σ' H5 ⟨s5,m,m1,m2,rfl⟩
 subst z_
 clear I_
 exact⟨_,rfl,_,rfl,_,rfl,_,rfl,z4,fun t nt=>k ⟨r,y,q,m⟩ t _ ⟨r1,r2,q1,q2,m1,m2⟩ (s5.trans (B7.upd nt)) A6⟩
noncomputable def A7k:Sp:=fun vs H Q _=>∃t b p:Int,vs=[.int t,.int b,.int p]/\ -600<=p/\p<=600/\IntMulOk t (A8 p)/\IntMulOk b (A8 (-p))/\∀q H',B7 H H' ->H' q=some (.tup [.int (t*A8 p),.int (b*A8 (-p))]) ->Q (.ref q) H'
theorem C3t:B8 Q8 Q8 (A5 A3c):=scK
theorem B8u(D:Def K mg "_law_scaled" Q8 A3c f fd)(dA:Def K mg "_law_ten" ["_law_count"] A8r f1 fd1)(dB:sI P w K mg base 1 f1 fd1 ["_law_count"] A7y):sI P w K mg base 2 f fd Q8 A7k:=by
 refine G8.up (D.F.ok C3t (fun vs H Q E h=>?_) (fun cdv A outer s H vs Q E hr h=>?_))
 . obtain⟨t,b,p,rfl,_⟩:=h
   rfl
 obtain⟨t,b,p,rfl,p0,p1,o1,o2,k⟩:=h
 have hx:V3 (A2g CX0 P w K mg base Q8 "_law_scaled" (A5 A3c) f cdv A outer s H E).nox EKF:=A2b
 refine⟨_,(A3 (U2 (C8 A3d (pv 2) A2 (B9 _)) (A7 (B5 (Y6 (A0 (pv 0) (A0 (A9 G0 (pv 1) (U9 dA dB hr hx (A0 (A9 Y4 A2 (pv 2)) A4))) A4))))) D6) (A7 (B5 (Y6 (A0 (A9 G0 (pv 0) (U9 dA dB hr hx (A0 (pv 2) A4))) (A0 (pv 1) A4)))))),?_⟩
 have z2:2<=sizeLine:=D0 (by decide)
 refine⟨_,rfl,_,_,rfl,rfl,_,rfl,U8 (fun h=>?_) (fun h=>?_)⟩
 . have h:p<0:=h
   rw[B4e (s:=p) (by omega),Int.mul_one] at k
   exact⟨_,rfl,_,rfl,_,rfl,_,_,rfl,rfl,(-p).toNat,(by show [V.int (0-p)]=_;rw[Int.toNat_of_nonneg (by omega),Int.zero_sub]),by omega,_,_,rfl,rfl,o2,z2,fun q nq=>k q _ (B7.upd nq) A6⟩
 have h:¬p<0:=h
 rw[B4e (s:= -p) (by omega),Int.mul_one] at k
 exact⟨_,rfl,_,rfl,p.toNat,(by show [V.int p]=_;rw[Int.toNat_of_nonneg (by omega)]),by omega,_,_,rfl,rfl,o1,_,rfl,z2,fun q nq=>k q _ (B7.upd nq) A6⟩
noncomputable def SzL (t:Int):Prop:=1<=t/\t<A8 500
theorem SzL.nat{t:Int}(h:SzL t):∃n:Nat,t=(n:Int)/\1<=n/\n<10^500:=by
 obtain⟨n,rfl⟩:=Int.eq_ofNat_of_zero_le (show 0<=t by have:=h.1;omega)
 exact⟨n,rfl,Int.ofNat_le.mp h.1,Int.ofNat_lt.mp h.2⟩
theorem SzL.sz{t:Int}(h:SzL t):Sz t:=⟨h.1,Int.lt_of_lt_of_le h.2 (Z5 (by decide))⟩
theorem SzL.log{t:Int}(h:SzL t):t.natAbs.log2<1920:=by
 obtain⟨n,rfl,_,hn⟩:=h.nat
 have:n<2^1670:=Nat.lt_of_lt_of_le (Nat.lt_of_lt_of_le hn (Nat.pow_le_pow_right (by decide) (by decide:500<=3*167))) (B6m 167)
 exact Nat.lt_trans (A0r (i:=(n:Int)) (k:=1670) (by rw[Int.natAbs_natCast];exact this) (by decide)) (by decide)
noncomputable def C2z:Sp:=fun vs H Q _=>∃t b:Int,vs=[.int t,.int b]/\SzL t/\SzL b/\∀L H',A3b t b (0-L) -> -501<=L ->L<=501 ->B7 H H' ->Q (.int L) H'
theorem scLLead:B8 Q48 Q34 (A5 B0v):=scK
theorem C9a(D:Def K mg "_law_lead" Q34 B0v f fd)(dA:Def K mg "_law_scaled" Q8 A3c f1 fd1)(dB:sI P w K mg base 2 f1 fd1 Q8 A7k)(O:Own mg):sI P w K mg base 3 f fd Q34 C2z:=by
 refine G8.up (D.F.ok scLLead (fun vs H Q E h=>?_) (fun cdv A outer s H vs Q E hr h=>?_))
 . obtain⟨t,b,rfl,_⟩:=h
   rfl
 obtain⟨t,b,rfl,ht,hb,k⟩:=h
 have hx:V3 (A2g CX0 P w K mg base Q48 "_law_lead" (A5 B0v) f cdv A outer s H E).nox EKF:=A2b
 refine⟨_,(A3 (D3 (i:=2) scLLead.nd rfl (Or.inl rfl) (A9 Y4 (Y3 A1u (by rfl) O.len_ PySem.boot_len (A0 (V2 A1s (by rfl) O.str_ boot_str (A0 (pv 0) A4)) A4)) (Y3 A1u (by rfl) O.len_ PySem.boot_len (A0 (V2 A1s (by rfl) O.str_ boot_str (A0 (pv 1) A4)) A4)))) (A3 (A2u (U9 dA dB hr hx (A0 (pv 0) (A0 (pv 1) (A0 (A9 Y4 A2 (pv 2)) A4)))) (A2c rfl (D8 (D4 (i:=3) scLLead.nd rfl (Or.inl rfl)) (D8 (D4 (i:=4) scLLead.nd rfl (Or.inl rfl)) A0b)))) (A7 (B5 (A9 Y4 (pv 2) (V2 A0j (by rfl) O.int_ boot_int (A0 (G6 A3d (pv 3) (pv 4) (B9 _)) A4))))))),?_⟩
 obtain⟨tn,et,t1,t2⟩:=ht.nat
 obtain⟨bn,eb,b1,b2⟩:=hb.nat
 obtain⟨L,l1,l2⟩:=A9q tn t1
 obtain⟨M,m1,m2⟩:=A9q bn b1
 have ft:A1k t=(L:Int)+1:=by rw[et];exact C2h l2 l1
 have fb:A1k b=(M:Int)+1:=by rw[eb];exact C2h m2 m1
 have lL:L<500:=(Nat.pow_lt_pow_iff_right (by decide:1<10)).mp (Nat.lt_of_le_of_lt l1 t2)
 have lM:M<500:=(Nat.pow_lt_pow_iff_right (by decide:1<10)).mp (Nat.lt_of_le_of_lt m1 b2)
 have es:0-(A1k t-A1k b)=(M:Int)-L:=by omega
 refine⟨_,rfl,_,rfl,ht.log,_,rfl,int_text_fits ht.log,_,rfl,_,rfl,hb.log,_,rfl,int_text_fits hb.log,_,_,rfl,rfl,?_⟩
 show G6p _ _ _ [si t,si b,si (A1k t-A1k b),none,none] H
 refine⟨_,rfl,_,rfl,_,rfl,_,_,rfl,rfl,t,b,0-(A1k t-A1k b),rfl,by omega,by omega,A7q ht.sz (by omega),A7q hb.sz (by omega),fun q H1 s1 eq=>?_⟩
 refine⟨q,_,rfl,SqT.of eq,rfl,_,_,rfl,_,_,rfl,rfl,?_⟩
 refine⟨_,rfl,_,rfl,_,rfl,_,_,rfl,rfl,.inr ⟨_,rfl,_,_,rfl,rfl,?_⟩⟩
 rw[es]
 subst et eb
 by_cases h:(tn:Int)*A8 ((M:Int)-L)<(bn:Int)*A8 (-((M:Int)-L))
 . rw[decide_eq_true h]
   refine k _ _ ?_ (by show -501<=A1k (tn:Int)-A1k (bn:Int)-1;omega) (by show A1k (tn:Int)-A1k (bn:Int)-1<=501;omega) s1
   have:=B9r l1 l2 m1 m2 h
   rw[show(0:Int)- (A1k (tn:Int)-A1k (bn:Int)- (if true=true then 1 else 0))=(M:Int)-L+1 by rw[if_pos rfl];omega]
   exact this
 rw[decide_eq_false h]
 refine k _ _ ?_ (by show -501<=A1k (tn:Int)-A1k (bn:Int)-0;omega) (by show A1k (tn:Int)-A1k (bn:Int)-0<=501;omega) s1
 have:=C3w l1 l2 m1 m2 (by omega)
 rw[show(0:Int)- (A1k (tn:Int)-A1k (bn:Int)- (if false=true then 1 else 0))=(M:Int)-L by rw[if_neg Bool.false_ne_true];omega]
 exact this
noncomputable abbrev B4p:Stmt:=(top 69)
noncomputable abbrev A6m:Stmt:=(top 70)
noncomputable abbrev A1z:Stmt:=(top 71)
noncomputable abbrev A6q:Stmt:=(top 73)
noncomputable def Wy.code:Wy ->Nat
 | .down=>0
 | .up=>1
 | .floor=>2
 | .ceiling=>3
 | .halfUp=>4
 | .halfDown=>5
 | .halfEven=>6
 | .fiveUp=>7
theorem dI(a b:Int):decide (V.int a=V.int b)=decide (a=b):=by
 by_cases h:a=b
 . rw[decide_eq_true h,decide_eq_true (congrArg V.int h)]
 rw[decide_eq_false h,decide_eq_false fun q=>h (by injection q)]
theorem nW{y z:Wy}(h:y.code≠z.code):¬V.str y.name=V.str z.name:=fun q=>h (by rw[Wy.inj (V.str.inj q)])
noncomputable def C2g:Sp:=fun vs H Q _=>∃(y:Wy) (s l t:Int),vs=[.str y.name,.int s,.int l,.int t]/\1<=t/\t<=3/\Q (.bl (y.goes s l t)) H
theorem D7e:B8 Q28 Q28 (A5 B4p):=scK
theorem C7y(D:Def K mg "_law_goes_up" Q28 B4p f fd):sI P w K mg base 1 f fd Q28 C2g:=by
 refine G8.up (D.F.ok D7e (fun vs H Q E h=>?_) (fun cdv A outer s H vs Q E hr h=>?_))
 . obtain⟨y,z,l,t,rfl,_⟩:=h
   rfl
 obtain⟨y,z,l,t,rfl,t1,t3,k⟩:=h
 refine⟨_,(A3 (U2 (PW.pt (A6x (C8 G4 (pv 0) C9 (B9 _)) (A6x (C8 G4 (pv 0) C9 (B9 _)) (B0m (C8 G4 (pv 0) C9 (B9 _)))))) (A7 (B5 (B3h (G6 G4 (pv 3) A2 (B9 _)) (Z8 (A0e (G6 G4 (pv 3) A2 (B9 _)) (Z8 (B3h (G6 G4 (pv 0) C9 (B9 _)) (Z8 (A0e (G6 G4 (pv 0) C9 (B9 _)) (Z8 (G6 G4 (A9 U6 (pv 2) A2) A2 (B9 _)))))))))))) D6) (A3 (U2 (C8 G4 (pv 0) C9 (B9 _)) (A7 (B5 (B3h (G6 G4 (pv 2) A2 (B9 _)) (Z8 (G6 G4 (pv 2) A2 (B9 _)))))) D6) (A7 (B5 (B3h (G6 G4 (pv 0) C9 (B9 _)) (B3h (A0e (G6 G4 (pv 0) C9 (B9 _)) (Z8 (G6 G4 (pv 1) A2 (B9 _)))) (Z8 (A0e (G6 G4 (pv 0) C9 (B9 _)) (Z8 (G6 G4 (pv 1) A2 (B9 _))))))))))),?_⟩
 cases y with
 | down=>
   exact⟨_,rfl,rfl,_,rfl,G5 (nW (y:= .down) (z:= .halfUp) (by decide)) ⟨_,rfl,rfl,_,rfl,G5 (nW (y:= .down) (z:= .halfDown) (by decide)) ⟨_,rfl,rfl,_,rfl,G5 (nW (y:= .down) (z:= .halfEven) (by decide)) ⟨_,rfl,rfl,_,rfl,G5 (nW (y:= .down) (z:= .fiveUp) (by decide)) ⟨_,rfl,rfl,_,rfl,G5 (nW (y:= .down) (z:= .up) (by decide)) ⟨_,rfl,rfl,_,rfl,G5 (nW (y:= .down) (z:= .floor) (by decide)) ⟨_,rfl,V9 ⟨_,rfl,rfl,_,rfl,G5 (nW (y:= .down) (z:= .ceiling) (by decide)) k⟩⟩⟩⟩⟩⟩⟩⟩
 | up=>
   exact⟨_,rfl,rfl,_,rfl,G5 (nW (y:= .up) (z:= .halfUp) (by decide)) ⟨_,rfl,rfl,_,rfl,G5 (nW (y:= .up) (z:= .halfDown) (by decide)) ⟨_,rfl,rfl,_,rfl,G5 (nW (y:= .up) (z:= .halfEven) (by decide)) ⟨_,rfl,rfl,_,rfl,G5 (nW (y:= .up) (z:= .fiveUp) (by decide)) ⟨_,rfl,rfl,_,rfl,A0k rfl k⟩⟩⟩⟩⟩
 | floor=>
   have kT:V.int z=V.int 1 ->Q (.bl true) H:=fun e=>by
     have k:Q (.bl (decide (V.int z=V.int 1))) H:=k
     rw[decide_eq_true e] at k
     exact k
   have kF:¬V.int z=V.int 1 ->Q (.bl false) H:=fun e=>by
     have k:Q (.bl (decide (V.int z=V.int 1))) H:=k
     rw[decide_eq_false e] at k
     exact k
   exact⟨_,rfl,rfl,_,rfl,G5 (nW (y:= .floor) (z:= .halfUp) (by decide)) ⟨_,rfl,rfl,_,rfl,G5 (nW (y:= .floor) (z:= .halfDown) (by decide)) ⟨_,rfl,rfl,_,rfl,G5 (nW (y:= .floor) (z:= .halfEven) (by decide)) ⟨_,rfl,rfl,_,rfl,G5 (nW (y:= .floor) (z:= .fiveUp) (by decide)) ⟨_,rfl,rfl,_,rfl,G5 (nW (y:= .floor) (z:= .up) (by decide)) ⟨_,rfl,rfl,_,rfl,A0k rfl ⟨_,rfl,rfl,_,rfl,U8 (fun e=>kT e) fun e=>⟨_,rfl,rfl,_,rfl,G5 (nW (y:= .floor) (z:= .ceiling) (by decide)) (kF e)⟩⟩⟩⟩⟩⟩⟩⟩
 | ceiling=>
   exact⟨_,rfl,rfl,_,rfl,G5 (nW (y:= .ceiling) (z:= .halfUp) (by decide)) ⟨_,rfl,rfl,_,rfl,G5 (nW (y:= .ceiling) (z:= .halfDown) (by decide)) ⟨_,rfl,rfl,_,rfl,G5 (nW (y:= .ceiling) (z:= .halfEven) (by decide)) ⟨_,rfl,rfl,_,rfl,G5 (nW (y:= .ceiling) (z:= .fiveUp) (by decide)) ⟨_,rfl,rfl,_,rfl,G5 (nW (y:= .ceiling) (z:= .up) (by decide)) ⟨_,rfl,rfl,_,rfl,G5 (nW (y:= .ceiling) (z:= .floor) (by decide)) ⟨_,rfl,V9 ⟨_,rfl,rfl,_,rfl,A0k rfl ⟨_,rfl,rfl,k⟩⟩⟩⟩⟩⟩⟩⟩⟩
 | halfUp=>
   have k3:t=3 ->Q (.bl true) H:=fun e=>by subst e;exact k
   have k2:V.int t=V.int 2 ->Q (.bl true) H:=fun e=>by cases e;exact k
   have k1:¬t=3 ->¬t=2 ->Q (.bl false) H:=fun a b=>by
     have e:t=1:=by omega
     subst e;exact k
   exact⟨_,rfl,rfl,_,rfl,A0k rfl (Z7 ⟨_,rfl,rfl,_,rfl,U8 (fun e3=>k3 (by injection e3)) fun e3=>⟨_,rfl,rfl,_,rfl,U8 (fun e2=>⟨_,rfl,rfl,_,rfl,A0k rfl (k2 e2)⟩) fun e2=>k1 (fun q=>e3 (congrArg V.int q)) (fun q=>e2 (congrArg V.int q))⟩⟩)⟩
 | halfDown=>
   have k3:t=3 ->Q (.bl true) H:=fun e=>by subst e;exact k
   have k2:V.int t=V.int 2 ->Q (.bl false) H:=fun e=>by cases e;exact k
   have k1:¬t=3 ->¬t=2 ->Q (.bl false) H:=fun a b=>by
     have e:t=1:=by omega
     subst e;exact k
   exact⟨_,rfl,rfl,_,rfl,G5 (nW (y:= .halfDown) (z:= .halfUp) (by decide)) ⟨_,rfl,rfl,_,rfl,A0k rfl (Z7 ⟨_,rfl,rfl,_,rfl,U8 (fun e3=>k3 (by injection e3)) fun e3=>⟨_,rfl,rfl,_,rfl,U8 (fun e2=>⟨_,rfl,rfl,_,rfl,G5 (nW (y:= .halfDown) (z:= .halfUp) (by decide)) ⟨_,rfl,rfl,_,rfl,G5 (nW (y:= .halfDown) (z:= .halfEven) (by decide)) (k2 e2)⟩⟩) fun e2=>k1 (fun q=>e3 (congrArg V.int q)) (fun q=>e2 (congrArg V.int q))⟩⟩)⟩⟩
 | halfEven=>
   have k3:t=3 ->Q (.bl true) H:=fun e=>by subst e;exact k
   have k2:V.int t=V.int 2 ->Q (.bl (decide (V.int (l % 2)=V.int 1))) H:=fun e=>by cases e;exact k
   have k1:¬t=3 ->¬t=2 ->Q (.bl false) H:=fun a b=>by
     have e:t=1:=by omega
     subst e;exact k
   exact⟨_,rfl,rfl,_,rfl,G5 (nW (y:= .halfEven) (z:= .halfUp) (by decide)) ⟨_,rfl,rfl,_,rfl,G5 (nW (y:= .halfEven) (z:= .halfDown) (by decide)) ⟨_,rfl,rfl,_,rfl,A0k rfl ⟨_,rfl,rfl,_,rfl,U8 (fun e3=>k3 (by injection e3)) fun e3=>⟨_,rfl,rfl,_,rfl,U8 (fun e2=>⟨_,rfl,rfl,_,rfl,G5 (nW (y:= .halfEven) (z:= .halfUp) (by decide)) ⟨_,rfl,rfl,_,rfl,A0k rfl ⟨_,rfl,_,_,rfl,rfl,(by decide:(0:Int)<2),rfl,k2 e2⟩⟩⟩) fun e2=>k1 (fun q=>e3 (congrArg V.int q)) (fun q=>e2 (congrArg V.int q))⟩⟩⟩⟩⟩
 | fiveUp=>
   have e5:∀a b:Int,eqV (.int a) (.int b)=decide (V.int b=V.int a):=fun a b=>by
     rw[dI]
     show(a==b)=_
     by_cases h:a=b
     . subst h;simp
     . rw[decide_eq_false (Ne.symm h)];simpa using h
   have k:Q (.bl (eqV (.int 0) (.int l)||(eqV (.int 5) (.int l)||false))) H:=k
   rw[e5,e5,Bool.or_false] at k
   have k0:l=0 ->Q (.bl true) H:=fun e=>by rw[decide_eq_true (congrArg V.int e)] at k;exact k
   have k5:¬l=0 ->Q (.bl (decide (V.int l=V.int 5))) H:=fun e=>by rw[decide_eq_false (fun q=>e (by injection q):¬V.int l=V.int 0)] at k;exact k
   exact⟨_,rfl,rfl,_,rfl,G5 (nW (y:= .fiveUp) (z:= .halfUp) (by decide)) ⟨_,rfl,rfl,_,rfl,G5 (nW (y:= .fiveUp) (z:= .halfDown) (by decide)) ⟨_,rfl,rfl,_,rfl,G5 (nW (y:= .fiveUp) (z:= .halfEven) (by decide)) ⟨_,rfl,rfl,_,rfl,A0k rfl ⟨_,rfl,rfl,_,rfl,U8 (fun e=>k0 (by injection e)) fun e=>⟨_,rfl,rfl,k5 (fun q=>e (congrArg V.int q))⟩⟩⟩⟩⟩⟩
noncomputable def A6z (H:Hp) (q:Addr) (x:Nm) (zs:List Str):Prop:=∃t l,H q=some (.tup [.ref t,.ref l])/\H t=some (.tup x.vs)/\H l=some (.lst (zs.map V.str))
theorem A6z.same{H H':Hp}{q:Addr}{x:Nm}{zs:List Str}(h:A6z H q x zs)(s:B7 H H'):A6z H' q x zs:=by
 obtain⟨t,l,h1,h2,h3⟩:=h
 exact⟨t,l,s _ _ h1,s _ _ h2,s _ _ h3⟩
noncomputable def B5w:Sp:=fun vs H Q _=>∃rt v,∃s:Int,vs=[.ref rt,.int s]/\H rt=some (.tup (Cv.tup v))/\v.Ok/\0<=s/\s<=1/\∀q H',B7 H H' ->A6z H' q (A7w v s) Q32 ->Q (.ref q) H'
theorem scLBurst:B8 Q49 Q35 (A5 A6m):=scK
theorem C4u(D:Def K mg "_law_burst" Q35 A6m f fd)(dA:Def K mg "_law_ten" ["_law_count"] A8r f1 fd1)(dB:sI P w K mg base 1 f1 fd1 ["_law_count"] A7y):sI P w K mg base 2 f fd Q35 B5w:=by
 refine G8.up (D.F.ok scLBurst (fun vs H Q E h=>?_) (fun cdv A outer s H vs Q E hr h=>?_))
 . obtain⟨rt,v,sg,rfl,_⟩:=h
   rfl
 obtain⟨rt,v,sg,rfl,hrt,ok,s0,s1,k⟩:=h
 have hx:V3 (A2g CX0 P w K mg base Q49 "_law_burst" (A5 A6m) f cdv A outer s H E).nox EKF:=A2b
 refine⟨_,(A3 (B0 (A2u (pv 0) (A2c rfl (D8 (D4 (i:=2) scLBurst.nd rfl (Or.inl rfl)) (D8 (D4 (i:=3) scLBurst.nd rfl (Or.inl rfl)) (D8 (D4 (i:=4) scLBurst.nd rfl (Or.inl rfl)) (D8 (D4 (i:=5) scLBurst.nd rfl (Or.inl rfl)) A0b))))))) (A3 (B0 (D3 (i:=6) scLBurst.nd rfl (Or.inl rfl) (U5 (A0 C9 (A0 C9 (A0 C9 A4)))))) (A3 (B0 (U2 (PW.pt (A6x (C8 G4 (pv 3) C9 (B9 _)) (A6x (C8 G4 (pv 3) C9 (B9 _)) (A6x (PW.pt (A2t (C8 G4 (pv 3) C9 (B9 _)) (A1c (C8 G4 (pv 1) A2 (B9 _))))) (B0m (PW.pt (A2t (C8 G4 (pv 3) C9 (B9 _)) (A1c (C8 G4 (pv 1) A2 (B9 _)))))))))) (A7 (B5 (Y6 (A0 (Y6 (A0 C9 (A0 (pv 1) (A0 (A9 Y4 (U9 dA dB hr hx (A0 (pv 2) A4)) A2) (A0 (A9 G9 (A9 Y4 (pv 5) (pv 2)) A2) A4))))) (A0 (pv 6) A4))))) D6)) (A7 (B5 (Y6 (A0 (Y6 (A0 C9 (A0 (pv 1) (A0 A2 (A0 A2 A4))))) (A0 (pv 6) A4)))))))),?_⟩
 have z2:2<=sizeLine:=D0 (by decide)
 have z3:3<=sizeLine:=D0 (by decide)
 have z4:4<=sizeLine:=D0 (by decide)
 have r1:=ok.r1;have r2:=ok.r2
 let I_:L2.St ->L2.Hp ->Prop:=fun σ' H'=>H'=H/\σ'=[sr rt,si sg,si v.r,sR v.y.name,si v.l,si v.m,none]
 refine⟨I_,?_,?_⟩
 . exact⟨_,rfl,rt,_,rfl,SqT.of hrt,rfl,_,_,rfl,_,_,rfl,_,_,rfl,_,_,rfl,rfl,rfl,rfl⟩
 rintro σ' H1 ⟨rfl,rfl⟩
 clear I_
 refine⟨fun σ' H'=>∃l,B7 H1 H'/\H' l=some (.lst [.str "burst",.str "off",.str "cut"])/\σ'=[sr rt,si sg,si v.r,sR v.y.name,si v.l,si v.m,sr l],?_,?_⟩
 . exact⟨z3,fun l nl=>⟨l,B7.upd nl,A6,rfl⟩⟩
 refine L2.hideG fun Z_ z_=>?_
 rintro σ' H2 ⟨l,t2,hl,rfl⟩
 subst z_
 let I_:L2.St ->L2.Hp ->Prop:=fun σ' H'=>H'=H2/\v.y.toEnd sg=true/\σ'=[sr rt,si sg,si v.r,sR v.y.name,si v.l,si v.m,sr l]
 refine⟨I_,?_,?_⟩
 . have nines:v.y.toEnd sg=false ->∀t q,H2 t=none ->upd H2 t (.tup (Nm.vs ⟨.plain,sg,A8 v.r-1,v.m-v.r+1⟩)) q=none ->Q (.ref q) (upd (upd H2 t (.tup (Nm.vs ⟨.plain,sg,A8 v.r-1,v.m-v.r+1⟩))) q (.tup [.ref t,.ref l])):=fun e t q nt nq=>by
     have u1:=B7.upd (o:= .tup (Nm.vs ⟨.plain,sg,A8 v.r-1,v.m-v.r+1⟩)) nt
     have u2:=B7.upd (o:= .tup [.ref t,.ref l]) nq
     refine k q _ (t2.trans (u1.trans u2)) ⟨t,l,A6,?_,(u1.trans u2) _ _ hl⟩
     unfold A7w
     rw[e,if_neg Bool.false_ne_true]
     exact u2 _ _ A6
   obtain⟨vr,vy,vl,vm⟩:=v
   have r1:1<=vr:=ok.r1
   have r2:vr<=24:=ok.r2
   cases vy with
   | down=>
     have nines:=nines rfl
     exact⟨_,rfl,rfl,_,rfl,A0k rfl (Z7 ⟨_,rfl,_,rfl,vr.toNat,(by rw[Int.toNat_of_nonneg (by omega)];rfl),by omega,_,_,rfl,rfl,_,rfl,_,rfl,_,_,rfl,rfl,_,_,rfl,rfl,z4,fun t nt=>⟨_,rfl,z2,fun q nq=>nines t q nt nq⟩⟩)⟩
   |up=>exact⟨_,rfl,rfl,_,rfl,G5 (nW (y:= .up) (z:= .down) (by decide)) ⟨_,rfl,rfl,_,rfl,G5 (nW (y:= .up) (z:= .fiveUp) (by decide)) ⟨_,rfl,rfl,_,rfl,G5 (nW (y:= .up) (z:= .floor) (by decide)) (V9 ⟨_,rfl,rfl,_,rfl,G5 (nW (y:= .up) (z:= .ceiling) (by decide)) (V9 ⟨rfl,rfl,rfl⟩)⟩)⟩⟩⟩
   | floor=>
     rcases(by omega:sg=0\/sg=1) with rfl|rfl
     . have nines:=nines (show decide (V.int 0=V.int 1)=false by decide+kernel)
       exact⟨_,rfl,rfl,_,rfl,G5 (nW (y:= .floor) (z:= .down) (by decide)) ⟨_,rfl,rfl,_,rfl,G5 (nW (y:= .floor) (z:= .fiveUp) (by decide)) ⟨_,rfl,rfl,_,rfl,A0k rfl ⟨_,rfl,rfl,_,rfl,A0k rfl (Z7 ⟨_,rfl,_,rfl,vr.toNat,(by rw[Int.toNat_of_nonneg (by omega)];rfl),by omega,_,_,rfl,rfl,_,rfl,_,rfl,_,_,rfl,rfl,_,_,rfl,rfl,z4,fun t nt=>⟨_,rfl,z2,fun q nq=>nines t q nt nq⟩⟩)⟩⟩⟩⟩
     . exact⟨_,rfl,rfl,_,rfl,G5 (nW (y:= .floor) (z:= .down) (by decide)) ⟨_,rfl,rfl,_,rfl,G5 (nW (y:= .floor) (z:= .fiveUp) (by decide)) ⟨_,rfl,rfl,_,rfl,A0k rfl ⟨_,rfl,rfl,_,rfl,G5 (by decide) ⟨_,rfl,rfl,_,rfl,G5 (nW (y:= .floor) (z:= .ceiling) (by decide)) (V9 ⟨rfl,(show decide (V.int 1=V.int 1)=true by decide+kernel),rfl⟩)⟩⟩⟩⟩⟩
   | ceiling=>
     rcases(by omega:sg=1\/sg=0) with rfl|rfl
     . have nines:=nines (show decide (V.int 1=V.int 0)=false by decide+kernel)
       exact⟨_,rfl,rfl,_,rfl,G5 (nW (y:= .ceiling) (z:= .down) (by decide)) ⟨_,rfl,rfl,_,rfl,G5 (nW (y:= .ceiling) (z:= .fiveUp) (by decide)) ⟨_,rfl,rfl,_,rfl,G5 (nW (y:= .ceiling) (z:= .floor) (by decide)) (V9 ⟨_,rfl,rfl,_,rfl,A0k rfl ⟨_,rfl,rfl,_,rfl,A0k rfl ⟨_,rfl,_,rfl,vr.toNat,(by rw[Int.toNat_of_nonneg (by omega)];rfl),by omega,_,_,rfl,rfl,_,rfl,_,rfl,_,_,rfl,rfl,_,_,rfl,rfl,z4,fun t nt=>⟨_,rfl,z2,fun q nq=>nines t q nt nq⟩⟩⟩⟩)⟩⟩⟩
     . exact⟨_,rfl,rfl,_,rfl,G5 (nW (y:= .ceiling) (z:= .down) (by decide)) ⟨_,rfl,rfl,_,rfl,G5 (nW (y:= .ceiling) (z:= .fiveUp) (by decide)) ⟨_,rfl,rfl,_,rfl,G5 (nW (y:= .ceiling) (z:= .floor) (by decide)) (V9 ⟨_,rfl,rfl,_,rfl,A0k rfl ⟨_,rfl,rfl,_,rfl,G5 (by decide) ⟨rfl,(show decide (V.int 0=V.int 0)=true by decide+kernel),rfl⟩⟩⟩)⟩⟩⟩
   |halfUp=>exact⟨_,rfl,rfl,_,rfl,G5 (nW (y:= .halfUp) (z:= .down) (by decide)) ⟨_,rfl,rfl,_,rfl,G5 (nW (y:= .halfUp) (z:= .fiveUp) (by decide)) ⟨_,rfl,rfl,_,rfl,G5 (nW (y:= .halfUp) (z:= .floor) (by decide)) (V9 ⟨_,rfl,rfl,_,rfl,G5 (nW (y:= .halfUp) (z:= .ceiling) (by decide)) (V9 ⟨rfl,rfl,rfl⟩)⟩)⟩⟩⟩
   |halfDown=>exact⟨_,rfl,rfl,_,rfl,G5 (nW (y:= .halfDown) (z:= .down) (by decide)) ⟨_,rfl,rfl,_,rfl,G5 (nW (y:= .halfDown) (z:= .fiveUp) (by decide)) ⟨_,rfl,rfl,_,rfl,G5 (nW (y:= .halfDown) (z:= .floor) (by decide)) (V9 ⟨_,rfl,rfl,_,rfl,G5 (nW (y:= .halfDown) (z:= .ceiling) (by decide)) (V9 ⟨rfl,rfl,rfl⟩)⟩)⟩⟩⟩
   |halfEven=>exact⟨_,rfl,rfl,_,rfl,G5 (nW (y:= .halfEven) (z:= .down) (by decide)) ⟨_,rfl,rfl,_,rfl,G5 (nW (y:= .halfEven) (z:= .fiveUp) (by decide)) ⟨_,rfl,rfl,_,rfl,G5 (nW (y:= .halfEven) (z:= .floor) (by decide)) (V9 ⟨_,rfl,rfl,_,rfl,G5 (nW (y:= .halfEven) (z:= .ceiling) (by decide)) (V9 ⟨rfl,rfl,rfl⟩)⟩)⟩⟩⟩
   | fiveUp=>
     have nines:=nines rfl
     exact⟨_,rfl,rfl,_,rfl,G5 (nW (y:= .fiveUp) (z:= .down) (by decide)) ⟨_,rfl,rfl,_,rfl,A0k rfl (Z7 ⟨_,rfl,_,rfl,vr.toNat,(by rw[Int.toNat_of_nonneg (by omega)];rfl),by omega,_,_,rfl,rfl,_,rfl,_,rfl,_,_,rfl,rfl,_,_,rfl,rfl,z4,fun t nt=>⟨_,rfl,z2,fun q nq=>nines t q nt nq⟩⟩)⟩⟩
 refine L2.hideG fun Z_ z_=>?_
 rintro σ' H3 ⟨rfl,e,rfl⟩
 subst z_
 clear I_
 refine⟨_,rfl,z4,fun t nt=>⟨_,rfl,z2,fun q nq=>?_⟩⟩
 have u1:=B7.upd (o:= .tup (Nm.vs ⟨.end_,sg,0,0⟩)) nt
 have u2:=B7.upd (o:= .tup [.ref t,.ref l]) nq
 refine k q _ (t2.trans (u1.trans u2)) ⟨t,l,A6,?_,(u1.trans u2) _ _ hl⟩
 unfold A7w
 rw[e,if_pos rfl]
 exact u2 _ _ A6
noncomputable def B3v:Sp:=fun vs H Q _=>∃rt v,∃s i:Int,vs=[.ref rt,.int s,.int i]/\H rt=some (.tup (Cv.tup v))/\v.Ok/\∀q H',B7 H H' ->A6z H' q ⟨.plain,s,0,C7e (A9a i (v.l-v.r+1)) v.m⟩ [] ->Q (.ref q) H'
theorem scLNought:B8 ["_law_rules_here","_law_sign","_law_ideal","_law_room","_law_way","_law_least","_law_most"] Q36 (A5 A6q):=scK
theorem C5q{v:Cv}(ok:v.Ok)(i:Int):(if(if i<v.m then i else v.m)>v.l-v.r+1 then(if i<v.m then i else v.m) else v.l-v.r+1)=C7e (A9a i (v.l-v.r+1)) v.m:=by
 have:=ok.r1;have:=ok.l2;have:=ok.m1
 unfold C7e A9a
 repeat' split
 all_goals omega
theorem C0b(D:Def K mg "_law_nought" Q36 A6q f fd)(O:Own mg):sI P w K mg base 1 f fd Q36 B3v:=by
 refine G8.up (D.F.ok scLNought (fun vs H Q E h=>?_) (fun cdv A outer s H vs Q E hr h=>?_))
 . obtain⟨rt,v,sg,i,rfl,_⟩:=h
   rfl
 obtain⟨rt,v,sg,i,rfl,hrt,ok,k⟩:=h
 refine⟨_,(A3 (A2u (pv 0) (A2c rfl (D8 (D4 (i:=3) scLNought.nd rfl (Or.inl rfl)) (D8 (D4 (i:=4) scLNought.nd rfl (Or.inl rfl)) (D8 (D4 (i:=5) scLNought.nd rfl (Or.inl rfl)) (D8 (D4 (i:=6) scLNought.nd rfl (Or.inl rfl)) A0b)))))) (A7 (B5 (Y6 (A0 (Y6 (A0 C9 (A0 (pv 1) (A0 A2 (A0 (Y3 (B3f rfl) (by rfl) O.max_ boot_max (A0 (A9 G9 (A9 Y4 (pv 5) (pv 3)) A2) (A0 (Y3 (C3s rfl) (by rfl) O.min_ boot_min (A0 (pv 6) (A0 (pv 2) A4))) A4))) A4))))) (A0 (U5 A4) A4)))))),?_⟩
 have z0:0<=sizeLine:=Nat.zero_le _
 have z2:2<=sizeLine:=D0 (by decide)
 have z4:4<=sizeLine:=D0 (by decide)
 refine⟨_,rfl,rt,_,rfl,SqT.of hrt,rfl,_,_,rfl,_,_,rfl,_,_,rfl,_,_,rfl,rfl,?_⟩
 refine⟨_,rfl,_,rfl,_,rfl,_,_,rfl,rfl,_,_,rfl,rfl,_,rfl,_,rfl,_,_,rfl,_,_,rfl,z4,fun t nt=>⟨z0,fun l nl=>⟨z2,fun q nq=>?_⟩⟩⟩
 have u2:=B7.upd (o:= .lst []) nl
 have u3:=B7.upd (o:= .tup [.ref t,.ref l]) nq
 refine k q _ ((B7.upd nt).trans (u2.trans u3)) ⟨t,l,A6,?_,u3 _ _ A6⟩
 refine(u2.trans u3) _ _ ?_
 rw[A6]
 show some (HO.tup [.str "plain",.int sg,.int 0,.int (if(if i<v.m then i else v.m)>v.l-v.r+1 then(if i<v.m then i else v.m) else v.l-v.r+1)])=_
 rw[C5q ok]
 rfl
theorem B8m(x:Str)(b:Bool):(List.replicate (if b=true then(1:Int) else 0).toNat [V.str x]).flatten=(A4a x b).map V.str:=by cases b<;>rfl
theorem A5b(x:Str)(b:Bool):(A4a x b).length<=1:=by cases b<;>simp[A4a]
theorem G0d{y:Wy}{s f pt:Int}(h:¬pt=0):f+(if y.goes s (f % 10) pt=true then 1 else 0)=upI y s f pt:=by
 unfold upI
 rw[if_neg h]
 cases y.goes s (f % 10) pt with
 |true=>rfl
 |false=>rw[if_neg Bool.false_ne_true,if_neg Bool.false_ne_true,Int.add_zero]
theorem C7h{l L pt:Int}{cut:Bool}(h:¬pt=0)(z:Str):z∈A4a "sunk" (decide (L<l))++A4a "faint" (decide (L<l))++(["off","cut"]:List Str)↔z∈A0n pt cut++A0m l L pt:=by
 unfold A0n A0m A4a
 rw[if_neg h]
 by_cases q:L<l
 . rw[if_neg (by omega:¬L>=l),decide_eq_true q,if_neg h]
   simp only[if_true,List.mem_append,List.mem_cons,List.not_mem_nil,or_false]
   constructor
   . rintro((a|a)|a|a)
     . exact .inr (.inl a)
     . exact .inr (.inr a)
     . exact .inl (.inl a)
     . exact .inl (.inr a)
   . rintro((a|a)|a|a)
     . exact .inr (.inl a)
     . exact .inr (.inr a)
     . exact .inl (.inl a)
     . exact .inl (.inr a)
 rw[if_pos (by omega:L>=l),decide_eq_false q]
 simp
theorem D5t{l L:Int}{cut:Bool}(z:Str):z∈A4a "faint" (decide (L<l))++A4a "cut" cut↔z∈A0n 0 cut++A0m l L 0:=by
 unfold A0n A0m A4a
 by_cases q:L<l
 . rw[if_neg (by omega:¬L>=l),decide_eq_true q]
   cases cut<;>simp[or_comm]
 rw[if_pos (by omega:L>=l),decide_eq_false q]
 cases cut<;>simp
noncomputable def A8k:Sp:=fun vs H Q _=>∃rt v,∃s f p pt i L:Int,vs=[.ref rt,.int s,.int f,.int p,.int pt,.bl (decide (L<v.l)),.int i]/\H rt=some (.tup (Cv.tup v))/\v.Ok/\0<=s/\s<=1/\0<=f/\f<A8 v.r/\0<=pt/\pt<=3/\
 ∀q zs H',B7 H H' ->A6z H' q (A1r v s f pt L p i).1 zs ->(∀z,z∈zs↔z∈(A1r v s f pt L p i).2) ->Q (.ref q) H'
noncomputable abbrev G4p:List Str:=["_law_rules_here","_law_sign","_law_figures","_law_power","_law_part","_law_is_faint","_law_ideal","_law_room","_law_way","_law_least","_law_most","_law_raised"]
theorem scLFinished:B8 G4p Q37 (A5 A1z):=scK
theorem B5n(D:Def K mg "_law_finished" Q37 A1z f fd)(dA:Def K mg "_law_ten" ["_law_count"] A8r f1 fd1)(dB:sI P w K mg base 1 f1 fd1 ["_law_count"] A7y)
   (dC:Def K mg "_law_goes_up" Q28 B4p f2 fd2) (dD:sI P w K mg base 1 f2 fd2 Q28 C2g) (dE:Def K mg "_law_burst" Q35 A6m f3 fd3) (dF:sI P w K mg base 2 f3 fd3 Q35 B5w) (O:Own mg):
   sI P w K mg base 3 f fd Q37 A8k:=by
 refine G8.up (D.F.ok scLFinished (fun vs H Q E h=>?_) (fun cdv A outer s H vs Q E hr h=>?_))
 . obtain⟨rt,v,sg,fg,pw,pt,i,L,rfl,_⟩:=h
   rfl
 obtain⟨rt,v,sg,fg,pw,pt,i,L,rfl,hrt,ok,s0,s1,f0,f1,p0,p3,k⟩:=h
 have hx:V3 (A2g CX0 P w K mg base G4p "_law_finished" (A5 A1z) f cdv A outer s H E).nox EKF:=A2b
 refine⟨_,(A3 (B0 (A2u (pv 0) (A2c rfl (D8 (D4 (i:=7) scLFinished.nd rfl (Or.inl rfl)) (D8 (D4 (i:=8) scLFinished.nd rfl (Or.inl rfl)) (D8 (D4 (i:=9) scLFinished.nd rfl (Or.inl rfl)) (D8 (D4 (i:=10) scLFinished.nd rfl (Or.inl rfl)) A0b))))))) (A3 (B0 (D3 (i:=11) scLFinished.nd rfl (Or.inl rfl) (A9 B9y (U5 (A0 C9 A4)) (V2 A0j (by rfl) O.int_ boot_int (A0 (pv 5) A4))))) (A3 (B0 (U2 (C8 A6r (pv 4) A2 (B9 _)) (A3 (B0 (D3 (i:=11) scLFinished.nd rfl (Or.inl rfl) (A9 B1g (A9 B1g (A9 B9y (U5 (A0 C9 A4)) (V2 A0j (by rfl) O.int_ boot_int (A0 (pv 5) A4))) (pv 11)) (U5 (A0 C9 (A0 C9 A4)))))) (A3 (B0 (D3 (i:=2) scLFinished.nd rfl (Or.inl rfl) (A9 G9 (pv 2) (V2 A0j (by rfl) O.int_ boot_int (A0 (U9 dC dD hr hx (A0 (pv 8) (A0 (pv 1) (A0 (A9 U6 (pv 2) A2) (A0 (pv 4) A4))))) A4))))) (A7 (B0 (U2 (C8 G4 (pv 2) (U9 dA dB hr hx (A0 (pv 7) A4)) (B9 _)) (A3 (B0 (D3 (i:=2) scLFinished.nd rfl (Or.inl rfl) (A9 D7 (pv 2) A2))) (A7 (B0 (D3 (i:=3) scLFinished.nd rfl (Or.inl rfl) (A9 G9 (pv 3) A2))))) D6))))) (A3 (B0 (A2x PassesOwn.never (PW.pt (A2t (C8 A3d (pv 3) (pv 6) (B9 _)) (A1c (C8 G4 (A9 U6 (pv 2) A2) A2 (B9 _))))) (A3 (B0 (D3 (i:=2) scLFinished.nd rfl (Or.inl rfl) (A9 D7 (pv 2) A2))) (A7 (B0 (D3 (i:=3) scLFinished.nd rfl (Or.inl rfl) (A9 G9 (pv 3) A2))))))) (A7 (B0 (D3 (i:=11) scLFinished.nd rfl (Or.inl rfl) (A9 B1g (pv 11) (A9 B9y (U5 (A0 C9 A4)) (V2 A0j (by rfl) O.int_ boot_int (A0 (G6 A6r (pv 3) (pv 6) (B9 _)) A4)))))))))) (A3 (B0 (U2 (PW.pt (A2t (C8 A6r (pv 2) A2 (B9 _)) (A1c (C8 A6r (A9 Y4 (A9 G9 (pv 3) (Y3 A1u (by rfl) O.len_ PySem.boot_len (A0 (V2 A1s (by rfl) O.str_ boot_str (A0 (pv 2) A4)) A4))) A2) (pv 10) (B9 _))))) (A7 (B5 (U9 dE dF hr hx (A0 (pv 0) (A0 (pv 1) A4))))) D6)) (A7 (B5 (Y6 (A0 (Y6 (A0 C9 (A0 (pv 1) (A0 (pv 2) (A0 (pv 3) A4))))) (A0 (pv 11) A4))))))))),?_⟩
 have z1:1<=sizeLine:=D0 (by decide)
 have z2:2<=sizeLine:=D0 (by decide)
 have z4:4<=sizeLine:=D0 (by decide)
 have d10:(0:Int)<10/\(10:Int).natAbs.log2<9000:=⟨by decide,by decide+kernel⟩
 have r1:=ok.r1;have r2:=ok.r2
 have kb:∀b:Bool, -(2^63:Int)<=(if b=true then(1:Int) else 0)/\(if b=true then(1:Int) else 0)<2^63/\1*(if b=true then(1:Int) else 0).toNat<=sizeLine:=fun b=>by
   cases b
   . exact⟨by decide,by decide,Nat.zero_le _⟩
   . exact⟨by decide,by decide,z1⟩
 generalize hft:decide (L<v.l)=ft
 refine⟨fun σ' H'=>H'=H/\σ'=[sr rt,si sg,si fg,si pw,si pt,some (.bl ft),si i,si v.r,sR v.y.name,si v.l,si v.m,none],?_,?_⟩
 . exact⟨_,rfl,rt,_,rfl,SqT.of hrt,rfl,_,_,rfl,_,_,rfl,_,_,rfl,_,_,rfl,rfl,rfl,rfl⟩
 rintro σ' H1 ⟨rfl,rfl⟩
 refine⟨fun σ' H'=>∃l,B7 H1 H'/\H' l=some (.lst ((A4a "faint" ft).map V.str))/\σ'=[sr rt,si sg,si fg,si pw,si pt,some (.bl ft),si i,si v.r,sR v.y.name,si v.l,si v.m,sr l],?_,?_⟩
 . refine⟨z1,fun l1 n1=>⟨_,rfl,.inr ⟨_,rfl,l1,_,_,rfl,rfl,A6,(kb ft).1,(kb ft).2.1,(kb ft).2.2,fun l2 n2=>?_⟩⟩⟩
   rw[B8m]
   exact⟨l2,(B7.upd n1).trans (B7.upd n2),A6,rfl⟩
 refine L2.hideG fun Z_ z_=>?_
 rintro σ' H2 ⟨l,t2,hl,rfl⟩
 subst z_
 refine⟨fun σ' H'=>∃l,∃zs:List Str,B7 H1 H'/\H' l=some (.lst (zs.map V.str))/\(∀z,z∈zs↔z∈A0n pt (decide ((A0f v sg fg pt pw i).2>i))++A0m v.l L pt)/\σ'=[sr rt,si sg,si ((A0f v sg fg pt pw i).1),si ((A0f v sg fg pt pw i).2),si pt,some (.bl ft),si i,si v.r,sR v.y.name,si v.l,si v.m,sr l],?_,?_⟩
 . refine ⟨_,rfl,_,_,rfl,rfl,_,rfl,U8 (fun hp=>?_) (fun hp=>?_)⟩
   . have hp:¬pt=0:=by
       have:pt>0:=hp
       omega
     refine⟨fun σ' H'=>∃l,B7 H1 H'/\H' l=some (.lst ((A4a "sunk" ft++A4a "faint" ft++(["off","cut"]:List Str)).map V.str))/\σ'=[sr rt,si sg,si fg,si pw,si pt,some (.bl ft),si i,si v.r,sR v.y.name,si v.l,si v.m,sr l],?_,?_⟩
     . refine⟨z1,fun l1 n1=>⟨_,rfl,.inr ⟨_,rfl,l1,_,_,rfl,rfl,A6,(kb ft).1,(kb ft).2.1,(kb ft).2.2,fun l2 n2=>?_⟩⟩⟩
       rw[B8m]
       have u1:=B7.upd (o:= .lst [.str "sunk"]) n1
       have u2:=B7.upd (o:= .lst ((A4a "sunk" ft).map V.str)) n2
       have q1:=A5b "sunk" ft
       have q2:=A5b "faint" ft
       refine⟨_,rfl,l2,l,_,_,rfl,rfl,A6,(u1.trans u2) _ _ hl,D0 (by rw[List.length_map,List.length_map];omega),fun l3 n3=>⟨z2,fun l4 n4=>?_⟩⟩
       have u3:=B7.upd (o:= .lst ((A4a "sunk" ft).map V.str++(A4a "faint" ft).map V.str)) n3
       have u4:=B7.upd (o:= .lst [.str "off",.str "cut"]) n4
       refine⟨l3,l4,_,_,rfl,rfl,u4 _ _ A6,A6,D0 (by rw[List.length_append,List.length_map,List.length_map];show _+2<=_;omega),fun l5 n5=>?_⟩
       refine⟨l5,t2.trans ((u1.trans u2).trans ((u3.trans u4).trans (B7.upd n5))),?_,rfl⟩
       rw[A6,List.map_append,List.map_append]
       rfl
     refine L2.hideG fun Z_ z_=>?_
     rintro σ' H3 ⟨l,t3,hl,rfl⟩
     subst z_
     refine⟨fun σ' H'=>H'=H3/\σ'=[sr rt,si sg,si (upI v.y sg fg pt),si pw,si pt,some (.bl ft),si i,si v.r,sR v.y.name,si v.l,si v.m,sr l],?_,?_⟩
     . refine⟨_,rfl,_,rfl,_,rfl,_,rfl,_,_,rfl,rfl,d10.1,_,rfl,v.y,sg,fg % 10,pt,rfl,by omega,p3,.inr ⟨_,rfl,_,_,rfl,rfl,rfl,?_⟩⟩
       rw[<-G0d hp]
       rfl
     rintro σ' H4 ⟨rfl,rfl⟩
     generalize hu:upI v.y sg fg pt=u
     have en:A0f v sg fg pt pw i=A4e v.r u pw:=by unfold A0f;rw[if_neg hp,hu]
     rw[en]
     unfold A4e
     refine⟨fun σ' H'=>H'=H4/\σ'=[sr rt,si sg,si ((A4e v.r u pw).1),si ((A4e v.r u pw).2),si pt,some (.bl ft),si i,si v.r,sR v.y.name,si v.l,si v.m,sr l],?_,?_⟩
     . unfold A4e
       refine⟨_,rfl,_,rfl,v.r.toNat,(by rw[Int.toNat_of_nonneg (by omega)];rfl),by omega,rfl,_,rfl,U8 (fun e=>?_) (fun e=>?_)⟩
       . have e:u=A8 v.r:=by injection e
         rw[if_pos e]
         refine⟨fun σ' H'=>H'=H4/\σ'=[sr rt,si sg,si (u/10),si pw,si pt,some (.bl ft),si i,si v.r,sR v.y.name,si v.l,si v.m,sr l],⟨_,rfl,_,_,rfl,rfl,d10,rfl,rfl⟩,?_⟩
         rintro σ' H5 ⟨rfl,rfl⟩
         exact⟨fun σ' H'=>H'=H5/\σ'=[sr rt,si sg,si (u/10),si (pw+1),si pt,some (.bl ft),si i,si v.r,sR v.y.name,si v.l,si v.m,sr l],⟨_,rfl,_,_,rfl,rfl,rfl,rfl⟩,fun _ _ h=>h⟩
       . have e:¬u=A8 v.r:=fun z=>e (congrArg V.int z)
         rw[if_neg e]
         exact⟨rfl,rfl⟩
     rintro σ' H5 ⟨rfl,rfl⟩
     exact⟨l,_,t3,hl,fun z=>by rw[<-hft];exact C7h hp z,rfl⟩
   . have hp:pt=0:=by
       have:¬pt>0:=hp
       omega
     subst hp
     have en:A0f v sg fg 0 pw i=Z9 i fg pw:=rfl
     rw[en]
     refine⟨fun σ' H'=>H'=H2/\σ'=[sr rt,si sg,si ((Z9 i fg pw).1),si ((Z9 i fg pw).2),si 0,some (.bl ft),si i,si v.r,sR v.y.name,si v.l,si v.m,sr l],?_,?_⟩
     . refine A3g (fun σ H3=>H3=H2/\∃f p:Int,Z9 i f p=Z9 i fg pw/\σ=[sr rt,si sg,si f,si p,si 0,some (.bl ft),si i,si v.r,sR v.y.name,si v.l,si v.m,sr l]) (fun σ _=>match σ with|_::_::_::some (.int p)::_=>(i-p).toNat|_=>0) ?_ ?_ ?_
       . exact⟨rfl,fg,pw,rfl,rfl⟩
       . rintro σ H3 ⟨rfl,f,p,e,rfl⟩
         have stop:¬(p<i/\f % 10=0) ->(f,p)=Z9 i fg pw:=fun h=>by rw[<-e,A9y h]
         refine⟨_,rfl,_,rfl,_,_,rfl,rfl,_,rfl,U8 (fun h1=>?_) (fun h1=>V9 ⟨rfl,by rw[<-stop fun q=>h1 q.1]⟩)⟩
         refine⟨_,rfl,_,_,rfl,rfl,d10.1,rfl,_,rfl,U8 (fun h2=>?_) (fun h2=>⟨rfl,by rw[<-stop fun q=>h2 (congrArg V.int q.2)]⟩)⟩
         have h1:p<i:=h1
         have h2:f % 10=0:=by injection h2
         refine⟨fun σ' H'=>H'=H3/\σ'=[sr rt,si sg,si (f/10),si p,si 0,some (.bl ft),si i,si v.r,sR v.y.name,si v.l,si v.m,sr l],⟨_,rfl,_,_,rfl,rfl,d10,rfl,rfl⟩,?_⟩
         rintro σ' H4 ⟨rfl,rfl⟩
         refine⟨fun σ' H'=>H'=H4/\σ'=[sr rt,si sg,si (f/10),si (p+1),si 0,some (.bl ft),si i,si v.r,sR v.y.name,si v.l,si v.m,sr l],⟨_,rfl,_,_,rfl,rfl,rfl,rfl⟩,?_⟩
         rintro σ' H5 ⟨rfl,rfl⟩
         refine⟨⟨rfl,f/10,p+1,(B1p h1 h2).symm.trans e,rfl⟩,?_⟩
         show(i-(p+1)).toNat<(i-p).toNat
         omega
       . rintro σ H3 Q1 Q2 hQ ⟨v1,e,v2,e2,a,b,e3,e4,c,e5,q⟩
         refine⟨v1,e,v2,e2,a,b,e3,e4,c,e5,?_⟩
         cases c with
         |false=>exact V9 (hQ _ _ (by simpa using q))
         | true=>
           have q:_:=q
           rw[if_pos rfl] at q ⊢
           obtain⟨v3,e6,a2,b2,e7,e8,e9,e10,e11,e12,q⟩:=q
           exact⟨v3,e6,a2,b2,e7,e8,e9,e10,e11,e12,hQ _ _ q⟩
     rintro σ' H3 ⟨rfl,rfl⟩
     generalize hw:Z9 i fg pw=st
     obtain⟨f',p'⟩:=st
     refine⟨fun σ' H'=>∃l,∃zs:List Str,B7 H1 H'/\H' l=some (.lst (zs.map V.str))/\(∀z,z∈zs↔z∈A0n 0 (decide (p'>i))++A0m v.l L 0)/\σ'=[sr rt,si sg,si f',si p',si 0,some (.bl ft),si i,si v.r,sR v.y.name,si v.l,si v.m,sr l],?_,fun _ _ h=>h⟩
     refine⟨_,rfl,z1,fun l1 n1=>⟨_,rfl,_,rfl,_,_,rfl,rfl,.inr ⟨_,rfl,l1,_,_,rfl,rfl,A6,(kb (decide (p'>i))).1,(kb (decide (p'>i))).2.1,(kb (decide (p'>i))).2.2,fun l2 n2=>?_⟩⟩⟩
     rw[B8m]
     have u1:=B7.upd (o:= .lst [.str "cut"]) n1
     have u2:=B7.upd (o:= .lst ((A4a "cut" (decide (p'>i))).map V.str)) n2
     have q1:=A5b "cut" (decide (p'>i))
     have q2:=A5b "faint" ft
     refine⟨l,l2,_,_,rfl,rfl,(u1.trans u2) _ _ hl,A6,D0 (by rw[List.length_map,List.length_map];exact Nat.le_trans (Nat.add_le_add (A5b _ _) (A5b _ _)) (by decide)),fun l3 n3=>?_⟩
     refine⟨l3,A4a "faint" ft++A4a "cut" (decide (p'>i)),t2.trans ((u1.trans u2).trans (B7.upd n3)),by rw[A6,List.map_append],fun z=>by rw[<-hft];exact D5t z,rfl⟩
 refine L2.hideG fun Z_ z_=>?_
 rintro σ' H3 ⟨l,zs,t3,hl,hz,rfl⟩
 subst z_
 have sm:=B0s (s:=sg) (pt:=pt) (q:=pw) (i:=i) ok f0 f1
 have nn:0<=(A0f v sg fg pt pw i).1:=by
   unfold A0f
   split
   . exact(A9w i (i-pw).toNat fg pw f0).1
   . have hu:0<=upI v.y sg fg pt:=by
       unfold upI
       generalize (if pt=0 then false else v.y.goes sg (fg % 10) pt)=g
       cases g with
       |true=>show 0<=fg+1;omega
       |false=>exact f0
     generalize upI v.y sg fg pt=u at hu
     unfold A4e
     split
     . show 0<=u/10;omega
     . exact hu
 unfold A1r at k
 generalize (A0f v sg fg pt pw i).1=f' at*
 generalize (A0f v sg fg pt pw i).2=p' at*
 have lg:f'.natAbs.log2<1920:=Nat.lt_trans (A0r sm (by decide)) (by decide)
 refine⟨fun σ' H'=>H'=H3/\A1t v.m f' p'=false/\σ'=[sr rt,si sg,si f',si p',si pt,some (.bl ft),si i,si v.r,sR v.y.name,si v.l,si v.m,sr l],?_,?_⟩
 . refine⟨_,rfl,_,_,rfl,rfl,_,rfl,U8 (fun h=>?_) (fun h=>V9 ⟨rfl,?_,rfl⟩)⟩
   . have h:f'>0:=h
     have eb:A1t v.m f' p'=decide (p'+A1k f'-1>v.m):=by unfold A1t;rw[if_neg (by omega)]
     rw[eb] at k
     refine⟨_,rfl,_,rfl,_,rfl,lg,_,rfl,int_text_fits lg,_,_,rfl,rfl,_,_,rfl,rfl,_,rfl,_,_,rfl,rfl,_,rfl,U8 (fun h2=>?_) (fun h2=>⟨rfl,by rw[eb];exact decide_eq_false h2,rfl⟩)⟩
     rw[decide_eq_true (show p'+A1k f'-1>v.m from h2),if_pos rfl] at k
     exact⟨_,rfl,_,rfl,rt,v,sg,rfl,t3 _ _ hrt,ok,s0,s1,fun q H' s' du=>k q _ H' (t3.trans s') du fun z=>Iff.rfl⟩
   . have h:¬f'>0:=h
     unfold A1t
     rw[if_pos (by omega)]
 refine L2.hideG fun Z_ z_=>?_
 rintro σ' H4 ⟨rfl,e,rfl⟩
 subst z_
 rw[e,if_neg Bool.false_ne_true] at k
 refine⟨_,rfl,_,rfl,_,rfl,z4,fun t nt=>⟨_,rfl,z2,fun q nq=>?_⟩⟩
 have u1:=B7.upd (o:= .tup (Nm.vs ⟨.plain,sg,f',p'⟩)) nt
 have u2:=B7.upd (o:= .tup [.ref t,.ref l]) nq
 exact k q zs _ (t3.trans (u1.trans u2)) ⟨t,l,A6,u2 _ _ A6,(u1.trans u2) _ _ hl⟩ hz
theorem G1n(v:Cv)(L:Int):(if v.l>L then v.l else L)-v.r+1=v.fin L:=by
 unfold Cv.fin A9a
 by_cases h:v.l>L
 . rw[if_pos h,if_pos (by omega)]
 rw[if_neg h,if_neg (by omega)]
theorem B1v{f p:Int}(h0:0<=f)(h:f≠0)(h1:f<=10^60-1)(p1:p<=200):SzL (f*A8 p):=by
 have a:1<=A8 p:=by have:=U0 p;omega
 have b:A8 p<=A8 200:=Z5 p1
 have c:f<A8 60:=by
     have e:A8 60=10^60:=by decide+kernel
     omega
 have e:A8 60*A8 200=A8 260:=by
   unfold A8
   rw[<-Int.natCast_mul, <-Nat.pow_add]
   rfl
 have d:A8 260<=A8 500:=Z5 (by decide)
 refine⟨?_,?_⟩
 . have:1*1<=f*A8 p:=Int.mul_le_mul (by omega) a (by decide) h0
   omega
 have m:f*A8 p<=f*A8 200:=Int.mul_le_mul_of_nonneg_left b h0
 have n:f*A8 200<A8 60*A8 200:=Int.mul_lt_mul_of_pos_right c (U0 _)
 omega
noncomputable abbrev A9j:Stmt:=(top 76)
noncomputable def Z2 (c d:Addr) (H H':Hp):Prop:=∀b o,H b=some o ->b≠c ->b≠d ->H' b=some o
theorem Z2.trans{c d:Addr}{H H1 H2:Hp}(a:Z2 c d H H1)(b:Z2 c d H1 H2):Z2 c d H H2:=fun x o h n m=>b x o (a x o h n m) n m
theorem Z2.l{c d:Addr}{H H':Hp}(a:Exc c H H'):Z2 c d H H':=fun x o h n _=>a x o h n
theorem Z2.r{c d:Addr}{H H':Hp}(a:Exc d H H'):Z2 c d H H':=fun x o h _ n=>a x o h n
theorem Z2.s{c d:Addr}{H H':Hp}(a:B7 H H'):Z2 c d H H':=fun x o h _ _=>a x o h
theorem B8j{tr zs:List Str}(h:B2p tr):((V6 zs).filter fun z=>tr.contains z).head?=hit tr zs:=by
 obtain⟨p,rfl⟩:=h
 unfold hit V6
 rw[<-List.head?_filter,List.filter_filter,List.filter_filter]
 congr 1
 refine List.filter_congr fun z hz=>?_
 rw[Bool.eq_iff_iff]
 simp[List.mem_filter,hz]
 exact And.comm
theorem D7f(z:Str)(zs:List Str):PyData.eqv (rdS (z::zs)) (rdS [])=false:=by
 simp[rdS,PyData.eqv,PyData.eqvAll]
noncomputable def kvU (us:List Str):List (Key×V):=us.map fun z=>((Sum.inr z:Key),V.bl true)
noncomputable def B8s (us:List Str) (z:Str):List Str:=if us.contains z=true then us else us++ [z]
theorem C7j(us:List Str)(z:Str):((kvU us).any fun kv=>decide (kv.1=(Sum.inr z:Key)))=us.contains z:=by
 unfold kvU
 induction us with
 |nil=>rfl
 | cons a r ih=>
   rw[List.map_cons,List.any_cons,ih,List.contains_cons]
   congr 1
   rw[Bool.eq_iff_iff,decide_eq_true_iff,beq_iff_eq]
   exact⟨fun h=>(Sum.inr.inj h).symm,fun h=>congrArg Sum.inr h.symm⟩
theorem D9v(us:List Str)(z:Str):A7z (kvU us) (Sum.inr z:Key) (.bl true)=kvU (B8s us z):=by
 unfold A7z B8s
 rw[C7j]
 by_cases h:us.contains z=true
 . rw[if_pos h,if_pos h]
   unfold kvU
   rw[List.map_map]
   refine List.map_congr_left fun a _=>?_
   show(if(Sum.inr a:Key)=(Sum.inr z:Key) then((Sum.inr a:Key),V.bl true) else((Sum.inr a:Key),V.bl true))=_
   split<;>rfl
 rw[if_neg h,if_neg h]
 unfold kvU
 rw[List.map_append]
 rfl
theorem C9g(us:List Str)(z:Str):(A7v (kvU us) (Sum.inr z:Key)).isSome=us.contains z:=by
 rw[<-C7j]
 unfold A7v
 rw[Option.isSome_map,List.isSome_find?]
theorem D5w(us:List Str)(z y:Str):y∈B8s us z↔y∈us\/y=z:=by
 unfold B8s
 split
 . rename_i h
   exact⟨.inl,fun q=>q.elim id fun e=>by rw[e];exact List.contains_iff_mem.mp h⟩
 rw[List.mem_append,List.mem_singleton]
theorem C1a(us:List Str):(V6 us).length<=7:=List.length_filter_le _ _
theorem C2w(us:List Str):V6 (V6 us)=V6 us:=by
 unfold V6
 refine List.filter_congr fun z hz=>?_
 rw[Bool.eq_iff_iff,List.contains_iff_mem,List.contains_iff_mem,List.mem_filter,List.contains_iff_mem]
 exact⟨fun h=>h.2,fun h=>⟨hz,h⟩⟩
theorem C5c(xs zs:List Str):V6 (V6 (xs++zs)++zs)=V6 (xs++zs):=by
 unfold V6
 refine List.filter_congr fun z hz=>?_
 rw[Bool.eq_iff_iff,List.contains_iff_mem,List.contains_iff_mem,List.mem_append,List.mem_filter,List.contains_iff_mem,List.mem_append]
 exact⟨fun h=>h.elim (fun q=>q.2) .inr,fun h=> .inl ⟨hz,h⟩⟩
theorem G1u{us:List Str}{z:Str}(h:us.Nodup):(B8s us z).Nodup:=by
 unfold B8s
 split
 . exact h
 rename_i hz
 refine List.nodup_append.mpr ⟨h,by simp,fun a ha b hb=>?_⟩
 rw[List.mem_singleton.mp hb]
 rintro rfl
 exact hz (List.contains_iff_mem.mpr ha)
theorem B9h:∀(l us:List Str),us.Nodup ->(∀z∈us,z∈l) ->us.length<=l.length
 | [],us,_,h=>by
   cases us with
   |nil=>exact Nat.le_refl _
   |cons a r=>exact absurd (h a List.mem_cons_self) (by simp)
 | a ::l,us,nd,h=>by
   by_cases m:a∈us
   . have:=B9h l (us.erase a) (nd.erase a) fun z hz=>by
       obtain⟨h1,h2⟩:=(List.Nodup.mem_erase_iff nd).mp hz
       rcases List.mem_cons.mp (h z h2) with q|q
       . exact absurd q h1
       . exact q
     rw[List.length_erase_of_mem m] at this
     rw[List.length_cons]
     omega
   . have:=B9h l us nd fun z hz=>by
       rcases List.mem_cons.mp (h z hz) with q|q
       . exact absurd (q▸hz) m
       . exact q
     rw[List.length_cons]
     omega
structure RIn(CN CC:Addr)(dq tl kd c sm a b:Addr)(wh:Int)(v:Cv)(us tr zs:List Str)(as:List V)(res:Nm×List Str)(H:Hp):Prop where
 due:A6z H dq res.1 zs
 ez:∀z,z∈zs↔z∈res.2
 sz:∀z∈zs,z∈Y1
 et:H tl=some (.lst (tr.map V.str))
 st:B2p tr
 ek:H kd=some (.dK (kvU us))
 nu:us.Nodup
 su:∀z∈us,z∈Y1
 ct:Z6 CC H c v a b (V6 us) tr
 ok:v.Ok
 es:H sm=some (.lst as)
 rd:Rdy CN wh as v c res H
noncomputable abbrev stR (dq tl kd c sm:Addr) (wh:Int) (x6 x7 x8 x9 x10 x11 x12 x13:Option V):L2.St:=[sr dq,sr tl,sr kd,sr c,si wh,sr sm,x6,x7,x8,x9,x10,x11,x12,x13]
structure C3b(K:Frag)(mg:Str ->Option Value)(CT CR:Addr):Prop where
 gT:mg "Trapped"=some (.ref CT)
 gR:mg "ReckonError"=some (.ref CR)
 c:B2c K CT
 sub:subIn K (.ref CT) (.ref CT)=some true
 k:B5r K CT
 dict:∃d,clsIn K CT=some d/\d.hasDict=true
 nosig:findIn K (.ref CT) "signal"=some none
 kR:kitOne K (.ref CT) (.ref CR)=some true
 kv:kitOne K (.ref CT) (.type "ValueError")=some true
theorem C7x{X:Cx}{e:Expr}{f:Str}{pos:Pos}{ta:TE}(hK:X.K=K)(he:PE X e ta)(hb:attributeBase e f X.env (eval e X.env)=eval e X.env):PE X (.Attribute e f pos) (D8z K ta f):=by
 subst hK
 exact D7x he hb
theorem scLRight:B8 ["_law_due","_law_traps_here","_law_kept","_law_context","_law_which","_law_some","_law_due_told","_law_raised","_law_signal","_law_caught","_law_found","e","_law_good","_law_flags"] Q38 (A5 A9j):=scK
noncomputable def B5x (CN CC:Addr):Sp:=fun vs H Q _=>∃dq tl kd c sm a b wh v us tr zs as res,vs=[.ref dq,.ref tl,.ref kd,.ref c,.int wh,.ref sm]/\RIn CN CC dq tl kd c sm a b wh v us tr zs as res H/\
 ∀us' a' b' H',(∀z,z∈us'↔z∈us\/z∈zs) ->us'.Nodup ->Z2 c kd H H' ->H' kd=some (.dK (kvU us')) ->Z6 CC H' c v a' b' (V6 us') tr ->Q (.bl true) H'
theorem C5a{f f1 f2 CN CC CB CB' CT CR A1:Addr}(D:Def K mg "_law_right" Q38 A9j f fd)(dA:Def K mg "_law_called" Q10 A4g f1 fd1)(G2_called:C6 P w K mg base 9 f1 fd1 Q10 (A7t K CN CC CT CB))
   (dB:Def K mg "_law_is" Q13 C6j f2 fd2) (G2_is:C6 P w K mg base 3 f2 fd2 Q13 (C8j CN)) (R:C3b K mg CT CR) (SG:C5w K mg A1) (C:B2b K mg CC) (MF:Has P w K mg base CC "flags" 1 ["self"] (A3r CC)) (MP:A6y P w K mg base CC "trap" 2 Q9 (B5m K CC CB')) (O:Own mg) (T:Kit K):sI P w K mg base 10 f fd Q38 (B5x CN CC):=by
 refine D.F.okE scLRight (fun vs H Q E h=>?_) (fun X cdv A outer s H vs Q E hX hr hx h=>?_)
 . obtain⟨dq,tl,kd,c,sm,a,b,wh,v,us,tr,zs,as,res,rfl,_⟩:=h
   rfl
 subst hX
 obtain⟨dq,tl,kd,c,sm,a,b,wh,v,us,tr,zs,as,res,rfl,h0,kk⟩:=h
 obtain⟨ff,fdf,mf,gf,bf⟩:=MF
 obtain⟨fp,fdp,mp,gp,bp⟩:=MP
 have G_l_called:=G2_called.fn
 have G_l_is:=G2_is.fn
 have GH_l_called:=G2_called.h
 have GH_l_is:=G2_is.h
 have hu:=hr.units
 have HU:=Nat.lt_of_le_of_lt (Nat.add_le_add_left (by decide:1<=64) _) hr.units
 refine⟨_,(A3 (B0 (A2u (pv 0) (A2c rfl (D8 (D4 (i:=6) scLRight.nd rfl (Or.inl rfl)) (D8 (D4 (i:=7) scLRight.nd rfl (Or.inr rfl)) A0b))))) (A3 (B0 (B0h PassesOwn.leaving rfl (B5a (pv 7)) (D4 (i:=8) scLRight.nd rfl (Or.inl rfl)) (A7 (B0 (D6z HU (pv 2) (pv 8) A1f (by rfl)))))) (A3 (B0 (C9c (i:=9) (N:=["_law_signal"]) (F:=["_law_traps_here","_law_raised"]) (js:=[1,7]) (D5.of2 ⟨rfl,by decide+kernel,by decide+kernel,by decide+kernel,by decide+kernel⟩ (by rfl) (by rfl) ⟨_,by rfl⟩ (by rfl) (by rfl) (by rfl) ⟨_,by rfl⟩ (by rfl) (by rfl)) (.inl hr.hd) (A9g (A7c SG.g)) rfl (fun C s₀ H₀ ex pn h=>D4 (i:=0) (by decide+kernel:(["_law_signal","_law_traps_here","_law_raised"]:List Str).Nodup) rfl (Or.inl rfl)) (fun C s₀ H₀ ex pn h=>(PW.pt (A2t (C8 (A5u (K:=K) rfl) (pv 0) (pv 2) (by rfl)) (A1c (C8 (A5u (K:=K) rfl) (pv 0) (pv 1) (by rfl)))))) (fun C s₀ H₀ ex pn h=>(pv 0)) scLRight.nd rfl (Or.inl rfl))) (A3 (B0 (D8p ⟨rfl,rfl,rfl⟩ (by rfl) R.gT R.c scLRight.nd (i:=11) rfl rfl (fun pins Ew EHb hc=>(A7 (B0 (D3 (i:=10) scLRight.nd rfl (Or.inl rfl) (U9 dA G_l_called hr hc (A0 (pv 4) (A0 (pv 3) (A0 (pv 5) A4)))))))) (fun pins a=>(A3 (B0 (D3 (i:=12) scLRight.nd rfl (Or.inl rfl) (A0e (G6 (D6h (K:=K) rfl hr.units) (pv 9) (U5 A4) (B9 _)) (A0e (G6 G4 (C7x (K:=K) rfl (pv 11) rfl) (Y2 (B6t (K:=K) rfl) (pv 9) A2 (fun _ _=>rfl)) (B9 _)) (A0e (A8n (K:=K) rfl O.isi (pv 11) (A7c R.gR)) (Z8 (A8n (K:=K) rfl O.isi (pv 11) (pty O.ValueError_ (show bootBuiltins "ValueError"=some (.type "ValueError") by decide+kernel))))))))) (A3 (B0 (Y8 (C1q (a:=a) rfl (pv 3) C.cl mp gp.h (hr.hm _) bp .nil (A0 (U5 A4) A4)))) (A3 (B0 (D3 (i:=12) scLRight.nd rfl (Or.inl rfl) (A0e (pv 12) (Z8 (C1t (a:=a) rfl dB GH_l_is (hr.hm _) (A0 (C1t (a:=a) rfl dA GH_l_called (hr.hm _) (A0 (pv 4) (A0 (pv 3) (A0 (pv 5) A4)))) (A0 (pv 6) A4))))))) (A7 (B0 (Y8 (C1q (a:=a) rfl (pv 3) C.cl mp gp.h (hr.hm _) bp .nil (A0 (V2 (B2j (K:=K) rfl) (by rfl) O.list_ boot_list (A0 (pv 1) A4)) A4))))))))) (A7 (B0 (D3 (i:=12) scLRight.nd rfl (Or.inl rfl) (A0e (G6 (C5y hr.units) (pv 9) (U5 A4) (B9 _)) (Z8 (U9 dB G_l_is hr hx (A0 (pv 10) (A0 (pv 6) A4)))))))))) (A3 (B0 (D3 (i:=13) scLRight.nd rfl (Or.inl rfl) (B9k (pv 3) C.cl mf gf hr bf .nil hx))) (A7 (B5 (A0e (pv 12) (A0e (A8y O.isi (pv 13) (pty O.list_ boot_list)) (Z8 (G6 (C5y hr.units) (pv 13) (B7m (N:=["_law_signal"]) (F:=["_law_kept"]) (js:=[2]) (D5.of1 ⟨rfl,by decide+kernel,by decide+kernel,by decide+kernel,by decide+kernel⟩ (by rfl) (by rfl) ⟨_,by rfl⟩ (by rfl) (by rfl)) (.inl hr.hd) (A9g (A7c SG.g)) rfl (fun C s₀ H₀ ex pn h=>D4 (i:=0) (by decide+kernel:(["_law_signal","_law_kept"]:List Str).Nodup) rfl (Or.inl rfl)) (fun C s₀ H₀ ex pn h=>(C8e (C9d HU (pv 0) (pv 1)))) (fun C s₀ H₀ ex pn h=>(pv 0))) (B9 _)))))))))))),?_⟩
 obtain⟨dt,dl,edq,edt,edl⟩:=h0.due
 obtain⟨dc,ec⟩:=h0.ct.ins
 refine⟨fun σ' H'=>H'=H/\σ'=stR dq tl kd c sm wh (some (.ref dt)) (some (.ref dl)) none none none none none none,⟨_,rfl,dq,_,rfl,SqT.of edq,rfl,_,_,rfl,_,_,rfl,rfl,rfl,rfl⟩,?_⟩
 rintro σ' H1 ⟨rfl,rfl⟩
 have nlk:dl≠kd:=U4 edl h0.ek (by intro z;cases z)
 have nck:c≠kd:=U4 ec h0.ek (by intro z;cases z)
 let I_:L2.St ->L2.Hp ->Prop:=fun σ' H'=>∃us' v8,Exc kd H1 H'/\H' kd=some (.dK (kvU us'))/\(∀z,z∈us'↔z∈us\/z∈zs)/\us'.Nodup/\σ'=stR dq tl kd c sm wh (some (.ref dt)) (some (.ref dl)) v8 none none none none none
 refine⟨I_,?_,?_⟩
 . refine⟨_,rfl,dl,rfl,⟨_,SqL.of edl⟩,A6d (xs:=zs.map V.str) (fun i σ H'=>∃us' v8,Exc kd H1 H'/\H' kd=some (.dK (kvU us'))/\(∀z,z∈us'↔z∈us\/z∈zs.take i)/\us'.Nodup/\σ=stR dq tl kd c sm wh (some (.ref dt)) (some (.ref dl)) v8 none none none none none) ⟨us,none,Exc.of (B7.refl _),h0.ek,fun z=>by simp,h0.nu,rfl⟩ ?_ ?_ ?_⟩
   . rintro i σ H' _ ⟨us',v8,x',_,_,_,_⟩
     exact SqL.of (x' _ _ edl nlk)
   . rintro i x σ H' hi ⟨us',v8,x',ek',mu,lu,rfl⟩
     rw[List.getElem?_map] at hi
     obtain⟨z,hz,rfl⟩:=Option.map_eq_some_iff.mp hi
     have hlt:i<zs.length:=(List.getElem?_eq_some_iff.mp hz).1
     have l8:us'.length<=7:=B9h Y1 us' lu fun y hy=>((mu y).mp hy).elim (h0.su y) fun q=>h0.sz y (List.mem_of_mem_take q)
     have et:zs.take (i+1)=zs.take i++ [z]:=by
       rw[List.take_succ_eq_append_getElem hlt,(List.getElem?_eq_some_iff.mp hz).2]
     refine⟨_,⟨_,rfl,_,rfl,kd,_,rfl,D0f.k (k:= .inr z) ek' (D0 (by unfold kvU;rw[List.length_map];omega)),?_⟩,fun _ _ h=>h⟩
     rw[D9v]
     refine⟨B8s us' z,_,x'.trans Exc.upd,A6,fun y=>?_,G1u lu,rfl⟩
     rw[D5w,mu,et,List.mem_append,List.mem_singleton,or_assoc]
   . rintro σ H' ⟨us',v8,x',ek',mu,lu,rfl⟩
     rw[List.length_map] at mu
     rw[List.take_length] at mu
     exact⟨us',v8,x',ek',mu,lu,rfl⟩
 refine L2.hideG fun Z_ z_=>?_
 rintro σ' H2 ⟨us',v8,x2',ek2,mu,lu,rfl⟩
 subst z_
 clear I_
 have ct2:Z6 CC H2 c v a b (V6 us) tr:=by
   obtain⟨⟨d1,e1⟩,e2,e3⟩:=h0.ct
   exact⟨⟨d1,x2' _ _ e1 (U4 e1 h0.ek (by intro z;cases z))⟩,x2' _ _ e2 (U4 e2 h0.ek (by intro z;cases z)),x2' _ _ e3 (U4 e3 h0.ek (by intro z;cases z))⟩
 have edl2:=x2' _ _ edl nlk
 have edt2:=x2' _ _ edt (U4 edt h0.ek (by intro z;cases z))
 have et2:=x2' _ _ h0.et (U4 h0.et h0.ek (by intro z;cases z))
 have es2:=x2' _ _ h0.es (U4 h0.es h0.ek (by intro z;cases z))
 have rd2:Rdy CN wh as v c res H2:=h0.rd.keep fun b o e nd nc=>x2' _ _ e (fun z=>by rw[z,h0.ek] at e;exact nd _ (Option.some.inj e).symm)
 let I_:L2.St ->L2.Hp ->Prop:=fun σ' H'=>∃lc,B7 H2 H'/\H' lc=some (.lst (((V6 zs).filter fun z=>tr.contains z).map V.str))/\σ'=stR dq tl kd c sm wh (some (.ref dt)) (some (.ref dl)) v8 (some (.ref lc)) none none none none
 refine⟨I_,?_,?_⟩
 . refine A6e (zs:=Y1) (f:=fun z=>zs.contains z&&tr.contains z) (σf:=[sr tl,sr dl]) SG.sq (by decide) (fun z H' Qb sm qq=>?_) (fun z H' Qv qq=>⟨_,rfl,qq⟩) (fun D H' sm nd e=>?_) rfl
   . refine⟨_,rfl,_,rfl,dl,_,rfl,.inl (SqL.of (sm _ _ edl2)),rfl,A0u _,_,rfl,?_⟩
     rw[A1p]
     cases hz:zs.contains z with
     |false=>rw[hz] at qq;exact V9 qq
     | true=>
       rw[hz] at qq
       refine Z7 ⟨_,rfl,_,rfl,tl,_,rfl,.inl (SqL.of (sm _ _ et2)),rfl,A0u _,_,rfl,?_⟩
       rw[A1p]
       exact qq
   . have ef:(Y1.filter fun z=>zs.contains z&&tr.contains z)=(V6 zs).filter fun z=>tr.contains z:=by
       unfold V6
       rw[List.filter_filter]
       refine List.filter_congr fun z _=>?_
       exact Bool.and_comm _ _
     rw[ef] at e
     exact⟨D,sm,e,rfl⟩
 refine L2.hideG fun Z_ z_=>?_
 rintro σ' H3 ⟨lc,s3,elc,rfl⟩
 subst z_
 clear I_
 have hh:=B8j (zs:=zs) h0.st
 generalize hC:((V6 zs).filter fun z=>tr.contains z)=ca at elc hh
 have okC:OkL ca:=by
   rw[<-hC]
   exact⟨Nat.le_trans (List.length_filter_le _ _) (Nat.le_trans (List.length_filter_le _ _) (by decide)),fun z hz=>C8p z (List.mem_filter.mp (List.mem_filter.mp hz).1).1⟩
 have ok0:OkL []:=⟨by decide,fun _ h=>by cases h⟩
 have ct3:=ct2.same s3
 have ek3:=s3 _ _ ek2
 have edt3:=s3 _ _ edt2
 have et3:=s3 _ _ et2
 have es3:=s3 _ _ es2
 have rd3:Rdy CN wh as v c res H3:=rd2.keep fun b o e _ _=>s3 _ _ e
 obtain⟨dc3,ec3⟩:=ct3.ins
 have x13:Z2 c kd H1 H3:=(Z2.r x2').trans (Z2.s s3)
 have h3:hit tr res.2=ca.head?:=by
   rw[hh]
   unfold hit
   congr 1
   funext t
   rw[Bool.eq_iff_iff]
   simp[h0.ez]
 let I_:L2.St ->L2.Hp ->Prop:=fun σ' H'=>∃v10 v11 a' b',Z2 c kd H1 H'/\H' kd=some (.dK (kvU us'))/\Z6 CC H' c v a' b' (V6 (V6 us++res.2)) tr/\σ'=stR dq tl kd c sm wh (some (.ref dt)) (some (.ref dl)) v8 (some (.ref lc)) v10 v11 (some (.bl true)) none
 refine⟨I_,?_,?_⟩
 . let I_:L2.St ->L2.Hp ->Prop:=fun σ' H'=>∃m a',ca=[]/\Exc c H3 H'/\Z6 CC H' c v a' b (V6 (V6 us++res.2)) tr/\Z0 CN H' m res.1/\σ'=stR dq tl kd c sm wh (some (.ref dt)) (some (.ref dl)) v8 (some (.ref lc)) (some (.ref m)) none none none
   refine⟨I_,?_,?_⟩
   . refine⟨_,rfl,_,rfl,_,rfl,wh,c,sm,as,rfl,es3,.inl ⟨v,a,b,V6 us,tr,res,ct3,h0.ok,Nat.le_trans (C1a us) (by decide),C2w us,rd3,⟨fun hn m a' H' x' ct' num=>?_,fun z hz a' d H' x' ct' ed=>?_⟩⟩⟩
     . rw[h3] at hn
       exact⟨m,a',List.head?_eq_none_iff.mp hn,x',ct',num,rfl⟩
     . -- trapped
       rw[h3] at hz
       refine⟨R.sub,fun ea t T na=>?_⟩
       obtain⟨cr,rfl⟩:∃cr,ca=z::cr:=by
         cases ca with
         |nil=>cases hz
         |cons y r=>exact⟨r,by rw[Option.some.inj hz]⟩
       have u1:=B7.upd (o:= .frz (Z4 (.ref CT) t (some d) (.ref T)) (.own ea)) na
       have ee:upd H' ea (.frz (Z4 (.ref CT) t (some d) (.ref T)) (.own ea)) ea=some (.frz (Z4 (.ref CT) t (some d) (.ref T)) (.own ea)):=A6
       generalize upd H' ea (.frz (Z4 (.ref CT) t (some d) (.ref T)) (.own ea))=G at u1 ee
       have ed1:=u1 _ _ ed
       have ct1:=ct'.same u1
       have kp:∀{q:Addr} {o:HO},H3 q=some o ->(∀C0 d0 F,o≠ .ins C0 d0 F) ->G q=some o:=fun{q o} e no=>u1 _ _ (x' _ _ e (fun z=>by rw[z,ec3] at e;exact no _ _ _ (Option.some.inj e).symm))
       have elc1:=kp elc (fun _ _ _ z=>by cases z)
       have ty:∀{H'':Hp},B7 G H'' ->TyE K H'' (.ref ea) (.ref CT):=fun s=> .excD (s _ _ ee) (s _ _ ed1) R.k
       refine⟨fun σ' H''=>B7 G H''/\σ'=stR dq tl kd c sm wh (some (.ref dt)) (some (.ref dl)) v8 (some (.ref lc)) none (some (.ref ea)) (some (.bl true)) none,?_,?_⟩
       . refine⟨_,rfl,Nat.zero_le _,fun l0 n0=>?_⟩
         have u0:=B7.upd (o:= .lst []) n0
         refine⟨rdS (z::cr),rdS [],A4d (u0 _ _ elc1),A4d A6,shS okC,shS ok0,?_⟩
         rw[if_pos rfl,D7f]
         refine⟨_,rfl,Z7 ⟨_,rfl,ea,CT,t,.ref T,d,_,_,_,rfl,u0 _ _ ee,u0 _ _ ed1,R.k,R.dict,R.nosig,rfl,?_⟩⟩
         refine⟨_,rfl,lc,_,_,_,rfl,rfl,SqL.of (u0 _ _ elc1),Y0 (j:=0) rfl,rfl,_,rfl,A0k rfl ?_⟩
         refine⟨_,rfl,_,_,_,_,true,rfl,rfl,ty u0,R.kR,_,rfl,Z7 ?_⟩
         exact⟨_,rfl,_,_,_,_,true,rfl,rfl,ty u0,R.kv,u0,rfl⟩
       clear elc1
       rintro σ' G1 ⟨sG,rfl⟩
       have ct1:=ct1.same sG
       have kp1:∀{q:Addr} {o:HO},H3 q=some o ->(∀C0 d0 F,o≠ .ins C0 d0 F) ->G1 q=some o:=fun e no=>sG _ _ (kp e no)
       have ee1:=sG _ _ ee
       obtain⟨dcx,ecx⟩:=ct1.ins
       have fe:∀{H'':Hp},H'' ea=some (.frz (Z4 (.ref CT) t (some d) (.ref T)) (.own ea)) ->∃o u fs,H'' ea=some (.frz o u)/\o.data= .fields fs/\fs[2]?=some .none:=fun e=>⟨_,_,_,e,rfl,rfl⟩
       refine⟨fun σ' H''=>∃b',Exc c G1 H''/\Z6 CC H'' c v a' b' (V6 (V6 us++res.2)) []/\σ'=stR dq tl kd c sm wh (some (.ref dt)) (some (.ref dl)) v8 (some (.ref lc)) none (some (.ref ea)) (some (.bl true)) none,?_,?_⟩
       . refine⟨_,rfl,c,dcx,_,rfl,ecx,A2m _ _ _ _ _ _,Nat.zero_le _,fun l0 n0=>?_⟩
         have u0:=B7.upd (o:= .lst []) n0
         refine⟨fe (u0 _ _ ee1),c,v.r,v.y,v.l,v.m,a',b,_,_,_,rfl,ct1.same u0,.inl ⟨l0,[],rfl,A6,(fun _ h=>by cases h),fun b' H'' x'' _ ct''=>?_⟩⟩
         exact⟨b',(Exc.of u0).trans x'',ct'',rfl⟩
       rintro σ' G2 ⟨b2,xG,ctG,rfl⟩
       have kp2:∀{q:Addr} {o:HO},H3 q=some o ->(∀C0 d0 F,o≠ .ins C0 d0 F) ->G2 q=some o:=fun{q o} e no=>xG _ _ (kp1 e no) (fun z=>by have:=kp1 e no;rw[z,ecx] at this;exact no _ _ _ (Option.some.inj this).symm)
       have rdG:Rdy CN wh as v c res G2:=rd3.keep fun b o e _ nc=>xG _ _ (sG _ _ (u1 _ _ (x' _ _ e nc))) nc
       have ee2:=xG _ _ ee1 (fun z=>by rw[z,ecx] at ee1;cases ee1)
       have es2':=kp2 es3 (fun _ _ _ z=>by cases z)
       have edt2':=kp2 edt3 (fun _ _ _ z=>by cases z)
       refine⟨fun σ' H''=>∃a'',Exc c G2 H''/\Z6 CC H'' c v a'' b2 (V6 (V6 us++res.2)) []/\σ'=stR dq tl kd c sm wh (some (.ref dt)) (some (.ref dl)) v8 (some (.ref lc)) none (some (.ref ea)) (some (.bl true)) none,?_,?_⟩
       . refine⟨_,rfl,_,rfl,Z7 ⟨_,rfl,_,rfl,_,rfl,fe ee2,wh,c,sm,as,rfl,es2',.inl ⟨v,a',b2,_,[],res,ctG,h0.ok,Nat.le_trans (C1a _) (by decide),C2w _,rdG,⟨fun hn m a'' H'' x'' ct'' num=>?_,fun z hz=>by cases hz⟩⟩⟩⟩
         rw[C5c] at ct''
         obtain⟨dcy,ecy⟩:=ctG.ins
         have ee3:=x'' _ _ ee2 (fun z=>by rw[z,ecy] at ee2;cases ee2)
         have edt3':=x'' _ _ edt2' (fun z=>by rw[z,ecy] at edt2';cases edt2')
         exact⟨_,rfl,fe ee3,m,dt,res.1,rfl,num,edt3',fun H5 s5=>⟨a'',x''.trans (Exc.of s5),ct''.same s5,rfl⟩⟩
       rintro σ' G3 ⟨a3,xG3,ctG3,rfl⟩
       obtain⟨dcy,ecy⟩:=ctG.ins
       obtain⟨dcz,ecz⟩:=ctG3.ins
       have kp3:∀{q:Addr} {o:HO},H3 q=some o ->(∀C0 d0 F,o≠ .ins C0 d0 F) ->G3 q=some o:=fun{q o} e no=>xG3 _ _ (kp2 e no) (fun z=>by have:=kp2 e no;rw[z,ecy] at this;exact no _ _ _ (Option.some.inj this).symm)
       have ee3:=xG3 _ _ ee2 (fun z=>by rw[z,ecy] at ee2;cases ee2)
       have et3':=kp3 et3 (fun _ _ _ z=>by cases z)
       refine⟨_,?_,fun _ _ h=>h⟩
       refine⟨_,rfl,c,dcz,_,rfl,ecz,A2m _ _ _ _ _ _,_,rfl,tl,_,rfl,.inl (SqL.of et3'),fun l1 n1=>?_⟩
       have u3:=B7.upd (o:= .lst (tr.map V.str)) n1
       refine⟨fe (u3 _ _ ee3),c,v.r,v.y,v.l,v.m,a3,b2,_,_,_,rfl,ctG3.same u3,.inl ⟨l1,tr,rfl,A6,h0.st.mem,fun b' H'' x'' _ ct''=>?_⟩⟩
       rw[A9z h0.st (fun z=>Iff.rfl)] at ct''
       have ek3':=kp3 ek3 (fun _ _ _ z=>by cases z)
       refine⟨_,_,a3,b',?_,x'' _ _ (u3 _ _ ek3') (fun z=>by rw[z,ecz] at ek3';cases ek3'),ct'',rfl⟩
       exact x13.trans ((Z2.l x').trans ((Z2.s (u1.trans sG)).trans ((Z2.l xG).trans ((Z2.l xG3).trans ((Z2.s u3).trans (Z2.l x''))))))
   . rintro σ' H4 ⟨m,a4,eca,x4,ct4,num4,rfl⟩
     subst eca
     have elc4:=x4 _ _ elc (U4 elc ec3 (by intro z;cases z))
     refine⟨_,?_,fun _ _ h=>h⟩
     refine⟨_,rfl,Nat.zero_le _,fun l0 n0=>?_⟩
     have u0:=B7.upd (o:= .lst []) n0
     refine⟨rdS [],rdS [],A4d (u0 _ _ elc4),A4d A6,shS ok0,shS ok0,?_⟩
     rw[if_neg Bool.false_ne_true,G0q]
     have edt4:=x4 _ _ edt3 (U4 edt3 ec3 (by intro z;cases z))
     have ek4:=x4 _ _ ek3 (U4 ek3 ec3 (by intro z;cases z))
     exact⟨_,rfl,Z7 ⟨_,rfl,_,rfl,m,dt,res.1,rfl,num4.same u0,u0 _ _ edt4,fun H' s'=>⟨_,_,a4,b,x13.trans ((Z2.l x4).trans (Z2.s (u0.trans s'))),(u0.trans s') _ _ ek4,ct4.same (u0.trans s'),rfl⟩⟩⟩
 refine L2.hideG fun Z_ z_=>?_
 rintro σ' H4 ⟨v10,v11,a4,b4,x4,ek4,ct4,rfl⟩
 subst z_
 clear I_
 have eo:V6 (V6 us++res.2)=V6 us':=by
   unfold V6
   refine List.filter_congr fun z hz=>?_
   rw[Bool.eq_iff_iff,List.contains_iff_mem,List.contains_iff_mem,List.mem_append,List.mem_filter,List.contains_iff_mem,mu,h0.ez]
   exact or_congr ⟨fun q=>q.2,fun q=>⟨hz,q⟩⟩ Iff.rfl
 rw[eo] at ct4
 obtain⟨dc4,ec4⟩:=ct4.ins
 refine⟨fun σ' H'=>∃fl,B7 H4 H'/\H' fl=some (.lst ((V6 us').map V.str))/\σ'=stR dq tl kd c sm wh (some (.ref dt)) (some (.ref dl)) v8 (some (.ref lc)) v10 v11 (some (.bl true)) (some (.ref fl)),⟨_,rfl,c,dc4,_,rfl,ec4,A6n _ _ _ _ _ _,c,v.r,v.y,v.l,v.m,a4,b4,_,_,rfl,ct4,fun p np=>⟨p,B7.upd np,A6,rfl⟩⟩,?_⟩
 refine L2.hideG fun Z_ z_=>?_
 rintro σ' H5 ⟨fl,s5,efl,rfl⟩
 subst z_
 refine⟨_,rfl,_,rfl,Z7 ⟨_,rfl,_,_,_,_,true,rfl,rfl,C2k efl,T.list_list,_,rfl,Z7 ⟨_,rfl,?_⟩⟩⟩
 have okU:OkL (V6 us'):=⟨Nat.le_trans (C1a us') (by decide),fun z hz=>C8p z (List.mem_filter.mp hz).1⟩
 refine A6e (zs:=Y1) (f:=fun z=>us'.contains z) (σf:=[sr kd]) SG.sq (by decide) (fun z H' Qb sm qq=>?_) (fun z H' Qv qq=>⟨_,rfl,qq⟩) (fun D H' sm nd e=>?_) rfl
 . have:=C5t.k (k:= .inr z) (sm _ _ (s5 _ _ ek4))
   refine⟨_,rfl,_,rfl,kd,_,rfl,this,_,rfl,?_⟩
   rw[C9g]
   exact qq
 refine⟨rdS (V6 us'),rdS (V6 us'),A4d (sm _ _ efl),A4d e,shS okU,shS okU,?_⟩
 rw[if_neg Bool.false_ne_true,G0q]
 exact kk us' a4 b4 _ mu lu (x4.trans (Z2.s (s5.trans sm))) ((s5.trans sm) _ _ ek4) (ct4.same (s5.trans sm))
noncomputable abbrev A9e:Stmt:=(top 78)
noncomputable abbrev A9d:Stmt:=(top 77)
theorem G5x{b:Bool}{A B:Prop}(h1:b=true ->A)(h2:b=false ->B):if b=true then A else B:=by
 cases b with
 |true=>exact h1 rfl
 |false=>exact h2 rfl
noncomputable def G4y (c k:Int):Int:=(c*(48271+2*k*k)+69621*k+11) % 2147483647*69621 % 2147483629
theorem D8m:Y1=(List.range 7).map fun i=>Y1.getD i "":=by decide+kernel
theorem D8k(f:Nat ->Bool):B2p (((List.range 7).filter f).map fun i=>Y1.getD i ""):=by
 refine⟨fun z=>f (Y1.idxOf z),?_⟩
 have e:Y1.filter (fun z=>f (Y1.idxOf z))=((List.range 7).map fun i=>Y1.getD i "").filter fun z=>f (Y1.idxOf z):=congrArg (List.filter fun z=>f (Y1.idxOf z)) D8m
 rw[e,List.filter_map]
 refine congrArg (List.map fun i=>Y1.getD i "") (List.filter_congr fun i hi=>?_)
 show f i=f (Y1.idxOf (Y1.getD i ""))
 rw[G0p i (List.mem_range.mp hi)]
theorem G6j{f:Nat ->Bool}{ys:List V}(hl:ys.length=((List.range 7).filter f).length)(hr:∀(j i:Nat) (y:V),((List.range 7).filter f)[j]?=some i ->ys[j]?=some y ->∃z,Y1[i]?=some z/\y= .str z):ys=(((List.range 7).filter f).map fun i=>Y1.getD i "").map V.str:=by
 refine List.ext_getElem (by rw[List.length_map,List.length_map,hl]) fun j h1 h2=>?_
 have h3:j<((List.range 7).filter f).length:=by rw[<-hl];exact h1
 obtain⟨z,hz,hy⟩:=hr j _ _ (List.getElem?_eq_getElem h3) (List.getElem?_eq_getElem h1)
 rw[hy,List.getElem_map,List.getElem_map,List.getD_eq_getElem?_getD,hz]
 rfl
noncomputable def B6k:Sp:=fun vs H Q _=>∃c k,vs=[.int c,.int k]/\0<=k/\k<=100/\Q (.int (G4y c k)) H
theorem C3y(D:Def K mg "_law_mixed" Q5 A3v f fd):sI P w K mg base 1 f fd Q5 B6k:=by
 refine G8.up (D.F.ok C2a (fun vs H Q E h=>?_) (fun cdv A outer s H vs Q E hr h=>?_))
 . obtain⟨c,k,rfl,_⟩:=h
   rfl
 obtain⟨c,i,rfl,h0,h1,k⟩:=h
 refine⟨_,(A7 (B5 (A9 U6 (A9 G0 (A9 U6 (A9 G9 (A9 G9 (A9 G0 (pv 0) (A9 G9 A2 (A9 G0 (A9 G0 A2 (pv 1)) (pv 1)))) (A9 G0 A2 (pv 1))) A2) A2) A2) A2))),?_⟩
 have q0:(0:Int)<=2*i*i:=Int.mul_nonneg (by omega) h0
 have q1:2*i*i<=200*100:=Int.mul_le_mul (by omega) h1 h0 (by decide)
 have m1:IntMulOk 2 i:=A2h.ok (.inl ⟨by decide,by decide⟩)
 have m2:IntMulOk (2*i) i:=A2h.ok (.inr ⟨by omega,by omega⟩)
 have m3:IntMulOk c (48271+2*i*i):=A2h.ok (.inr ⟨by omega,by omega⟩)
 have m4:IntMulOk 69621 i:=A2h.ok (.inl ⟨by decide,by decide⟩)
 have m5:∀z:Int,IntMulOk z 69621:=fun z=>A2h.ok (.inr ⟨by decide,by decide⟩)
 exact⟨_,rfl,_,rfl,_,_,rfl,rfl,m1,_,rfl,_,_,rfl,rfl,m2,_,_,rfl,rfl,_,_,rfl,rfl,m3,_,rfl,_,_,rfl,rfl,m4,_,_,rfl,rfl,_,_,rfl,rfl,_,_,rfl,rfl,(by show(0:Int)<2147483647;decide),_,_,rfl,rfl,m5 _,_,_,rfl,rfl,(by show(0:Int)<2147483629;decide),k⟩
noncomputable def B6g:Sp:=fun vs H Q _=>∃c:Int,vs=[.int c]/\∀tr l H',B2p tr ->B7 H H' ->H l=none ->H' l=some (.lst (tr.map V.str)) ->Q (.ref l) H'
theorem C7u:B8 ["_law_cell"] ["_law_cell"] (A5 A9e):=scK
theorem C5f{f f1 A1:Addr}(D:Def K mg "_law_traps" ["_law_cell"] A9e f fd)(dA:Def K mg "_law_mixed" Q5 A3v f1 fd1)(dB:sI P w K mg base 1 f1 fd1 Q5 B6k)(SG:C5w K mg A1)(O:Own mg):sI P w K mg base 2 f fd ["_law_cell"] B6g:=by
 refine D.F.okE C7u (fun vs H Q E h=>?_) (fun X cdv A outer s H vs Q E hX hr hx h=>?_)
 . obtain⟨c,rfl,_⟩:=h
   rfl
 subst hX
 obtain⟨c,rfl,k⟩:=h
 have HU:=Nat.lt_of_le_of_lt (Nat.add_le_add_left (by decide:1<=64) _) hr.units
 refine⟨_,(A3 (B0 (U2 (C8 C2u (A9 U6 (pv 0) A2) A2 (B9 _)) (A7 (B5 (U5 A4))) D6)) (A7 (B5 (B7q (N:=["_law_k","_law_signal"]) (F:=["_law_cell"]) (js:=[0]) (D5.of1 ⟨rfl,by decide+kernel,by decide+kernel,by decide+kernel,by decide+kernel⟩ (by rfl) (by rfl) ⟨_,by rfl⟩ (by rfl) (by rfl)) (.inl hr.hd) rfl (C8d rfl O.enumerate_ (A0 (A7c SG.g) A4)) rfl (fun C s₀ H₀ ex pn h=>B4f (K:=K) (n:=2) rfl h (D8 (D4 (i:=0) (by decide+kernel:(["_law_k","_law_signal","_law_cell"]:List Str).Nodup) rfl (Or.inl rfl)) (D8 (D4 (i:=1) (by decide+kernel:(["_law_k","_law_signal","_law_cell"]:List Str).Nodup) rfl (Or.inl rfl)) A0b))) (fun C s₀ H₀ ex pn h=>(C8 G4 (A9 U6 (A9 D7 (A3w dA dB hr (A0 (pv 2) (A0 (pv 0) A4))) A2) A2) A2 (B9 _))) (fun C s₀ H₀ ex pn h=>(pv 1)))))),?_⟩
 refine⟨fun σ' H'=>H'=H/\σ'=[si c],?_,?_⟩
 . refine⟨_,rfl,_,_,rfl,rfl,(by decide:(0:Int)<3),rfl,_,rfl,G5x (fun _=>?_) fun _=>⟨rfl,rfl⟩⟩
   exact⟨Nat.zero_le _,fun l nl=>k [] l _ ⟨fun _=>false,rfl⟩ (B7.upd nl) nl A6⟩
 rintro σ' H1 ⟨rfl,rfl⟩
 refine⟨A1,rfl,⟨_,SG.sq _⟩,C8x (J:=G0w K A1) (n:=7) (fun i=>decide (G4y c i/7 % 3=1)) (fun i y _=>∃z,Y1[i]?=some z/\y= .str z) (by decide) (fun _ _ _ _ _ _ h _ _=>h) (fun i H3 Qy Qn hi sm hy hn=>?_) (fun H3 sm=>⟨_,SG.sq _,by decide⟩) (fun D H3 ys sm nD eD hl hr'=>?_)⟩
 . obtain⟨z,hz⟩:∃z,Y1[i]?=some z:=⟨_,List.getElem?_eq_getElem hi⟩
   have hv:B7z[i]?=some (.str z):=by
     show(Y1.map V.str)[i]?=_
     rw[List.getElem?_map,hz]
     rfl
   refine⟨⟨_,_,SG.sq _,hv⟩,fun y H4 yl=>?_⟩
   obtain⟨t,y',rfl,nt,rfl,yl⟩:=yl
   have e:=yl _ (SG.sq _)
   rw[hv] at e
   obtain rfl:=(Option.some.inj e).symm
   refine⟨t,_,rfl,SqT.of A6,rfl,_,_,rfl,_,_,rfl,rfl,_,rfl,_,rfl,c,i,rfl,by omega,by omega,_,_,rfl,rfl,⟨by decide,by decide+kernel⟩,_,_,rfl,rfl,(by decide:(0:Int)<3),rfl,_,rfl,?_⟩
   refine G5x (fun eb=>⟨_,rfl,?_⟩) (fun eb=>?_)
   . exact hy (decide_eq_true (V.int.inj (of_decide_eq_true eb))) _ _ (B7.upd nt) ⟨z,hz,rfl⟩
   . exact hn (decide_eq_false fun q=>of_decide_eq_false eb (congrArg V.int q)) _ (B7.upd nt)
 rw[G6j hl hr'] at eD
 exact k _ D H3 (D8k _) sm nD eD
structure G2j(K:Frag)(CN:Addr):Prop where
 non:kitOne K (.type "NoneType") (.ref CN)=some false
 int:kitOne K (.type "int") (.ref CN)=some false
 str:kitOne K (.type "str") (.ref CN)=some false
 bl:kitOne K (.type "bool") (.ref CN)=some false
 tup:kitOne K (.type "tuple") (.ref CN)=some false
 lst:kitOne K (.type "list") (.ref CN)=some false
 dic:kitOne K (.type "dict") (.ref CN)=some false
 lt:kitOne K (.type "list") (.type "tuple")=some false
structure D9g(mg:Str ->Option Value)(C1 C2 C3 C4 C5:Addr):Prop where
 g1:mg "BadNumber"=some (.ref C1)
 g2:mg "NoText"=some (.ref C2)
 g3:mg "BadContext"=some (.ref C3)
 g4:mg "BadCount"=some (.ref C4)
 g5:mg "Trapped"=some (.ref C5)
structure C3a(K:Frag)(mg:Str ->Option Value)(CR CB C2 C3 C4 C5:Addr):Prop where
 g:mg "ReckonError"=some (.ref CR)
 c:B2c K CR
 sub:subIn K (.ref CB) (.ref CR)=some true
 fits:J0z K CB CB C2 C3 C4 C5 true false false false false
inductive A5j(H:Hp):V ->Prop
 |non:A5j H .non
 |bl (b:Bool):A5j H (.bl b)
 |int (i:Int):A5j H (.int i)
 |str (s:Str):A5j H (.str s)
 |lst {p:Addr} {xs:List V} (e:H p=some (.lst xs)):A5j H (.ref p)
 |tup {p:Addr} {xs:List V} (e:H p=some (.tup xs)):A5j H (.ref p)
 |dic {p:Addr} (e:H p=some (.dK [])):A5j H (.ref p)
theorem A5j.at{H H':Hp}{v:V}(h:A5j H v)(k:∀b o,(∀ps,o≠ .tbl ps) ->(∀x y,o≠ .frz x y) ->H b=some o ->H' b=some o):A5j H' v:=by
 cases h with
 |non=>exact .non
 |bl b=>exact .bl b
 |int i=>exact .int i
 |str s=>exact .str s
 |lst e=>exact .lst (k _ _ (fun _ z=>by cases z) (fun _ _ z=>by cases z) e)
 |tup e=>exact .tup (k _ _ (fun _ z=>by cases z) (fun _ _ z=>by cases z) e)
 |dic e=>exact .dic (k _ _ (fun _ z=>by cases z) (fun _ _ z=>by cases z) e)
theorem A5j.not{K:Frag}{CN:Addr}{H:Hp}{v:V}(O4:G2j K CN)(h:A5j H v):B0k K CN H v:=by
 cases h with
 |non=>exact⟨_,G4x,O4.non⟩
 |bl b=>exact⟨_,J0s _,O4.bl⟩
 |int i=>exact⟨_,B8a _,O4.int⟩
 |str s=>exact⟨_,B6n _,O4.str⟩
 |lst e=>exact⟨_,C2k e,O4.lst⟩
 |tup e=>exact⟨_,D9a e,O4.tup⟩
 |dic e=>exact⟨_,G6c e,O4.dic⟩
theorem A5j.same{H H':Hp}{v:V}(h:A5j H v)(k:B7 H H'):A5j H' v:=h.at fun b o _ _ e=>k b o e
noncomputable def B6x (K:Frag) (CN:Addr):Sp:=fun vs H Q _=>∃c sm as,∃wh:Int,vs=[.ref c,.int wh,.ref sm]/\H sm=some (.lst as)/\G6w K CN wh as H/\∀H',B7 H H' ->Q (.bl true) H'
theorem scLRef18:B8 ["_law_context","_law_which","_law_some","e","_law_others"] Q39 (A5 A9d):=scK
theorem C3h{f f1 CN CC CT CR C1 C2 C3 C4 C5:Addr}(D:Def K mg "_law_refused" Q39 A9d f fd)(dA:Def K mg "_law_called" Q10 A4g f1 fd1)(dB:sI P w K mg base 9 f1 fd1 Q10 (A7t K CN CC CT C1))(R:C3a K mg CR C1 C2 C3 C4 C5)(ES:D9g mg C1 C2 C3 C4 C5)(O:Own mg):sI P w K mg base 10 f fd Q39 (B6x K CN):=by
 refine D.F.okE scLRef18 (fun vs H Q E h=>?_) (fun X cdv A outer s H vs Q E hX hr hx h=>?_)
 . obtain⟨c,sm,as,wh,rfl,_⟩:=h
   rfl
 subst hX
 obtain⟨c,sm,as,wh,rfl,es,bad,k⟩:=h
 have z4:4<=sizeLine:=D0 (by decide)
 refine⟨_,(A3 (B0 (G1v ⟨rfl,rfl,rfl⟩ (by rfl) R.g R.c scLRef18.nd (i:=3) rfl rfl (fun pins Ew EHb hc=>(A7 (B0 (Y8 (U9 dA dB hr hc (A0 (pv 1) (A0 (pv 0) (A0 (pv 2) A4)))))))) (fun pins a=>(A3 (B0 (D3 (i:=4) scLRef18.nd rfl (Or.inl rfl) (U5 (A0 (A8n (K:=K) rfl O.isi (pv 3) (A7c ES.g3)) (A0 (A8n (K:=K) rfl O.isi (pv 3) (A7c ES.g4)) (A0 (A8n (K:=K) rfl O.isi (pv 3) (A7c ES.g2)) (A0 (A8n (K:=K) rfl O.isi (pv 3) (A7c ES.g5)) A4))))))) (A7 (B5 (A0e (A8n (K:=K) rfl O.isi (pv 3) (A7c ES.g1)) (A0e (A8n (K:=K) rfl O.isi (pv 3) (pty O.ValueError_ (show bootBuiltins "ValueError"=some (.type "ValueError") by decide+kernel))) (Z8 (G6 (B2m (K:=K) rfl) A1f (pv 4) (by rfl))))))))))) (A7 (B5 A1f))),?_⟩
 refine⟨_,?_,fun _ _ h=>h⟩
 refine⟨fun _ _=>False,⟨_,rfl,_,rfl,_,rfl,wh,c,sm,as,rfl,es,.inr ⟨bad,fun H' s'=>⟨R.sub,fun ea t T na=>?_⟩⟩⟩,fun _ _ h=>h.elim⟩
 have u1:=B7.upd (o:= .frz (Z4 (.ref C1) t none (.ref T)) (.own ea)) na
 have ee:upd H' ea (.frz (Z4 (.ref C1) t none (.ref T)) (.own ea)) ea=some (.frz (Z4 (.ref C1) t none (.ref T)) (.own ea)):=A6
 generalize upd H' ea (.frz (Z4 (.ref C1) t none (.ref T)) (.own ea))=G at*
 have ty:∀{H'':Hp},B7 G H'' ->TyE K H'' (.ref ea) (.ref C1):=fun s=> .exc (s _ _ ee) R.fits.k
 refine⟨fun σ' H''=>∃l,B7 G H''/\H'' l=some (.lst [.bl false,.bl false,.bl false,.bl false])/\σ'=[sr c,si wh,sr sm,sr ea,sr l],?_,?_⟩
 . have r0:=B7.refl G
   exact⟨_,rfl,_,_,_,_,false,rfl,rfl,ty r0,R.fits.h3,_,rfl,_,_,_,_,false,rfl,rfl,ty r0,R.fits.h4,_,rfl,_,_,_,_,false,rfl,rfl,ty r0,R.fits.h2,_,rfl,_,_,_,_,false,rfl,rfl,ty r0,R.fits.h5,z4,fun l nl=>⟨l,B7.upd nl,A6,rfl⟩⟩
 rintro σ' G1 ⟨l,s1,el,rfl⟩
 refine⟨_,rfl,_,_,_,_,true,rfl,rfl,ty s1,R.fits.h1,_,rfl,Z7 ⟨_,rfl,_,_,_,_,true,rfl,rfl,ty s1,R.fits.hv,_,rfl,Z7 ⟨_,rfl,l,_,rfl,.inl (SqL.of el),rfl,rfl,?_⟩⟩⟩
 exact k _ (s'.trans (u1.trans s1))
noncomputable abbrev A7x:Stmt:=(J1 (top 55) 4)
noncomputable def A5t (CC:Addr):Sp:=fun vs H Q _=>∃c r y l m a b xs ys,vs=[.ref c]/\A0d CC H c r y l m a b xs ys/\∀a' H',Exc c H H' ->H a'=none ->A0d CC H' c r y l m a' b [] ys ->Q .non H'
theorem B9f:B8 ["self"] ["self"] (A5 A7x):=scK
theorem B7e{f CC:Addr}(F:Fun K "clear" "Context.clear" A7x f fd)(C:B2b K mg CC):sI P w K mg base 1 f fd ["self"] (A5t CC):=by
 refine G8.up (F.ok B9f (fun vs H Q E h=>?_) (fun cdv A outer s H vs Q E hr h=>?_))
 . obtain⟨c,r,y,l,m,a,b,xs,ys,rfl,_⟩:=h
   rfl
 obtain⟨c,r,y,l,m,a,b,xs,ys,rfl,⟨⟨dx,e⟩,ha,hb⟩,k⟩:=h
 refine⟨_,(A7 (A0t (pv 0) (U5 A4) rfl)),?_⟩
 refine⟨Nat.zero_le _,fun p np=>?_⟩
 have u:=B7.upd (o:= .lst []) np
 refine⟨_,rfl,c,CC,dx,_,rfl,u _ _ e,C.cl,C.n_risen,by rw[B1b];decide,?_⟩
 rw[B1x]
 have nac:p≠c:=Ne.symm (D9 e np)
 have nbc:b≠c:=U4 hb e (by intro z;cases z)
 exact k p _ ((Exc.of u).trans Exc.upd) np ⟨⟨dx,A6⟩,by rw[C7 nac];exact A6,by rw[C7 nbc];exact u _ _ hb⟩
theorem C9h{K:Frag}{CC CB x dx:Addr}{H:Hp}{Q:VK}{E:XK}{v1 v2 v3 v4:V}{r:Int}{y:Wy}{l m:Int}(n1:H x=none)(n2:H dx=none)(ne:dx≠x)(h1:v1= .int r)(r1:1<=r)(r2:r<=24)(h2:v2= .str y.name)(h3:B9s l v3)(h4:v4= .int m)(m1:0<=m)(m2:m<=60)
   (k:∀a b H',B7 H H' ->H a=none ->H b=none ->A0d CC H' x r y l m a b [] [] ->Q .non H'):A4y K CC CB [.ref x,v1,v2,v3,v4] (upd (upd H dx (.own x)) x (.ins CC dx [])) Q E:=by
 refine⟨x,dx,v1,v2,v3,v4,rfl,A6,.inl ⟨r,y,l,m,h1,r1,r2,h2,h3,h4,m1,m2,fun a b H' e na nb c=>k a b H' (D5s n1 n2 ne e) ?_ ?_ c⟩⟩
 . cases ea:H a with
   |none=>rfl
   | some o=>
     have e1:upd (upd H dx (.own x)) x (.ins CC dx []) a=some o:=by
       rw[C7 (fun z=>by rw[z,n1] at ea;cases ea),C7 (fun z=>by rw[z,n2] at ea;cases ea)]
       exact ea
     rw[na] at e1
     cases e1
 cases eb:H b with
 |none=>rfl
 | some o=>
   have e1:upd (upd H dx (.own x)) x (.ins CC dx []) b=some o:=by
     rw[C7 (fun z=>by rw[z,n1] at eb;cases eb),C7 (fun z=>by rw[z,n2] at eb;cases eb)]
     exact eb
   rw[nb] at e1
   cases e1
noncomputable def C2 (J:It) (QD:Addr ->Hp ->Prop) (D:Addr) (y0 y1:V) (G:Hp):Prop:=G D=some (.lst [y0,y1])/\J.stop 2 G/\QD D G
noncomputable def C1 (J:It) (g:TG) (te:TE) (σ0:L2.St) (QD:Addr ->Hp ->Prop) (D:Addr) (y0:V) (G:Hp):Prop:=G D=some (.lst [y0])/\J.go 1 G/\∀x H3,J.yld 1 G x H3 ->g x σ0 H3 fun σ4 H4=>te σ4 H4 fun y1 H7=>H7 D=some (.lst [y0])/\1<sizeLine/\C2 J QD D y0 y1 (upd H7 D (.lst [y0,y1]))
noncomputable def CW (J:It) (g:TG) (te:TE) (σ0:L2.St) (QD:Addr ->Hp ->Prop) (H1:Hp) (D:Addr):Nat ->List V ->Hp ->Prop
 |0,[],G=>G=upd H1 D (.lst [])
 |1,[y0],G=>C1 J g te σ0 QD D y0 G
 |2,[y0,y1],G=>C2 J QD D y0 y1 G
 |_,_,_=>False
theorem C7d{J:It}{g:TG}{te:TE}{σ0:L2.St}{H1:Hp}{QD:Addr ->Hp ->Prop}
   (h:∀D,H1 D=none ->J.go 0 (upd H1 D (.lst []))/\∀x H3,J.yld 0 (upd H1 D (.lst [])) x H3 ->g x σ0 H3 fun σ4 H4=>te σ4 H4 fun y0 H6=>H6 D=some (.lst [])/\0<sizeLine/\C1 J g te σ0 QD D y0 (upd H6 D (.lst [y0]))):∀D,H1 D=none ->
   ∃ (m:Nat) (W:Nat ->List V ->Hp ->Prop),W 0 [] (upd H1 D (.lst []))/\∀i ys H2,W i ys H2 ->i<=m/\H2 D=some (.lst ys)/\((J.stop i H2/\QD D H2)\/(i<m/\J.go i H2/\∀x H3,J.yld i H2 x H3 ->
     g x σ0 H3 fun σ4 H4=>te σ4 H4 fun y H6=>H6 D=some (.lst ys)/\ys.length<sizeLine/\W (i+1) (ys++ [y]) (upd H6 D (.lst (ys++ [y]))))):=by
 intro D hD
 refine⟨2,CW J g te σ0 QD H1 D,rfl,fun i ys H2 hw=>?_⟩
 match i,ys,hw with
 | 0,[],hw=>
   obtain rfl:H2=upd H1 D (.lst []):=hw
   obtain⟨a,b⟩:=h D hD
   exact⟨by decide,A6,.inr ⟨by decide,a,b⟩⟩
 | 1,[y0],hw=>
   obtain⟨a,b,c⟩:=(hw:C1 J g te σ0 QD D y0 H2)
   exact⟨by decide,a,.inr ⟨by decide,b,c⟩⟩
 | 2,[y0,y1],hw=>
   obtain⟨a,b,c⟩:=(hw:C2 J QD D y0 y1 H2)
   exact⟨by decide,a,.inl ⟨b,c⟩⟩
 |0,_::_,hw=>exact hw.elim
 |1,[],hw=>exact hw.elim
 |1,_::_::_,hw=>exact hw.elim
 |2,[],hw=>exact hw.elim
 |2,[_],hw=>exact hw.elim
 |2,_::_::_::_,hw=>exact hw.elim
 |_+3,_,hw=>exact(by cases hw)
theorem D6y{J:It}{n:Nat}{g:TG}{tb:TS}{D:B2n}{σ:L2.St}{H:Hp}(Pv:Nat ->L2.St ->Hp ->Prop)(h0:Pv 0 σ H)
   (hs:∀i σ H,i<n ->Pv i σ H ->J.go i H/\∀x H',J.yld i H x H' ->g x σ H' fun σ2 H2=>tb {D with nx:=Pv (i+1),ct:=Pv (i+1),bk:=D.nx} σ2 H2) (hd:∀σ H,Pv n σ H ->J.stop n H/\D.nx σ H):
   ∃ W:Nat ->Nat ->L2.St ->Hp ->Prop,(∃m,W 0 m σ H)/\∀i m σ H,W i m σ H ->
     (J.stop i H/\D.nx σ H)\/(J.go i H/\∃N:L2.St ->Hp ->Prop,(∀σ' H',N σ' H' ->∃m',m'<m/\W (i+1) m' σ' H')/\∀x H',J.yld i H x H' ->g x σ H' fun σ2 H2=>tb {D with nx:=N,ct:=N,bk:=D.nx} σ2 H2):=by
 refine⟨fun i m σ H=>m=n-i/\i<=n/\Pv i σ H,⟨n,by simp,Nat.zero_le _,h0⟩,?_⟩
 rintro i m σ H ⟨rfl,hi,p⟩
 by_cases hlt:i<n
 . obtain⟨a,b⟩:=hs i σ H hlt p
   exact .inr ⟨a,Pv (i+1),fun σ' H' p'=>⟨n-(i+1),by omega,rfl,hlt,p'⟩,b⟩
 have e:i=n:=by omega
 subst e
 exact .inl (hd σ H p)
noncomputable abbrev B4m:Stmt:=(top 79)
noncomputable abbrev B4w:Stmt:=(top 80)
noncomputable def pwN:Nat ->Nat
 |0=>0
 |k+1=>2^k
theorem G5n{f p L0:Int}(hf:1<=f)(h:A3b f 1 (p-L0)):A2n f (p-2*(L0/2)):=by
 obtain⟨m,rfl⟩:=Int.eq_ofNat_of_zero_le (show 0<=f by omega)
 obtain⟨A,a1,a2⟩:=A9q m (by omega)
 have l:A3b (m:Int) 1 (-(A:Int)):=by
   unfold A3b
   have e1:A8 (-(A:Int))=1:=by unfold A8;rw[show(-(A:Int)).toNat=0 by omega];rfl
   have e2:A8 (-(-(A:Int)))=((10^A:Nat):Int):=by unfold A8;rw[Int.neg_neg,Int.toNat_natCast]
   rw[e1,e2]
   rw[Nat.pow_succ] at a2
   constructor<;>omega
 have e:=D7b (by decide:(0:Int)<1) h l
 exact A7h a1 a2 (by omega)
noncomputable def C1h:Sp:=fun vs H Q _=>∃n:Nat,vs=[.int (n:Int)]/\n<2^4000/\∀r:Nat,r*r<=n ->n<(r+1)*(r+1) ->Q (.int (r:Int)) H
theorem scLHalf:B8 ["_law_square_here","_law_found","_law_step"] Q40 (A5 B4m):=scK
theorem C6d (D:Def K mg "_law_half" Q40 B4m f fd):sI P w K mg base 1 f fd Q40 C1h:=by
 refine D.F.okE scLHalf (fun vs H Q E h=>?_) (fun X cdv A outer s H vs Q E hX hr hx h=>?_)
 . obtain⟨n,rfl,_⟩:=h
   rfl
 subst hX
 obtain⟨n,rfl,n2,k⟩:=h
 refine⟨_,(A3 (B0 (D3 (i:=1) scLHalf.nd rfl (Or.inl rfl) A2)) (A3 (B0 (D3 (i:=2) scLHalf.nd rfl (Or.inl rfl) (A9 G2c A2 (A9 G9 (A9 D7 (C0k PySem.F.plainAttrs_int PySem.F.slot_int_bit_length PySem.F.type_int_bit_length A5m (pv 0)) A2) A2)))) (A3 (B0 (A2x PassesOwn.leaving (C8 A6r (pv 2) A2 (B9 _)) (A3 (B0 (U2 (C8 C6u (A9 G0 (A9 G9 (pv 1) (pv 2)) (A9 G9 (pv 1) (pv 2))) (pv 0) (B9 _)) (A7 (B0 (D3 (i:=1) scLHalf.nd rfl (Or.inl rfl) (A9 G9 (pv 1) (pv 2))))) D6)) (A7 (B0 (D3 (i:=2) scLHalf.nd rfl (Or.inl rfl) (A9 D7 (pv 2) A2))))))) (A7 (B5 (pv 1)))))),?_⟩
 have d2:(0:Int)<2/\(2:Int).natAbs.log2<9000:=⟨by decide,by decide+kernel⟩
 refine⟨fun σ' H'=>H'=H/\σ'=[si (n:Int),si 0,none],⟨rfl,rfl⟩,?_⟩
 rintro σ' H1 ⟨rfl,rfl⟩
 let I_:L2.St ->L2.Hp ->Prop:=fun σ' H'=>H'=H1/\∃j:Nat,j<=2002/\n<2^j*2^j/\σ'=[si (n:Int),si 0,si ((pwN j:Nat):Int)]
 refine⟨I_,?_,?_⟩
 . obtain⟨b,hb,hb2,hb3⟩:∃b:Nat,Builtin.Int.intBits (n:Int)=b/\n<2^b/\b<=4000:=by
     by_cases h0:n=0
     . subst h0
       exact⟨0,by decide,by decide,by decide⟩
     . have lgb:n.log2<4000:=(Nat.log2_lt h0).mpr n2
       refine⟨n.log2+1,?_,Nat.lt_log2_self,by omega⟩
       unfold Builtin.Int.intBits
       rw[if_neg (by simp;omega)]
       rfl
   refine⟨_,rfl,rfl,_,rfl,rfl,_,_,rfl,rfl,d2,_,_,rfl,rfl,_,_,rfl,rfl,⟨?_,?_,by decide⟩,rfl,b/2+2,by omega,?_,?_⟩
   . rw[hb];omega
   . rw[hb];omega
   . have:2^b<=2^(b/2+2)*2^(b/2+2):=by
       rw[<-Nat.pow_add]
       exact Nat.pow_le_pow_right (by decide) (by omega)
     omega
   . show [si (n:Int),si 0,si (1*2^(((Builtin.Int.intBits (n:Int):Nat):Int)/2+1).toNat)]=_
     rw[hb,show(((b:Nat):Int)/2+1)=((b/2+1:Nat):Int) by omega,Int.toNat_natCast,Int.one_mul]
     show _=[si (n:Int),si 0,si ((2^(b/2+1):Nat):Int)]
     rw[Int.natCast_pow]
     rfl
 refine L2.hideG fun Z_ z_=>?_
 rintro σ' H2 ⟨rfl,j,j5,hj,rfl⟩
 subst z_
 clear I_
 let I_:L2.St ->L2.Hp ->Prop:=fun σ' H'=>H'=H2/\∃(r:Nat) (y:Option V),r*r<=n/\n<(r+1)*(r+1)/\σ'=[si (n:Int),si (r:Int),y]
 refine⟨I_,?_,?_⟩
 . refine A3g (fun σ H3=>H3=H2/\∃j r:Nat,j<=2002/\r*r<=n/\n<(r+2^j)*(r+2^j)/\σ=[si (n:Int),si (r:Int),si ((pwN j:Nat):Int)]) (fun σ _=>match σ with| [_,_,some (.int g)]=>g.toNat|_=>0) ⟨rfl,j,0,j5,Nat.zero_le _,by simpa using hj,rfl⟩ ?_ ?_
   . rintro σ H3 ⟨rfl,j,r,j5,h1,h2,rfl⟩
     refine⟨_,rfl,_,_,rfl,rfl,_,rfl,U8 (fun h=>?_) (fun h=>?_)⟩
     . have h:(0:Int)<((pwN j:Nat):Int):=h
       obtain⟨i,rfl⟩:∃i,j=i+1:=by
         cases j with
         |zero=>exact absurd h (by decide)
         |succ i=>exact⟨i,rfl⟩
       have hr5:r<2^2000:=by
         apply Classical.byContradiction
         intro z
         have:2^2000*2^2000<=r*r:=Nat.mul_le_mul (by omega) (by omega)
         have e:2^2000*2^2000=2^4000:=by rw[<-Nat.pow_add]
         omega
       have hi5:2^i<=2^2002:=Nat.pow_le_pow_right (by decide) (by omega)
       have sb:r+2^i<2^2003:=by
         have:(2:Nat)^2003=2*2^2002:=by rw[Nat.pow_succ,Nat.mul_comm]
         have:(2:Nat)^2000<=2^2002:=Nat.pow_le_pow_right (by decide) (by decide)
         omega
       have ec:(r:Int)+((2^i:Nat):Int)=((r+2^i:Nat):Int):=by rw[Int.natCast_add]
       have gb:Builtin.Int.intBits ((r:Int)+((2^i:Nat):Int))<=2^20:=by rw[ec];exact A6h (k:=2003) sb (by decide)
       let I_:L2.St ->L2.Hp ->Prop:=fun σ' H'=>H'=H3/\∃r':Nat,r'*r'<=n/\n<(r'+2^i)*(r'+2^i)/\σ'=[si (n:Int),si (r':Int),si ((2^i:Nat):Int)]
       refine⟨I_,?_,?_⟩
       . refine⟨_,rfl,_,rfl,_,_,rfl,rfl,_,rfl,_,rfl,_,_,rfl,rfl,_,_,rfl,rfl,IntMulOk.of_bits gb gb,_,rfl,_,_,rfl,rfl,_,rfl,U8 (fun h=>?_) (fun h=>?_)⟩
         . have h:((r:Int)+((2^i:Nat):Int))*((r:Int)+((2^i:Nat):Int))<=(n:Int):=h
           rw[ec, <-Int.natCast_mul] at h
           refine⟨_,?_,fun _ _ h=>h⟩
           refine⟨_,rfl,_,rfl,_,_,rfl,rfl,rfl,r+2^i,by omega,?_,?_⟩
           . rw[Nat.pow_succ] at h2
             rw[show r+2^i+2^i=r+2^i*2 by omega]
             exact h2
           . show [si (n:Int),si ((r:Int)+((2^i:Nat):Int)),si ((2^i:Nat):Int)]=_
             rw[ec]
         . have h:¬((r:Int)+((2^i:Nat):Int))*((r:Int)+((2^i:Nat):Int))<=(n:Int):=h
           rw[ec, <-Int.natCast_mul] at h
           exact⟨rfl,r,h1,by omega,rfl⟩
       refine L2.hideG fun Z_ z_=>?_
       rintro σ' H4 ⟨rfl,r',h1',h2',rfl⟩
       subst z_
       clear I_
       refine⟨_,?_,fun _ _ h=>h⟩
       have ep:((2^i:Nat):Int)/2=((pwN i:Nat):Int):=by
         cases i with
         |zero=>rfl
         | succ m=>
           show((2^(m+1):Nat):Int)/2=((2^m:Nat):Int)
           rw[Nat.pow_succ]
           omega
       have p0:0<2^i:=Nat.pow_pos (by decide)
       refine⟨_,rfl,_,_,rfl,rfl,d2,⟨rfl,i,r',by omega,h1',h2',?_⟩,?_⟩
       . show [si (n:Int),si (r':Int),si (((2^i:Nat):Int)/2)]=_
         rw[ep]
       . show(((2^i:Nat):Int)/2).toNat<(((2^i:Nat):Int)).toNat
         omega
     . have h:¬(0:Int)<((pwN j:Nat):Int):=h
       have j0:j=0:=by
         cases j with
         |zero=>rfl
         | succ i=>
           have p0:0<2^i:=Nat.pow_pos (by decide)
           exact absurd (show(0:Int)<((2^i:Nat):Int) by omega) h
       subst j0
       exact⟨rfl,r,_,h1,h2,rfl⟩
   . rintro σ H3 Q1 Q2 hQ ⟨v1,e1,a1,a2,f1,f2,bb,eb,q⟩
     exact⟨v1,e1,a1,a2,f1,f2,bb,eb,hQ _ _ q⟩
 refine L2.hideG fun Z_ z_=>?_
 rintro σ' H3 ⟨rfl,r,y,h1,h2,rfl⟩
 subst z_
 clear I_
 exact⟨_,rfl,k r h1 h2⟩
theorem D8n{f s wh hi lo d:Int}(hd:0<d)(eh:hi=f*A8 s*d)(el:lo=A8 (-s)*d)(hw:0<=wh)(h1:wh*wh*lo<=hi):
   (if decide (wh*wh*lo<hi)=true then(1:Int) else 0)+(if decide (4*hi>=(4*wh*wh+4*wh+1)*lo)=true then 1 else 0)+(if decide (4*hi>(4*wh*wh+4*wh+1)*lo)=true then 1 else 0)=A6p f s wh:=by
 have lp:=U0 (-s)
 unfold A6p
 generalize A8 (-s)=b at*
 generalize f*A8 s=a at*
 subst eh el
 have sq:(4*wh*wh+4*wh+1)=(2*wh+1)*(2*wh+1):=by
   rw[Int.mul_add,Int.add_mul,Int.mul_one,Int.one_mul,show 2*wh*(2*wh)=4*wh*wh by rw[show(4:Int)*wh*wh=2*2*wh*wh from rfl];ac_rfl]
   omega
 have lt:4*(wh*wh*b)<(2*wh+1)*(2*wh+1)*b:=by
   rw[<-sq,Int.add_mul,Int.add_mul,Int.one_mul,show 4*wh*wh*b=4*(wh*wh*b) by ac_rfl]
   have:0<=4*wh*b:=Int.mul_nonneg (by omega) (Int.le_of_lt lp)
   omega
 rw[sq]
 generalize (2*wh+1)*(2*wh+1)=m at*
 have e1:wh*wh*(b*d)=wh*wh*b*d:=by ac_rfl
 rw[e1] at h1
 generalize wh*wh*b=g at*
 have e2:4*(a*d)=4*a*d:=by ac_rfl
 have e3:m*(b*d)=m*b*d:=by ac_rfl
 rw[e1,e2,e3]
 generalize m*b=n at*
 have c1:decide (g*d<a*d)=decide (g<a):=decide_eq_decide.mpr ⟨fun h=>Int.lt_of_mul_lt_mul_right h (Int.le_of_lt hd),fun h=>Int.mul_lt_mul_of_pos_right h hd⟩
 have c2:decide (4*a*d>=n*d)=decide (n<=4*a):=decide_eq_decide.mpr ⟨fun h=>Int.le_of_mul_le_mul_right h hd,fun h=>Int.mul_le_mul_of_nonneg_right h (Int.le_of_lt hd)⟩
 have c3:decide (4*a*d>n*d)=decide (n<4*a):=decide_eq_decide.mpr ⟨fun h=>Int.lt_of_mul_lt_mul_right h (Int.le_of_lt hd),fun h=>Int.mul_lt_mul_of_pos_right h hd⟩
 have h1':g<=a:=Int.le_of_mul_le_mul_right h1 hd
 rw[c1,c2,c3]
 by_cases he:g=a
 . rw[if_pos he,decide_eq_false (show¬g<a by omega),decide_eq_false (show¬n<=4*a by omega),decide_eq_false (show¬n<4*a by omega)]
   rfl
 rw[if_neg he,decide_eq_true (show g<a by omega)]
 rfl
theorem D7s{f s wh hi lo d:Int}(hd:0<d)(eh:hi=f*A8 s*d)(el:lo=A8 (-s)*d)(hw:0<=wh)(h1:wh*wh*lo<=hi)(h2:hi<(wh+1)*(wh+1)*lo):A0y f s wh:=by
 subst eh el
 refine⟨hw,Int.le_of_mul_le_mul_right (a:=d) ?_ hd,Int.lt_of_mul_lt_mul_right (a:=d) ?_ (Int.le_of_lt hd)⟩
 . rw[show wh*wh*A8 (-s)*d=wh*wh*(A8 (-s)*d) by ac_rfl]
   exact h1
 rw[show(wh+1)*(wh+1)*A8 (-s)*d=(wh+1)*(wh+1)*(A8 (-s)*d) by ac_rfl]
 exact h2
theorem G6n(f s wh:Int):0<=A6p f s wh/\A6p f s wh<=3:=by
 unfold A6p
 split
 . decide
 split<;>split<;>decide
noncomputable abbrev stQ (rt q:Addr) (x2 x3 x4 x5 x6 x7 x8 x9 x10 x11 x12 x13 x14 x15 x16 x17 x18:Option V):L2.St:=[sr rt,sr q,x2,x3,x4,x5,x6,x7,x8,x9,x10,x11,x12,x13,x14,x15,x16,x17,x18]
noncomputable def C2v:Sp:=fun vs H Q _=>∃rt v q1 x,vs=[.ref rt,.ref q1]/\H rt=some (.tup (Cv.tup v))/\v.Ok/\H q1=some (.tup (Nm.vs x))/\x.Wf/\
 ∀L q zs H',B3c x L ->B7 H H' ->A6z H' q (rootA v x L).1 zs ->(∀z,z∈zs↔z∈(rootA v x L).2) ->Q (.ref q) H'
theorem scLRoot:B8 ["_law_rules_here","_law_number_here","_law_kind","_law_sign","_law_figures","_law_power","_law_room","_law_way","_law_least","_law_most","_law_top","_law_bottom","_law_lead_here","_law_fine","_law_high","_law_low","_law_found","_law_middle","_law_part"] Q41 (A5 B4w):=scK
theorem C8n(x:Nm)(h:0<=x.f):∃L,B3c x L:=by
 by_cases hf:x.f=0
 . exact⟨0,fun _ z=>absurd hf z⟩
 obtain⟨m,hm⟩:=Int.eq_ofNat_of_zero_le h
 obtain⟨A,a1,a2⟩:=A9q m (by omega)
 refine⟨((A:Int)+x.p)/2,fun _ _=>?_⟩
 rw[hm]
 exact A7h a1 a2 rfl
theorem C8z(D:Def K mg "_law_root" Q41 B4w f fd)(dC:Def K mg "_law_nought" Q36 A6q f1 fd1)(dD:sI P w K mg base 1 f1 fd1 Q36 B3v)
   (dA:Def K mg "_law_scaled" Q8 A3c f2 fd2) (dB:sI P w K mg base 2 f2 fd2 Q8 A7k) (dE:Def K mg "_law_lead" Q34 B0v f3 fd3) (dF:sI P w K mg base 3 f3 fd3 Q34 C2z)
   (dG:Def K mg "_law_half" Q40 B4m f4 fd4) (dH:sI P w K mg base 1 f4 fd4 Q40 C1h) (dJ:Def K mg "_law_finished" Q37 A1z f5 fd5)
   (dL:sI P w K mg base 3 f5 fd5 Q37 A8k) (O:Own mg):sI P w K mg base 5 f fd Q41 C2v:=by
 refine D.F.okE scLRoot (fun vs H Q E h=>?_) (fun X cdv A outer s H vs Q E hX hr hx h=>?_)
 . obtain⟨rt,v,q1,x,rfl,_⟩:=h
   rfl
 subst hX
 obtain⟨rt,v,q1,x,rfl,er,ok,e1,wf,k⟩:=h
 have z0:0<=sizeLine:=Nat.zero_le _
 have z1:1<=sizeLine:=D0 (by decide)
 have z2:2<=sizeLine:=D0 (by decide)
 have z4:4<=sizeLine:=D0 (by decide)
 have o:=wf.ok
 have f0:=o.f0;have f1:=o.f1;have p0:=o.p0;have p1:=o.p1;have s0:=o.s0;have s1:=o.s1
 have r1:=ok.r1;have r2:=ok.r2;have l1:=ok.l1;have l2:=ok.l2
 have d2:(0:Int)<2/\(2:Int).natAbs.log2<9000:=⟨by decide,by decide+kernel⟩
 have mC:∀z n:Int, -(2^64)<n ->n<2^64 ->IntMulOk n z:=fun z n a b=>A2h.ok (.inl ⟨a,b⟩)
 refine⟨_,(A3 (B0 (A2u (pv 1) (A2c rfl (D8 (D4 (i:=2) scLRoot.nd rfl (Or.inl rfl)) (D8 (D4 (i:=3) scLRoot.nd rfl (Or.inl rfl)) (D8 (D4 (i:=4) scLRoot.nd rfl (Or.inl rfl)) (D8 (D4 (i:=5) scLRoot.nd rfl (Or.inl rfl)) A0b))))))) (A3 (B0 (A2u (pv 0) (A2c rfl (D8 (D4 (i:=6) scLRoot.nd rfl (Or.inl rfl)) (D8 (D4 (i:=7) scLRoot.nd rfl (Or.inl rfl)) (D8 (D4 (i:=8) scLRoot.nd rfl (Or.inl rfl)) (D8 (D4 (i:=9) scLRoot.nd rfl (Or.inl rfl)) A0b))))))) (A3 (B0 (U2 (C8 G4 (pv 2) C9 (B9 _)) (A7 (B5 (Y6 (A0 (pv 1) (A0 (U5 A4) A4))))) D6)) (A3 (B0 (U2 (PW.pt (A2t (C8 G4 (pv 2) C9 (B9 _)) (A1c (C8 G4 (pv 4) A2 (B9 _))))) (A7 (B5 (U9 dC dD hr hx (A0 (pv 0) (A0 (pv 3) (A0 (A9 D7 (pv 5) A2) A4)))))) D6)) (A3 (B0 (U2 (C8 G4 (pv 3) A2 (B9 _)) (A7 (B5 (Y6 (A0 (Y6 (A0 C9 (A0 A2 (A0 A2 (A0 A2 A4))))) (A0 (U5 (A0 C9 A4)) A4))))) D6)) (A3 (B0 (U2 (C8 G4 (pv 2) C9 (B9 _)) (A7 (B5 (Y6 (A0 (pv 1) (A0 (U5 A4) A4))))) D6)) (A3 (B0 (A2u (U9 dA dB hr hx (A0 (pv 4) (A0 A2 (A0 (pv 5) A4)))) (A2c rfl (D8 (D4 (i:=10) scLRoot.nd rfl (Or.inl rfl)) (D8 (D4 (i:=11) scLRoot.nd rfl (Or.inl rfl)) A0b))))) (A3 (B0 (D3 (i:=12) scLRoot.nd rfl (Or.inl rfl) (A9 D7 (U9 dE dF hr hx (A0 (pv 10) (A0 (pv 11) A4))) A2))) (A3 (B0 (D3 (i:=13) scLRoot.nd rfl (Or.inl rfl) (A9 G9 (A9 Y4 (Y3 (B3f rfl) (by rfl) O.max_ boot_max (A0 (pv 12) (A0 (pv 8) A4))) (pv 6)) A2))) (A3 (B0 (A2u (U9 dA dB hr hx (A0 (pv 10) (A0 (pv 11) (A0 (A9 G0 (A2j A0x A2) (pv 13)) A4)))) (A2c rfl (D8 (D4 (i:=14) scLRoot.nd rfl (Or.inl rfl)) (D8 (D4 (i:=15) scLRoot.nd rfl (Or.inl rfl)) A0b))))) (A3 (B0 (D3 (i:=16) scLRoot.nd rfl (Or.inl rfl) (U9 dG dH hr hx (A0 (A9 D7 (pv 14) (pv 15)) A4)))) (A3 (B0 (D3 (i:=17) scLRoot.nd rfl (Or.inl rfl) (A9 G0 (A9 G9 (A9 G9 (A9 G0 (A9 G0 A2 (pv 16)) (pv 16)) (A9 G0 A2 (pv 16))) A2) (pv 15)))) (A3 (B0 (D3 (i:=18) scLRoot.nd rfl (Or.inl rfl) (V2 A0j (by rfl) O.int_ boot_int (A0 (G6 A3d (A9 G0 (A9 G0 (pv 16) (pv 16)) (pv 15)) (pv 14) (B9 _)) A4)))) (A3 (B0 (D3 (i:=18) scLRoot.nd rfl (Or.inl rfl) (A9 G9 (A9 G9 (pv 18) (V2 A0j (by rfl) O.int_ boot_int (A0 (G6 C2t (A9 G0 A2 (pv 14)) (pv 17) (B9 _)) A4))) (V2 A0j (by rfl) O.int_ boot_int (A0 (G6 A6r (A9 G0 A2 (pv 14)) (pv 17) (B9 _)) A4))))) (A7 (B5 (U9 dJ dL hr hx (A0 (pv 0) (A0 A2 (A0 (pv 16) (A0 (pv 13) (A0 (pv 18) (A0 (G6 A3d (pv 12) (pv 8) (B9 _)) (A0 (A9 D7 (pv 5) A2) A4)))))))))))))))))))))))),?_⟩
 refine⟨fun σ' H'=>H'=H/\σ'=stQ rt q1 (some (.str x.k.str)) (some (.int x.s)) (some (.int x.f)) (some (.int x.p)) none none none none none none none none none none none none none,⟨_,rfl,q1,_,rfl,SqT.of e1,rfl,_,_,rfl,_,_,rfl,_,_,rfl,_,_,rfl,rfl,rfl,rfl⟩,?_⟩
 rintro σ' H1 ⟨rfl,rfl⟩
 refine⟨fun σ' H'=>H'=H1/\σ'=stQ rt q1 (some (.str x.k.str)) (some (.int x.s)) (some (.int x.f)) (some (.int x.p)) (some (.int v.r)) (some (.str v.y.name)) (some (.int v.l)) (some (.int v.m)) none none none none none none none none none,⟨_,rfl,rt,_,rfl,SqT.of er,rfl,_,_,rfl,_,_,rfl,_,_,rfl,_,_,rfl,rfl,rfl,rfl⟩,?_⟩
 rintro σ' H2 ⟨rfl,rfl⟩
 have fin:∀(L:Int) (res:Nm) (rs:List Str) (t l q:Addr) (H':Hp),B3c x L ->rootA v x L=(res,rs) ->B7 H2 H' ->H' q=some (.tup [.ref t,.ref l]) ->H' t=some (.tup res.vs) ->H' l=some (.lst (rs.map V.str)) ->Q (.ref q) H':=fun L res rs t l q H' hL eR s' eq et el=>by
   refine k L q rs H' hL s' ?_ ?_
   . rw[eR]
     exact⟨t,l,eq,et,el⟩
   . rw[eR]
     exact fun z=>Iff.rfl
 obtain⟨L9,hL9⟩:=C8n x f0
 let I_:L2.St ->L2.Hp ->Prop:=fun σ' H'=>H'=H2/\x.k≠ .none/\σ'=stQ rt q1 (some (.str x.k.str)) (some (.int x.s)) (some (.int x.f)) (some (.int x.p)) (some (.int v.r)) (some (.str v.y.name)) (some (.int v.l)) (some (.int v.m)) none none none none none none none none none
 refine⟨I_,?_,?_⟩
 . refine⟨_,rfl,rfl,_,rfl,U8 (fun h=>?_) (fun h=>⟨rfl,neS (b:= .none) h,rfl⟩)⟩
   have hk:x.k= .none:=eqS (b:= .none) h
   refine⟨_,rfl,z0,fun l nl=>⟨z2,fun q nq=>?_⟩⟩
   have u1:=B7.upd (o:= .lst []) nl
   have u2:=B7.upd (o:= .tup [.ref q1,.ref l]) nq
   obtain⟨n1,n2,n3⟩:=wf.n hk
   have ex:x=B1a:=by
     obtain⟨a,b,c,d⟩:=x
     dsimp only at hk n1 n2 n3
     rw[hk,n1,n2,n3]
     rfl
   have eR:rootA v x L9=(x,[]):=by unfold rootA;rw[if_pos hk,ex]
   exact fin L9 x [] q1 l q _ hL9 eR (u1.trans u2) A6 ((u1.trans u2) _ _ e1) (u2 _ _ A6)
 refine L2.hideG fun Z_ z_=>?_
 rintro σ' H3 ⟨rfl,hn,rfl⟩
 subst z_
 clear I_
 let I_:L2.St ->L2.Hp ->Prop:=fun σ' H'=>H'=H3/\¬(x.k= .plain/\x.f=0)/\σ'=stQ rt q1 (some (.str x.k.str)) (some (.int x.s)) (some (.int x.f)) (some (.int x.p)) (some (.int v.r)) (some (.str v.y.name)) (some (.int v.l)) (some (.int v.m)) none none none none none none none none none
 refine⟨I_,?_,?_⟩
 . refine⟨_,rfl,rfl,_,rfl,U8 (fun hp=>⟨_,rfl,rfl,_,rfl,U8 (fun hf=>?_) (fun hf=>⟨rfl,fun z=>hf (congrArg V.int z.2),rfl⟩)⟩) (fun hp=>⟨rfl,fun z=>hp (by rw[z.1];rfl),rfl⟩)⟩
   have hpf:x.k= .plain/\x.f=0:=⟨eqS (b:= .plain) hp,V.int.inj hf⟩
   refine⟨_,rfl,_,rfl,_,rfl,_,_,rfl,rfl,d2,rt,v,x.s,x.p/2,rfl,er,ok,fun q H' s' du=>?_⟩
   have eR:rootA v x L9=(C2q v x.s (x.p/2),[]):=by unfold rootA;rw[if_neg hn,if_pos hpf]
   refine k L9 q [] H' hL9 s' ?_ ?_
   . rw[eR];exact du
   . rw[eR];exact fun z=>Iff.rfl
 refine L2.hideG fun Z_ z_=>?_
 rintro σ' H4 ⟨rfl,hpf,rfl⟩
 subst z_
 clear I_
 let I_:L2.St ->L2.Hp ->Prop:=fun σ' H'=>H'=H4/\¬x.s=1/\σ'=stQ rt q1 (some (.str x.k.str)) (some (.int x.s)) (some (.int x.f)) (some (.int x.p)) (some (.int v.r)) (some (.str v.y.name)) (some (.int v.l)) (some (.int v.m)) none none none none none none none none none
 refine⟨I_,?_,?_⟩
 . refine⟨_,rfl,rfl,_,rfl,U8 (fun h=>?_) (fun h=>⟨rfl,fun z=>h (congrArg V.int z),rfl⟩)⟩
   refine⟨z4,fun p2 np2=>⟨z1,fun l nl=>⟨z2,fun q nq=>?_⟩⟩⟩
   have u2:=B7.upd (o:= .tup [.str "none",.int 0,.int 0,.int 0]) np2
   have u3:=B7.upd (o:= .lst [.str "void"]) nl
   have u4:=B7.upd (o:= .tup [.ref p2,.ref l]) nq
   have eR:rootA v x L9=(B1a,(["void"]:List Str)):=by unfold rootA;rw[if_neg hn,if_neg hpf,if_pos (V.int.inj h)]
   exact fin L9 B1a ["void"] p2 l q _ hL9 eR (u2.trans (u3.trans u4)) A6 ((u3.trans u4) _ _ A6) (u4 _ _ A6)
 refine L2.hideG fun Z_ z_=>?_
 rintro σ' H5 ⟨rfl,hs,rfl⟩
 subst z_
 clear I_
 let I_:L2.St ->L2.Hp ->Prop:=fun σ' H'=>H'=H5/\x.k≠ .end_/\σ'=stQ rt q1 (some (.str x.k.str)) (some (.int x.s)) (some (.int x.f)) (some (.int x.p)) (some (.int v.r)) (some (.str v.y.name)) (some (.int v.l)) (some (.int v.m)) none none none none none none none none none
 refine⟨I_,?_,?_⟩
 . refine⟨_,rfl,rfl,_,rfl,U8 (fun h=>?_) (fun h=>⟨rfl,neS (b:= .end_) h,rfl⟩)⟩
   refine⟨_,rfl,z0,fun l nl=>⟨z2,fun q nq=>?_⟩⟩
   have u1:=B7.upd (o:= .lst []) nl
   have u2:=B7.upd (o:= .tup [.ref q1,.ref l]) nq
   have eR:rootA v x L9=(x,[]):=by unfold rootA;rw[if_neg hn,if_neg hpf,if_neg hs,if_pos (eqS (b:= .end_) h)]
   exact fin L9 x [] q1 l q _ hL9 eR (u1.trans u2) A6 ((u1.trans u2) _ _ e1) (u2 _ _ A6)
 refine L2.hideG fun Z_ z_=>?_
 rintro σ' H6 ⟨rfl,hE,rfl⟩
 subst z_
 clear I_
 have hk:x.k= .plain:=by
   cases q:x.k with
   |plain=>rfl
   |end_=>exact absurd q hE
   |none=>exact absurd q hn
 have hf:x.f≠0:=fun z=>hpf ⟨hk,z⟩
 have a1:=B1v f0 hf f1 p1
 have a2:SzL (1*A8 (-x.p)):=B1v (f:=1) (by decide) (by decide) (by decide) (by omega)
 have sf:=G0v f0 hf f1
 let I_:L2.St ->L2.Hp ->Prop:=fun σ' H'=>B7 H6 H'/\σ'=stQ rt q1 (some (.str x.k.str)) (some (.int x.s)) (some (.int x.f)) (some (.int x.p)) (some (.int v.r)) (some (.str v.y.name)) (some (.int v.l)) (some (.int v.m)) (some (.int (x.f*A8 x.p))) (some (.int (1*A8 (-x.p)))) none none none none none none none
 refine⟨I_,?_,?_⟩
 . refine⟨_,rfl,_,rfl,x.f,1,x.p,rfl,by omega,by omega,A7q sf (by omega),A7q G1t (by omega),fun q H1 s1 eq=>?_⟩
   exact⟨q,_,rfl,SqT.of eq,rfl,_,_,rfl,_,_,rfl,rfl,s1,rfl⟩
 rintro σ' H7 ⟨s7,rfl⟩
 clear I_
 let I_:L2.St ->L2.Hp ->Prop:=fun σ' H'=>∃L,B7 H6 H'/\A2n x.f (x.p-2*L)/\ -251<=L/\L<=251/\σ'=stQ rt q1 (some (.str x.k.str)) (some (.int x.s)) (some (.int x.f)) (some (.int x.p)) (some (.int v.r)) (some (.str v.y.name)) (some (.int v.l)) (some (.int v.m)) (some (.int (x.f*A8 x.p))) (some (.int (1*A8 (-x.p)))) (some (.int L)) none none none none none none
 refine⟨I_,?_,?_⟩
 . exact⟨_,rfl,_,rfl,_,_,rfl,a1,a2,fun L0 H' ld la lb s'=>⟨_,_,rfl,rfl,d2,L0/2,s7.trans s',G5n (by omega) (lead_scale.mp ld),by omega,by omega,rfl⟩⟩
 refine L2.hideG fun Z_ z_=>?_
 rintro σ' H8 ⟨L,s8,ld,la,lb,rfl⟩
 subst z_
 clear I_
 have szq:SzQ x.f:=⟨by omega,Int.lt_of_le_of_lt f1 (by decide+kernel)⟩
 obtain⟨qa,qb,wr⟩:=B6b ok szq ld p0 p1
 have fb: -83<=v.fin L/\v.fin L<=251:=by
   unfold Cv.fin A9a
   split<;>omega
 let I_:L2.St ->L2.Hp ->Prop:=fun σ' H'=>H'=H8/\σ'=stQ rt q1 (some (.str x.k.str)) (some (.int x.s)) (some (.int x.f)) (some (.int x.p)) (some (.int v.r)) (some (.str v.y.name)) (some (.int v.l)) (some (.int v.m)) (some (.int (x.f*A8 x.p))) (some (.int (1*A8 (-x.p)))) (some (.int L)) (some (.int (v.fin L))) none none none none none
 refine⟨I_,?_,?_⟩
 . refine⟨_,rfl,_,rfl,_,_,rfl,_,rfl,_,_,rfl,rfl,_,_,rfl,rfl,rfl,?_⟩
   rw[<-G1n]
   rfl
 rintro σ' H9 ⟨rfl,rfl⟩
 clear I_
 have eS:setQ v x L=A1r v 0 (whQ x.f (x.p-2*v.fin L)) (A6p x.f (x.p-2*v.fin L) (whQ x.f (x.p-2*v.fin L))) L (v.fin L) (x.p/2):=rfl
 generalize v.fin L=q at*
 obtain⟨dd,sh1,sh2⟩:=B6d x.p (2*q)
 have hd:0<((10^dd:Nat):Int):=Int.natCast_pos.mpr (Nat.pow_pos (by decide))
 obtain⟨hi,ehi⟩:∃hi,hi=x.f*A8 x.p*A8 (-2*q):=⟨_,rfl⟩
 obtain⟨lo,elo⟩:∃lo,lo=1*A8 (-x.p)*A8 (-(-2*q)):=⟨_,rfl⟩
 have eh:hi=x.f*A8 (x.p-2*q)*((10^dd:Nat):Int):=by
   rw[ehi,show -2*q=0-2*q by omega,Int.mul_assoc,sh1,Int.mul_assoc]
 have el:lo=A8 (-(x.p-2*q))*((10^dd:Nat):Int):=by
   rw[elo,show -(-2*q)= -(0-2*q) by omega,Int.one_mul,sh2]
 let I_:L2.St ->L2.Hp ->Prop:=fun σ' H'=>B7 H6 H'/\σ'=stQ rt q1 (some (.str x.k.str)) (some (.int x.s)) (some (.int x.f)) (some (.int x.p)) (some (.int v.r)) (some (.str v.y.name)) (some (.int v.l)) (some (.int v.m)) (some (.int (x.f*A8 x.p))) (some (.int (1*A8 (-x.p)))) (some (.int L)) (some (.int q)) (some (.int hi)) (some (.int lo)) none none none
 refine⟨I_,?_,?_⟩
 . refine⟨_,rfl,_,rfl,_,rfl,_,rfl,_,_,rfl,rfl,mC _ _ (by decide) (by decide),_,_, -2*q,rfl,by omega,by omega,A7q a1.sz (by omega),A7q a2.sz (by omega),fun r H1 s1 eq=>?_⟩
   rw[<-ehi, <-elo] at eq
   exact⟨r,_,rfl,SqT.of eq,rfl,_,_,rfl,_,_,rfl,rfl,s8.trans s1,rfl⟩
 rintro σ' H10 ⟨s10,rfl⟩
 clear I_
 have tb:∀e:Int,e<=510 ->A8 e<=A8 510:=fun e he=>Z5 he
 have hp1:0<A8 (-2*q):=U0 _
 have hp2:0<A8 (-(-2*q)):=U0 _
 have szA:∀t e:Int,SzL t ->e<=490 ->Sz (t*A8 e):=fun t e ht he=>by
   have tp:=U0 e
   have c:t*A8 e<=A8 500*A8 490:=Int.mul_le_mul (Int.le_of_lt ht.2) (Z5 he) (Int.le_of_lt tp) (Int.le_of_lt (U0 _))
   have c2:A8 500*A8 490<A8 1000:=by decide+kernel
   have c3:1*1<=t*A8 e:=Int.mul_le_mul ht.1 (by omega) (by decide) (by have:=ht.1;omega)
   exact⟨by omega,by omega⟩
 have szh:Sz hi:=by rw[ehi];exact szA _ _ a1 (by omega)
 have szl:Sz lo:=by
   rw[elo]
   by_cases h: -(-2*q)<=490
   . exact szA _ _ a2 h
   . have t1:1*A8 (-x.p)<=A8 200:=by rw[Int.one_mul];exact Z5 (by omega)
     have t2:A8 (-(-2*q))<=A8 502:=Z5 (by omega)
     have c:1*A8 (-x.p)*A8 (-(-2*q))<=A8 200*A8 502:=Int.mul_le_mul t1 t2 (Int.le_of_lt hp2) (Int.le_of_lt (U0 _))
     have c2:A8 200*A8 502<A8 1000:=by decide+kernel
     have c3:1*1<=1*A8 (-x.p)*A8 (-(-2*q)):=Int.mul_le_mul a2.1 (by omega) (by decide) (by have:=a2.1;omega)
     exact⟨by omega,by omega⟩
 have lp:0<lo:=by have:=szl.1;omega
 have hq0:0<=hi/lo:=Int.ediv_nonneg (by have:=szh.1;omega) (Int.le_of_lt lp)
 obtain⟨nn,en⟩:=Int.eq_ofNat_of_zero_le hq0
 have n2:nn<2^4000:=by
   have a:=szh.2
   have b:hi/lo<=hi:=Int.ediv_le_self _ (by have:=szh.1;omega)
   have c:(nn:Int)<((10^1000:Nat):Int):=by
     rw[<-en]
     exact Int.lt_of_le_of_lt b a
   exact Nat.lt_of_lt_of_le (Int.ofNat_lt.mp c) (C1d 1000)
 have ll:lo.natAbs.log2<9000:=by
   have:=G0h szl (s:=0) (by decide)
   rwa[show A8 0=1 from rfl,Int.mul_one] at this
 let I_:L2.St ->L2.Hp ->Prop:=fun σ' H'=>∃r:Nat,H'=H10/\r*r<=nn/\nn<(r+1)*(r+1)/\σ'=stQ rt q1 (some (.str x.k.str)) (some (.int x.s)) (some (.int x.f)) (some (.int x.p)) (some (.int v.r)) (some (.str v.y.name)) (some (.int v.l)) (some (.int v.m)) (some (.int (x.f*A8 x.p))) (some (.int (1*A8 (-x.p)))) (some (.int L)) (some (.int q)) (some (.int hi)) (some (.int lo)) (some (.int (r:Int))) none none
 refine⟨I_,?_,?_⟩
 . refine⟨_,rfl,_,rfl,_,_,rfl,rfl,⟨lp,ll⟩,nn,?_,n2,fun r h1 h2=>⟨r,rfl,h1,h2,rfl⟩⟩
   show [V.int (hi/lo)]=[V.int (nn:Int)]
   rw[en]
 refine L2.hideG fun Z_ z_=>?_
 rintro σ' H11 ⟨r,rfl,h1,h2,rfl⟩
 subst z_
 clear I_
 have g1:(r:Int)*r*lo<=hi:=by
   have a:(r:Int)*r<=hi/lo:=by rw[en, <-Int.natCast_mul];exact Int.ofNat_le.mpr h1
   exact Int.le_trans (Int.mul_le_mul_of_nonneg_right a (Int.le_of_lt lp)) (Int.ediv_mul_le _ (Int.ne_of_gt lp))
 have g2:hi<((r:Int)+1)*((r:Int)+1)*lo:=by
   have a:hi/lo<((r:Int)+1)*((r:Int)+1):=by
     rw[en,show((r:Int)+1)*((r:Int)+1)=(((r+1)*(r+1):Nat):Int) by rw[Int.natCast_mul];rfl]
     exact Int.ofNat_lt.mpr h2
   exact Int.lt_of_lt_of_le (Int.lt_ediv_add_one_mul_self hi lp) (Int.mul_le_mul_of_nonneg_right (by omega) (Int.le_of_lt lp))
 have isr:=D7s (f:=x.f) (s:=x.p-2*q) hd eh el (by omega:(0:Int)<=r) g1 g2
 have ew:=C8m szq.1 isr
 rw[ew] at wr eS
 have rl:(r:Int)<A8 24:=Int.lt_of_lt_of_le wr (Z5 r2)
 have rb:Builtin.Int.intBits (r:Int)<=2^20:=by
   have e:A8 24=((10^24:Nat):Int):=rfl
   exact A6h (k:=96) (Nat.lt_of_lt_of_le (show r<10^24 by omega) (by decide+kernel)) (by decide)
 have r24:r<10^24:=by
   have e:A8 24=((10^24:Nat):Int):=rfl
   omega
 have nb:∀m:Nat,m<10^60 ->Builtin.Int.intBits (m:Int)<=2^20:=fun m hm=>A6h (k:=200) (Nat.lt_of_lt_of_le hm (by decide+kernel)) (by decide)
 have rr:r*r<10^48:=by
   have a:r*r<=(10^24-1)*(10^24-1):=Nat.mul_le_mul (by omega) (by omega)
   exact Nat.lt_of_le_of_lt a (by decide+kernel)
 have c1:(4:Int)*(r:Int)=((4*r:Nat):Int):=by omega
 have M1:IntMulOk (4*(r:Int)) (r:Int):=IntMulOk.of_bits (by rw[c1];exact nb _ (by
     have:(10:Nat)^24*4<=10^60:=by decide+kernel
     omega)) rb
 have M3:IntMulOk (r:Int) (r:Int):=IntMulOk.of_bits rb rb
 have M4:IntMulOk ((r:Int)*(r:Int)) lo:=IntMulOk.of_bits (by rw[<-Int.natCast_mul];exact nb _ (Nat.lt_trans rr (by decide+kernel))) (B4b szl)
 have c2:4*(r:Int)*(r:Int)+4*(r:Int)+1=((4*(r*r)+4*r+1:Nat):Int):=by
   rw[Int.mul_assoc, <-Int.natCast_mul]
   omega
 have M2:IntMulOk (4*(r:Int)*(r:Int)+4*(r:Int)+1) lo:=IntMulOk.of_bits (by
   rw[c2]
   refine nb _ ?_
   have:(10:Nat)^48*4+10^24*4+1<=10^60:=by decide+kernel
   omega) (B4b szl)
 refine⟨fun σ' H'=>H'=H11/\σ'=stQ rt q1 (some (.str x.k.str)) (some (.int x.s)) (some (.int x.f)) (some (.int x.p)) (some (.int v.r)) (some (.str v.y.name)) (some (.int v.l)) (some (.int v.m)) (some (.int (x.f*A8 x.p))) (some (.int (1*A8 (-x.p)))) (some (.int L)) (some (.int q)) (some (.int hi)) (some (.int lo)) (some (.int (r:Int))) (some (.int ((4*(r:Int)*(r:Int)+4*(r:Int)+1)*lo))) none,⟨_,rfl,_,_,rfl,rfl,mC _ _ (by decide) (by decide),_,rfl,_,_,rfl,rfl,M1,_,rfl,_,_,rfl,rfl,mC _ _ (by decide) (by decide),_,_,rfl,rfl,_,_,rfl,rfl,_,rfl,_,_,rfl,rfl,M2,rfl,rfl⟩,?_⟩
 rintro σ' H12 ⟨rfl,rfl⟩
 refine⟨fun σ' H'=>H'=H12/\σ'=stQ rt q1 (some (.str x.k.str)) (some (.int x.s)) (some (.int x.f)) (some (.int x.p)) (some (.int v.r)) (some (.str v.y.name)) (some (.int v.l)) (some (.int v.m)) (some (.int (x.f*A8 x.p))) (some (.int (1*A8 (-x.p)))) (some (.int L)) (some (.int q)) (some (.int hi)) (some (.int lo)) (some (.int (r:Int))) (some (.int ((4*(r:Int)*(r:Int)+4*(r:Int)+1)*lo))) (some (.int (if decide ((r:Int)*(r:Int)*lo<hi)=true then 1 else 0))),⟨_,rfl,_,rfl,_,_,rfl,rfl,M3,_,rfl,_,_,rfl,rfl,M4,_,rfl,_,_,rfl,rfl,.inr ⟨_,rfl,rfl,rfl⟩⟩,?_⟩
 rintro σ' H13 ⟨rfl,rfl⟩
 have ep:=D8n (f:=x.f) (s:=x.p-2*q) hd eh el (by omega:(0:Int)<=r) g1
 refine⟨fun σ' H'=>H'=H13/\σ'=stQ rt q1 (some (.str x.k.str)) (some (.int x.s)) (some (.int x.f)) (some (.int x.p)) (some (.int v.r)) (some (.str v.y.name)) (some (.int v.l)) (some (.int v.m)) (some (.int (x.f*A8 x.p))) (some (.int (1*A8 (-x.p)))) (some (.int L)) (some (.int q)) (some (.int hi)) (some (.int lo)) (some (.int (r:Int))) (some (.int ((4*(r:Int)*(r:Int)+4*(r:Int)+1)*lo))) (some (.int (A6p x.f (x.p-2*q) r))),⟨_,rfl,_,rfl,_,_,rfl,rfl,mC _ _ (by decide) (by decide),_,rfl,_,_,rfl,rfl,.inr ⟨_,rfl,_,_,rfl,rfl,_,rfl,_,_,rfl,rfl,mC _ _ (by decide) (by decide),_,rfl,_,_,rfl,rfl,.inr ⟨_,rfl,_,_,rfl,rfl,rfl,by rw[<-ep];rfl⟩⟩⟩,?_⟩
 rintro σ' H14 ⟨rfl,rfl⟩
 have pb:=G6n x.f (x.p-2*q) r
 refine⟨_,rfl,_,rfl,_,rfl,_,rfl,_,rfl,_,rfl,_,_,rfl,rfl,_,rfl,_,_,rfl,rfl,d2,rt,v,0,r,q,A6p x.f (x.p-2*q) r,x.p/2,L,rfl,s10 _ _ er,ok,by decide,by decide,by omega,wr,pb.1,pb.2,fun y zs H' s' du hz=>?_⟩
 have eR:rootA v x L=setQ v x L:=by
   unfold rootA
   rw[if_neg hn,if_neg hpf,if_neg hs,if_neg hE]
 refine k L y zs H' (fun _ _=>ld) (s10.trans s') ?_ ?_
 . rw[eR,eS];exact du
 rw[eR,eS];exact hz
noncomputable abbrev A6v:Stmt:=(top 81)
theorem scLSquare:B8 ["_law_cell","_law_many","_law_side","_law_sign"] ["_law_cell"] (A5 A6v):=scK
theorem B9p(D:Def K mg "_law_square" ["_law_cell"] A6v f fd)(dA:Def K mg "_law_mixed" Q5 A3v f1 fd1)(dB:sI P w K mg base 1 f1 fd1 Q5 A6t)
   (dC:Def K mg "_law_ten" ["_law_count"] A8r f2 fd2) (dD:sI P w K mg base 1 f2 fd2 ["_law_count"] A7y) (O:Own mg):sI P w K mg base 2 f fd ["_law_cell"] A5d:=by
 refine D.F.okE scLSquare (fun vs H Q E h=>?_) (fun X cdv A outer s H vs Q E hX hr hx h=>?_)
 . obtain⟨c,rfl,_⟩:=h
   rfl
 subst hX
 obtain⟨c,rfl,k⟩:=h
 refine⟨_,(A3 (B0 (D3 (i:=1) scLSquare.nd rfl (Or.inl rfl) (Y2 V7 (U5 (A0 A2 (A0 A2 (A0 A2 (A0 A2 (A0 A2 (A0 A2 A4))))))) (A9 U6 (A9 D7 (U9 dA dB hr hx (A0 (pv 0) (A0 A2 A4))) A2) A2) (fun _ _=>rfl)))) (A3 (B0 (D3 (i:=2) scLSquare.nd rfl (Or.inl rfl) (A9 U6 (U9 dA dB hr hx (A0 (pv 0) (A0 A2 A4))) (U9 dC dD hr hx (A0 (pv 1) A4))))) (A3 (B0 (U2 (C8 G4 (A9 U6 (A9 D7 (U9 dA dB hr hx (A0 (pv 0) (A0 A2 A4))) A2) A2) A2 (B9 _)) (A7 (B0 (D3 (i:=2) scLSquare.nd rfl (Or.inl rfl) (A9 G9 (A9 G0 A2 (pv 2)) A2)))) D6)) (A3 (B0 (D3 (i:=3) scLSquare.nd rfl (Or.inl rfl) (V2 A0j (by rfl) O.int_ boot_int (A0 (G6 G4 (A9 U6 (A9 D7 (U9 dA dB hr hx (A0 (pv 0) (A0 A2 A4))) A2) A2) A2 (B9 _)) A4)))) (A7 (B5 (Y6 (A0 C9 (A0 (pv 3) (A0 (A9 G0 (pv 2) (pv 2)) (A0 (A9 Y4 (A9 U6 (A9 D7 (U9 dA dB hr hx (A0 (pv 0) (A0 A2 A4))) A2) A2) A2) A4))))))))))),?_⟩
 have z4:4<=sizeLine:=D0 (by decide)
 have z6:6<=sizeLine:=D0 (by decide)
 have d7:(0:Int)<7/\(7:Int).natAbs.log2<9000:=⟨by decide,by decide+kernel⟩
 have pT:∀n:Nat,0<((10^n:Nat):Int):=fun n=>Int.natCast_pos.mpr (Nat.pow_pos (by decide))
 let I_:L2.St ->L2.Hp ->Prop:=fun σ' H'=>∃mn:Nat,mn<=9/\B7 H H'/\σ'=[si c,si (mn:Int),none,none]
 refine⟨I_,?_,?_⟩
 . refine⟨z6,fun l nl=>⟨_,rfl,c,1,rfl,by decide,by decide,fun m _ _=>?_⟩⟩
   obtain⟨o,ho,ix⟩:=ixs (xs:=[1,1,2,3,5,9]) (i:=m/7 % 6) (Int.emod_nonneg _ (by decide)) (by show m/7 % 6<6;exact Int.emod_lt_of_pos _ (by decide))
   have ob:0<=o/\o<=9:=by
     simp only[List.mem_cons,List.not_mem_nil,or_false] at ho
     omega
   refine⟨_,_,rfl,rfl,d7,_,_,rfl,rfl,(by decide:(0:Int)<6),l,_,_,_,rfl,rfl,SqL.of A6,ix,o.toNat,by omega,B7.upd nl,?_⟩
   show [si c,si o,none,none]=_
   rw[Int.toNat_of_nonneg ob.1]
 refine L2.hideG fun Z_ z_=>?_
 rintro σ' H1 ⟨mn,m9,s1,rfl⟩
 subst z_
 clear I_
 have p9:((10^mn:Nat):Int)<=1000000000:=by
   have:(10:Nat)^mn<=10^9:=Nat.pow_le_pow_right (by decide) m9
   have e:(10:Nat)^9=1000000000:=by decide
   omega
 let I_:L2.St ->L2.Hp ->Prop:=fun σ' H'=>∃sd:Int,0<=sd/\sd<1000000000/\H'=H1/\σ'=[si c,si (mn:Int),si sd,none]
 refine⟨I_,?_,?_⟩
 . refine⟨_,rfl,c,2,rfl,by decide,by decide,fun m m0 _=>⟨_,rfl,mn,rfl,by omega,_,_,rfl,rfl,pT mn,m % ((10^mn:Nat):Int),Int.emod_nonneg _ (Int.ne_of_gt (pT mn)),?_,rfl,rfl⟩⟩
   exact Int.lt_of_lt_of_le (Int.emod_lt_of_pos m (pT mn)) p9
 refine L2.hideG fun Z_ z_=>?_
 rintro σ' H2 ⟨sd,sd0,sd1,rfl,rfl⟩
 subst z_
 clear I_
 let I_:L2.St ->L2.Hp ->Prop:=fun σ' H'=>∃sd:Int,0<=sd/\sd<10000000000/\H'=H2/\σ'=[si c,si (mn:Int),si sd,none]
 refine⟨I_,?_,?_⟩
 . refine⟨_,rfl,c,3,rfl,by decide,by decide,fun m _ _=>⟨_,_,rfl,rfl,d7,_,_,rfl,rfl,(by decide:(0:Int)<2),rfl,_,rfl,U8 (fun _=>?_) (fun _=>⟨sd,sd0,by omega,rfl,rfl⟩)⟩⟩
   refine⟨_,?_,fun _ _ h=>h⟩
   exact⟨_,rfl,_,_,rfl,rfl,A2h.ok (.inl ⟨by decide,by decide⟩),_,_,rfl,rfl,10*sd+5,by omega,by omega,rfl,rfl⟩
 refine L2.hideG fun Z_ z_=>?_
 rintro σ' H3 ⟨sd,sd0,sd1,rfl,rfl⟩
 subst z_
 clear I_
 let I_:L2.St ->L2.Hp ->Prop:=fun σ' H'=>∃sg:Int,0<=sg/\sg<=1/\H'=H3/\σ'=[si c,si (mn:Int),si sd,si sg]
 refine⟨I_,?_,?_⟩
 . refine⟨_,rfl,c,4,rfl,by decide,by decide,fun m _ _=>⟨_,_,rfl,rfl,d7,_,_,rfl,rfl,(by decide:(0:Int)<9),rfl,.inr ⟨_,rfl,(if decide (V.int (m/7 % 9)=V.int 1)=true then 1 else 0),?_,?_,rfl,rfl⟩⟩⟩
   . split<;>decide
   . split<;>decide
 refine L2.hideG fun Z_ z_=>?_
 rintro σ' H4 ⟨sg,g0,g1,rfl,rfl⟩
 subst z_
 clear I_
 have sb:IntMulOk sd sd:=A2h.ok (.inl ⟨by omega,by omega⟩)
 refine⟨_,rfl,_,rfl,_,rfl,_,_,rfl,rfl,sb,_,rfl,c,5,rfl,by decide,by decide,fun m _ _=>⟨_,_,rfl,rfl,d7,_,_,rfl,rfl,(by decide:(0:Int)<15),_,_,rfl,rfl,z4,fun t nt=>?_⟩⟩
 have e1:=Int.emod_lt_of_pos (m/7) (show(0:Int)<15 by decide)
 have e2:=Int.emod_nonneg (m/7) (show(15:Int)≠0 by decide)
 have q0:0<=sd*sd:=Int.mul_nonneg sd0 sd0
 have q1:sd*sd<=10000000000*10000000000:=Int.mul_le_mul (Int.le_of_lt sd1) (Int.le_of_lt sd1) sd0 (by decide)
 exact k ⟨.plain,sg,sd*sd,m/7 % 15-7⟩ t _ (B7n ⟨g0,g1⟩ ⟨q0,by omega⟩ ⟨by omega,by omega⟩) (s1.trans (B7.upd nt)) A6
noncomputable abbrev B4t:Stmt:=(top 82)
theorem A0d.exc1{CC c c' a b C0:Addr}{F:List (Str×V)}{H H':Hp}{r l m:Int}{y:Wy}{xs ys:List V}(h:A0d CC H c r y l m a b xs ys)(x:Exc c' H H')(h1:c≠c')(hi:∃d0,H c'=some (.ins C0 d0 F)):A0d CC H' c r y l m a b xs ys:=by
 obtain⟨⟨dx,e⟩,ha,hb⟩:=h
 obtain⟨d0,e0⟩:=hi
 exact⟨⟨dx,x _ _ e h1⟩,x _ _ ha (U4 ha e0 (by intro z;cases z)),x _ _ hb (U4 hb e0 (by intro z;cases z))⟩
theorem C2p:∀{ys:List V},(∀(i:Nat) (y:V),ys[i]?=some y ->∃n:Addr,y= .ref n) ->∃ms:List Addr,ys=ms.map V.ref
 | [],_=>⟨[],rfl⟩
 | y::r,h=>by
   obtain⟨n,rfl⟩:=h 0 y rfl
   obtain⟨ms,e⟩:=C2p (ys:=r) fun i z hz=>h (i+1) z (by simpa using hz)
   exact⟨n::ms,by rw[e];rfl⟩
theorem C8k:∀z∈(["void"]:List Str),z∈Y1:=by decide
theorem C7g{v:Cv}{s wh pt L q i:Int}:∀z∈(A1r v s wh pt L q i).2,z∈Y1:=by
 have r:∀{pt:Int} {cut:Bool},∀z∈A0n pt cut,z∈Y1:=fun{pt cut}=>by
   unfold A0n
   split
   . split<;>decide
   . decide
 have l:∀{l L pt:Int},∀z∈A0m l L pt,z∈Y1:=fun{l L pt}=>by
   unfold A0m
   split
   . decide
   . split<;>decide
 unfold A1r
 split
 . show∀z∈(Q32:List Str),z∈Y1
   decide
 intro z hz
 rcases List.mem_append.mp hz with q|q
 . exact r z q
 exact l z q
theorem B7p{v:Cv}{x:Nm}{L:Int}:∀z∈(rootA v x L).2,z∈Y1:=by
 unfold rootA setQ
 intro z hz
 split at hz
 . cases hz
 split at hz
 . cases hz
 split at hz
 . exact C8k z hz
 split at hz
 . cases hz
 exact C7g z hz
theorem A2e.app{H:Hp}{l t:Addr}{ts:List (Addr×Nm)}{x:Nm}(h:A2e H l ts)(et:H t=some (.tup x.vs))(wf:x.Wf):A2e (upd H l (.lst ((ts.map fun p=>V.ref p.1)++ [.ref t]))) l (ts++ [(t,x)]):=by
 refine⟨by rw[A6,List.map_append];rfl,fun p hp=>?_⟩
 rcases List.mem_append.mp hp with hp|hp
 . have:=(h.t p hp).1
   exact⟨by rw[C7 (U4 this h.l (by intro q;cases q))];exact this,(h.t p hp).2⟩
 rw[List.mem_singleton.mp hp]
 exact⟨by rw[C7 (U4 et h.l (by intro q;cases q))];exact et,wf⟩
structure Sd(CC:Addr)(v:Cv)(us tr:List Str)(t c a b l k:Addr)(H:Hp):Prop where
 t:H t=some (.tup v.tup)
 ct:Z6 CC H c v a b (V6 us) tr
 l:H l=some (.lst (tr.map V.str))
 k:H k=some (.dK (kvU us))
 ok:v.Ok
 st:B2p tr
 nu:us.Nodup
 su:∀z∈us,z∈Y1
theorem Sd.same{CC:Addr}{v:Cv}{us tr:List Str}{t c a b l k:Addr}{H H':Hp}(h:Sd CC v us tr t c a b l k H)(s:B7 H H'):Sd CC v us tr t c a b l k H':=⟨s _ _ h.t,h.ct.same s,s _ _ h.l,s _ _ h.k,h.ok,h.st,h.nu,h.su⟩
theorem Sd.exc{CC:Addr}{v v':Cv}{us tr us' tr':List Str}{t c a b l k t' c' a' b' l' k':Addr}{H H':Hp}(h:Sd CC v us tr t c a b l k H)(h':Sd CC v' us' tr' t' c' a' b' l' k' H)(x:Z2 c' k' H H')(nc:c≠c')(nk:k≠k'):Sd CC v us tr t c a b l k H':=by
 obtain⟨⟨dx,e⟩,ha,hb⟩:=h.ct
 obtain⟨dy,ey⟩:=h'.ct.ins
 refine⟨x _ _ h.t (U4 h.t ey (by intro z;cases z)) (U4 h.t h'.k (by intro z;cases z)),⟨⟨dx,x _ _ e nc (U4 e h'.k (by intro z;cases z))⟩,x _ _ ha (U4 ha ey (by intro z;cases z)) (U4 ha h'.k (by intro z;cases z)),x _ _ hb (U4 hb ey (by intro z;cases z)) (U4 hb h'.k (by intro z;cases z))⟩,x _ _ h.l (U4 h.l ey (by intro z;cases z)) (U4 h.l h'.k (by intro z;cases z)),x _ _ h.k (U4 h.k ey (by intro z;cases z)) nk,h.ok,h.st,h.nu,h.su⟩
structure Al(CN CC:Addr)(K:Frag)(sc:Addr)(ns:List Int)(lr lc lt lk ln lm:Addr)(t0 t1 c0 c1 l0 l1 k0 k1:Addr)(v0 v1:Cv)(tr0 tr1:List Str)(ts:List (Addr×Nm))(ms:List Addr)(us0 us1:List Str)(a0 b0 a1 b1:Addr)(H:Hp):Prop where
 scr:SqL K H sc (ns.map V.int)
 er:H lr=some (.lst [.ref t0,.ref t1])
 ec:H lc=some (.lst [.ref c0,.ref c1])
 et:H lt=some (.lst [.ref l0,.ref l1])
 ek:H lk=some (.lst [.ref k0,.ref k1])
 s0:Sd CC v0 us0 tr0 t0 c0 a0 b0 l0 k0 H
 s1:Sd CC v1 us1 tr1 t1 c1 a1 b1 l1 k1 H
 n01:c0≠c1
 k01:k0≠k1
 tu:A2e H ln ts
 l6:ts.length=6
 em:H lm=some (.lst (ms.map V.ref))
 m6:ms.length=6
 hm:∀(i:Nat) (n:Addr),ms[i]?=some n ->∃p:Addr×Nm,ts[i]?=some p/\Z0 CN H n p.2
 nc:∀n∈ms,n≠c0/\n≠c1
theorem Al.same{CN CC:Addr}{K:Frag}{sc:Addr}{ns:List Int}{lr lc lt lk ln lm:Addr}{t0 t1 c0 c1 l0 l1 k0 k1:Addr}{v0 v1:Cv}{tr0 tr1:List Str}{ts:List (Addr×Nm)}{ms:List Addr}{us0 us1:List Str}{a0 b0 a1 b1:Addr}{H H':Hp}(h:Al CN CC K sc ns lr lc lt lk ln lm t0 t1 c0 c1 l0 l1 k0 k1 v0 v1 tr0 tr1 ts ms us0 us1 a0 b0 a1 b1 H)(s:B7 H H'):Al CN CC K sc ns lr lc lt lk ln lm t0 t1 c0 c1 l0 l1 k0 k1 v0 v1 tr0 tr1 ts ms us0 us1 a0 b0 a1 b1 H':=
 ⟨s.seq h.scr,s _ _ h.er,s _ _ h.ec,s _ _ h.et,s _ _ h.ek,h.s0.same s,h.s1.same s,h.n01,h.k01,h.tu.same s,h.l6,s _ _ h.em,h.m6,fun i n hn=>by
   obtain⟨p,hp,q⟩:=h.hm i n hn
   exact⟨p,hp,q.same s⟩,h.nc⟩
section
variable{CN CC:Addr}{K:Frag}{sc:Addr}{ns:List Int}{lr lc lt lk ln lm:Addr}{t0 t1 c0 c1 l0 l1 k0 k1:Addr}{v0 v1:Cv}{tr0 tr1:List Str}{ts:List (Addr×Nm)}{ms:List Addr}{us0 us1:List Str}{a0 b0 a1 b1:Addr}{H:Hp}
theorem Al.pick{he:Int}(h:Al CN CC K sc ns lr lc lt lk ln lm t0 t1 c0 c1 l0 l1 k0 k1 v0 v1 tr0 tr1 ts ms us0 us1 a0 b0 a1 b1 H)(hh:he=0\/he=1):∃v us tr t c a b l kd,atI [V.ref t0,V.ref t1] he=some (.ref t)/\atI [V.ref c0,V.ref c1] he=some (.ref c)/\atI [V.ref l0,V.ref l1] he=some (.ref l)/\atI [V.ref k0,V.ref k1] he=some (.ref kd)/\Sd CC v us tr t c a b l kd H/\(∀n∈ms,n≠c)/\
   ∀us' a' b' H',Z2 c kd H H' ->Sd CC v us' tr t c a' b' l kd H' ->∃us0' us1' a0' b0' a1' b1',Al CN CC K sc ns lr lc lt lk ln lm t0 t1 c0 c1 l0 l1 k0 k1 v0 v1 tr0 tr1 ts ms us0' us1' a0' b0' a1' b1' H':=by
 have rest:∀{c kd C0 d0:Addr} {F:List (Str×V)} {kv:List (Key×V)} {H':Hp},H c=some (.ins C0 d0 F) ->H kd=some (.dK kv) ->Z2 c kd H H' ->(∀n∈ms,n≠c) ->SqL K H' sc (ns.map V.int)/\H' lr=some (.lst [.ref t0,.ref t1])/\H' lc=some (.lst [.ref c0,.ref c1])/\H' lt=some (.lst [.ref l0,.ref l1])/\H' lk=some (.lst [.ref k0,.ref k1])/\A2e H' ln ts/\H' lm=some (.lst (ms.map V.ref))/\∀(i:Nat) (n:Addr),ms[i]?=some n ->∃p:Addr×Nm,ts[i]?=some p/\Z0 CN H' n p.2:=fun{c kd C0 d0 F kv H'} ec ek x nm=>by
   have kp:∀{q:Addr} {o:HO},H q=some o ->(∀C0 d0 F,o≠ .ins C0 d0 F) ->(∀kv,o≠ .dK kv) ->H' q=some o:=fun{q o} e n1 n2=>x _ _ e (fun z=>by rw[z,ec] at e;exact n1 _ _ _ (Option.some.inj e).symm) (fun z=>by rw[z,ek] at e;exact n2 _ (Option.some.inj e).symm)
   have kl:∀{q:Addr} {xs:List V},H q=some (.lst xs) ->H' q=some (.lst xs):=fun e=>kp e (fun _ _ _ z=>by cases z) (fun _ z=>by cases z)
   refine⟨h.scr.kept fun o e hb=>kp e ?_ ?_,kl h.er,kl h.ec,kl h.et,kl h.ek,⟨kl h.tu.l,fun p hp=>⟨kp (h.tu.t p hp).1 (fun _ _ _ z=>by cases z) (fun _ z=>by cases z),(h.tu.t p hp).2⟩⟩,kl h.em,fun i n hn=>?_⟩
   . rcases hb with rfl|⟨oc,rfl⟩<;>exact fun _ _ _ z=>by cases z
   . rcases hb with rfl|⟨oc,rfl⟩<;>exact fun _ z=>by cases z
   . obtain⟨p,hp,dn,en⟩:=h.hm i n hn
     exact⟨p,hp,dn,x _ _ en (nm n (List.mem_of_getElem? hn)) (U4 en ek (by intro z;cases z))⟩
 rcases hh with rfl|rfl
 . have nm:∀n∈ms,n≠c0:=fun n hn=>(h.nc n hn).1
   refine⟨v0,us0,tr0,t0,c0,a0,b0,l0,k0,rfl,rfl,rfl,rfl,h.s0,nm,fun us' a' b' H' x s'=>?_⟩
   obtain⟨dx,e⟩:=h.s0.ct.ins
   obtain⟨r1,r2,r3,r4,r5,r6,r7,r8⟩:=rest e h.s0.k x nm
   exact⟨us',us1,a',b',a1,b1,r1,r2,r3,r4,r5,s',h.s1.exc h.s0 x h.n01.symm h.k01.symm,h.n01,h.k01,r6,h.l6,r7,h.m6,r8,h.nc⟩
 have nm:∀n∈ms,n≠c1:=fun n hn=>(h.nc n hn).2
 refine⟨v1,us1,tr1,t1,c1,a1,b1,l1,k1,rfl,rfl,rfl,rfl,h.s1,nm,fun us' a' b' H' x s'=>?_⟩
 obtain⟨dx,e⟩:=h.s1.ct.ins
 obtain⟨r1,r2,r3,r4,r5,r6,r7,r8⟩:=rest e h.s1.k x nm
 exact⟨us0,us',a0,b0,a',b',r1,r2,r3,r4,r5,h.s0.exc h.s1 x h.n01 h.k01,s',h.n01,h.k01,r6,h.l6,r7,h.m6,r8,h.nc⟩
end
noncomputable abbrev stL (sc:Addr) (x1 x2 x3 x4 x5 x6 x7 x8 x9 x10 x11 x12 x13 x14 x15:Option V):L2.St:=[sr sc,x1,x2,x3,x4,x5,x6,x7,x8,x9,x10,x11,x12,x13,x14,x15]
noncomputable def C1j (K:Frag):Sp:=fun vs H Q _=>∃a ns,vs=[.ref a]/\(ns:List Int).length<=63/\SqL K H a (ns.map V.int)/\∀H',Q (.bl true) H'
theorem scLaw:B8 ["_law_script","_law_rules_here","_law_contexts","_law_traps_here","_law_kept","_law_context","_law_names","_law_numbers","_law_k","_law_made_here","_law_turn","_law_draw","_law_here","_law_one","_law_due","_law_odd"] ["_law_script"] (A5 B4t):=scK
theorem G0c{f f1 f2 f3 f4 f5 f6 f7 f8 f9 f10 f11 fI CC CN CB CB' CT CE':Addr}{fd fd1 fd2 fd3 fd4 fd5 fd6 fd7 fd8 fd9 fd10 fd11 fdI:FuncData}{A1:Addr}(D:Def K mg "law" ["_law_script"] B4t f fd)
   (dA:Def K mg "_law_cell_at" Q27 C2x f1 fd1) (dB:sI P w K mg base 1 f1 fd1 Q27 (C9n K))
   (dC:Def K mg "_law_mixed" Q5 A3v f2 fd2) (dD:sI P w K mg base 1 f2 fd2 Q5 A6t)
   (dE:Def K mg "_law_rules" ["_law_cell"] A6b f3 fd3) (dF:sI P w K mg base 2 f3 fd3 ["_law_cell"] B7y)
   (dG:Def K mg "_law_traps" ["_law_cell"] A9e f4 fd4) (dH:sI P w K mg base 2 f4 fd4 ["_law_cell"] B6g)
   (dJ:Def K mg "_law_made" Q12 B0c f5 fd5) (dL:sI P w K mg base 4 f5 fd5 Q12 (C1g CN))
   (dM:Def K mg "_law_right" Q38 A9j f6 fd6) (dN:sI P w K mg base 10 f6 fd6 Q38 (B5x CN CC))
   (dP:Def K mg "_law_refused" Q39 A9d f7 fd7) (dQ:sI P w K mg base 10 f7 fd7 Q39 (B6x K CN))
   (dS:Def K mg "_law_is" Q13 C6j f8 fd8) (dU:sI P w K mg base 3 f8 fd8 Q13 (C8j CN))
   (dW:Def K mg "_law_number" ["_law_cell"] A4v f9 fd9) (dX:sI P w K mg base 3 f9 fd9 ["_law_cell"] A5d)
   (dY:Def K mg "_law_square" ["_law_cell"] A6v f10 fd10) (dZ:sI P w K mg base 2 f10 fd10 ["_law_cell"] A5d)
   (gA:Def K mg "_law_root" Q41 B4w f11 fd11) (gB:sI P w K mg base 5 f11 fd11 Q41 C2v)
   (MCm:Mk K CC fI) (MCg:sI P w K mg base 3 fI fdI Q16 (A4y K CC CB)) (b4:V4 K fdI Q16 []) (Cc:B2b K mg CC)
   (MF:Has P w K mg base CC "flags" 1 ["self"] (A3r CC)) (MP:Has P w K mg base CC "trap" 2 Q9 (B5m K CC CB)) (ME:Has P w K mg base CC "clear" 1 ["self"] (A5t CC)) (SG:C5w K mg A1) (O4:G2j K CN) (O:Own mg):sI P w K mg base 11 f fd ["_law_script"] (C1j K):=by
 refine D.F.okE scLaw (fun vs H Q E h=>?_) (fun X cdv A outer s H vs Q E hX hr hx h=>?_)
 . obtain⟨a,ns,rfl,_⟩:=h
   rfl
 subst hX
 obtain⟨sc,ns,rfl,n63,hS,kk⟩:=h
 obtain⟨ff,fdf,mf,gf,bf⟩:=MF
 obtain⟨fp,fdp,mp,gp,bp⟩:=MP
 obtain⟨fe,fde,me,ge,be⟩:=ME
 have hu:=hr.units
 have HU:=Nat.lt_of_le_of_lt (Nat.add_le_add_left (by decide:1<=64) _) hr.units
 refine⟨_,(A3 (B0 (A3e (i:=1) (N:=["_law_k"]) (F:=["_law_script"]) (js:=[0]) (D5.of1 ⟨rfl,by decide+kernel,by decide+kernel,by decide+kernel,by decide+kernel⟩ (by rfl) (by rfl) ⟨_,by rfl⟩ (by rfl) (by rfl)) (.inl hr.hd) rfl (A1v rfl O.range_ (A0 A2 A4)) rfl (fun C s₀ H₀ ex pn h=>D4 (i:=0) (by decide+kernel:(Q43:List Str).Nodup) rfl (Or.inl rfl)) (fun C s₀ H₀ ex pn h=>(A3w dE dF hr (A0 (A9 G9 (A3w dA dB hr (A0 (pv 1) (A0 (pv 0) A4))) (A9 G0 A2 (pv 0))) A4))) scLaw.nd rfl (Or.inl rfl))) (A3 (B0 (A3e (i:=2) (N:=Q42) (F:=[]) (js:=[]) (D5.of0 ⟨rfl,by decide+kernel,by decide+kernel,by decide+kernel,by decide+kernel⟩ (by rfl)) (.inl hr.hd) rfl (B5a (pv 1)) rfl (fun C s₀ H₀ ex pn h=>B4f (K:=K) (n:=4) rfl h (D8 (D4 (i:=0) (by decide+kernel:(Q42:List Str).Nodup) rfl (Or.inl rfl)) (D8 (D4 (i:=1) (by decide+kernel:(Q42:List Str).Nodup) rfl (Or.inl rfl)) (D8 (D4 (i:=2) (by decide+kernel:(Q42:List Str).Nodup) rfl (Or.inl rfl)) (D8 (D4 (i:=3) (by decide+kernel:(Q42:List Str).Nodup) rfl (Or.inl rfl)) A0b))))) (fun C s₀ H₀ ex pn h=>(G0g MCm MCg hr Cc.g b4 .nil (A0 (pv 0) (A0 (pv 1) (A0 (pv 2) (A0 (pv 3) A4)))))) scLaw.nd rfl (Or.inl rfl))) (A3 (B0 (A3e (i:=3) (N:=["_law_k"]) (F:=["_law_script"]) (js:=[0]) (D5.of1 ⟨rfl,by decide+kernel,by decide+kernel,by decide+kernel,by decide+kernel⟩ (by rfl) (by rfl) ⟨_,by rfl⟩ (by rfl) (by rfl)) (.inl hr.hd) rfl (A1v rfl O.range_ (A0 A2 A4)) rfl (fun C s₀ H₀ ex pn h=>D4 (i:=0) (by decide+kernel:(Q43:List Str).Nodup) rfl (Or.inl rfl)) (fun C s₀ H₀ ex pn h=>(A3w dG dH hr (A0 (A9 D7 (A3w dA dB hr (A0 (pv 1) (A0 (pv 0) A4))) A2) A4))) scLaw.nd rfl (Or.inl rfl))) (A3 (B0 (D3 (i:=4) scLaw.nd rfl (Or.inr rfl) (U5 (A0 B1u (A0 B1u A4))))) (A3 (B0 (B0h PassesOwn.leaving rfl (C9v rfl O.zip_ (A0 (pv 2) (A0 (pv 3) A4))) (A2c rfl (D8 (D4 (i:=5) scLaw.nd rfl (Or.inl rfl)) (D8 (D4 (i:=6) scLaw.nd rfl (Or.inl rfl)) A0b))) (A7 (B0 (Y8 (G4g (pv 5) Cc.cl mp gp hr bp .nil hx (A0 (V2 A3m (by rfl) O.list_ boot_list (A0 (pv 6) A4)) A4))))))) (A3 (B0 (A3e (i:=7) (N:=["_law_k"]) (F:=["_law_script"]) (js:=[0]) (D5.of1 ⟨rfl,by decide+kernel,by decide+kernel,by decide+kernel,by decide+kernel⟩ (by rfl) (by rfl) ⟨_,by rfl⟩ (by rfl) (by rfl)) (.inl hr.hd) rfl (A1v rfl O.range_ (A0 A2 A4)) rfl (fun C s₀ H₀ ex pn h=>D4 (i:=0) (by decide+kernel:(Q43:List Str).Nodup) rfl (Or.inl rfl)) (fun C s₀ H₀ ex pn h=>(A3w dW dX hr (A0 (A9 G9 (A3w dA dB hr (A0 (pv 1) (A0 (A9 G9 A2 (pv 0)) A4))) (A9 G0 A2 (pv 0))) A4))) scLaw.nd rfl (Or.inl rfl))) (A3 (B0 (B0h PassesOwn.leaving rfl (A1v rfl O.range_ (A0 A2 A4)) (D4 (i:=8) scLaw.nd rfl (Or.inl rfl)) (A7 (B0 (Y8 (G4w PySem.F.plainAttrs_list PySem.F.slot_list_append PySem.F.type_list_append A3a (pv 7) (A0 (U9 dY dZ hr hx (A0 (A9 G9 (U9 dA dB hr hx (A0 (pv 0) (A0 (A9 G9 A2 (pv 8)) A4))) (A9 G0 A2 (pv 8))) A4)) A4))))))) (A3 (B0 (A3e (i:=9) (N:=Q12) (F:=[]) (js:=[]) (D5.of0 ⟨rfl,by decide+kernel,by decide+kernel,by decide+kernel,by decide+kernel⟩ (by rfl)) (.inl hr.hd) rfl (B5a (pv 7)) rfl (fun C s₀ H₀ ex pn h=>D4 (i:=0) (by decide+kernel:(Q12:List Str).Nodup) rfl (Or.inl rfl)) (fun C s₀ H₀ ex pn h=>(A3w dJ dL hr (A0 (pv 0) A4))) scLaw.nd rfl (Or.inl rfl))) (A3 (B0 (B0h PassesOwn.leaving rfl (A1v rfl O.range_ (A0 A2 A4)) (D4 (i:=10) scLaw.nd rfl (Or.inl rfl)) (A3 (B0 (D3 (i:=11) scLaw.nd rfl (Or.inl rfl) (A9 D7 (U9 dC dD hr hx (A0 (U9 dA dB hr hx (A0 (pv 0) (A0 (A9 G9 A2 (pv 10)) A4))) (A0 (A9 G9 (pv 10) A2) A4))) A2))) (A3 (B0 (D3 (i:=12) scLaw.nd rfl (Or.inr rfl) (A9 U6 (pv 11) A2))) (A3 (B0 (D3 (i:=13) scLaw.nd rfl (Or.inl rfl) (A9 U6 (A9 D7 (pv 11) A2) A2))) (A3 (B0 (D3 (i:=14) scLaw.nd rfl (Or.inl rfl) (U9 gA gB hr hx (A0 (Y2 V7 (pv 1) (pv 12) (fun _ _=>rfl)) (A0 (Y2 V7 (pv 7) (pv 13) (fun _ _=>rfl)) A4))))) (A3 (B0 (U2 (A2a (A0q (U9 dM dN hr hx (A0 (pv 14) (A0 (Y2 V7 (pv 3) (pv 12) (fun _ _=>rfl)) (A0 (Y2 V7 (pv 4) (pv 12) (fun _ _=>rfl)) (A0 (Y2 V7 (pv 2) (pv 12) (fun _ _=>rfl)) (A0 A2 (A0 (U5 (A0 (Y2 V7 (pv 9) (pv 13) (fun _ _=>rfl)) A4)) A4))))))))) (A7 (B5 A1f)) D6)) (A3 (B0 (D3 (i:=15) scLaw.nd rfl (Or.inl rfl) (Y2 V7 (U5 (A0 C7z (A0 A2 (A0 C9 (A0 (Y6 (A0 C9 (A0 A2 (A0 A2 (A0 A2 A4))))) (A0 (U5 (A0 A2 A4)) (A0 A1f (A0 B1u (A0 C9 A4))))))))) (A9 U6 (A9 D7 (pv 11) A2) A2) (fun _ _=>rfl)))) (A3 (B0 (U2 (C8 G4 (A9 U6 (A9 D7 (pv 11) A2) A2) A2 (B9 _)) (A3 (B0 (Y8 (B9k (Y2 V7 (pv 2) (pv 12) (fun _ _=>rfl)) Cc.cl me ge hr be .nil hx))) (A7 (B0 (Y8 (C0k PySem.F.plainAttrs_dict PySem.F.slot_dict_clear PySem.F.type_dict_clear C3x (Y2 V7 (pv 4) (pv 12) (fun _ _=>rfl))))))) (A7 (B0 (U2 (PW.pt (A2t (C8 G4 (A9 U6 (A9 D7 (pv 11) A2) A2) A2 (B9 _)) (A1c (A2a (A0q (U9 dP dQ hr hx (A0 (Y2 V7 (pv 2) (pv 12) (fun _ _=>rfl)) (A0 A2 (A0 (U5 (A0 (pv 15) A4)) A4))))))))) (A7 (B5 A1f)) D6))))) (A7 (B0 (U2 (C8 (B8f hr.units) (B9k (Y2 V7 (pv 2) (A9 Y4 A2 (pv 12)) (fun _ _=>rfl)) Cc.cl mf gf hr bf .nil hx) (B7q (N:=["_law_signal"]) (F:=["_law_kept","_law_here"]) (js:=[4,12]) (D5.of2 ⟨rfl,by decide+kernel,by decide+kernel,by decide+kernel,by decide+kernel⟩ (by rfl) (by rfl) ⟨_,by rfl⟩ (by rfl) (by rfl) (by rfl) ⟨_,by rfl⟩ (by rfl) (by rfl)) (.inl hr.hd) rfl (D9t (A7c SG.g)) rfl (fun C s₀ H₀ ex pn h=>D4 (i:=0) (by decide+kernel:(["_law_signal","_law_kept","_law_here"]:List Str).Nodup) rfl (Or.inl rfl)) (fun C s₀ H₀ ex pn h=>(C8e (C9d HU (pv 0) (Y2 (B6t (K:=K) rfl) (pv 1) (A9 Y4 A2 (pv 2)) (fun _ _=>rfl))))) (fun C s₀ H₀ ex pn h=>(pv 0))) (B9 _)) (A7 (B5 A1f)) D6)))))))))))) (A7 (B5 (Y3 (B5y hr.hd) (by rfl) O.all_ boot_all (A0 (C4w (N:=Q44) (F:=[]) (js:=[]) (D5.of0 ⟨rfl,by decide+kernel,by decide+kernel,by decide+kernel,by decide+kernel⟩ (by rfl)) (.inl hr.hd) rfl (C9v rfl O.zip_ (A0 (pv 9) (A0 (pv 7) A4))) rfl (fun C s₀ H₀ ex pn h=>B4f (K:=K) (n:=2) rfl h (D8 (D4 (i:=0) (by decide+kernel:(Q44:List Str).Nodup) rfl (Or.inl rfl)) (D8 (D4 (i:=1) (by decide+kernel:(Q44:List Str).Nodup) rfl (Or.inl rfl)) A0b))) (fun C s₀ H₀ ex pn h=>(A3w dS dU hr (A0 (pv 0) (A0 (pv 1) A4))))) A4))))))))))))),?_⟩
 have z2:2<=sizeLine:=D0 (by decide)
 let I_:L2.St ->L2.Hp ->Prop:=fun σ' H'=>∃lr t0 t1 v0 v1,B7 H H'/\H' lr=some (.lst [.ref t0,.ref t1])/\H' t0=some (.tup (Cv.tup v0))/\H' t1=some (.tup (Cv.tup v1))/\v0.Ok/\v1.Ok/\σ'=stL sc (some (.ref lr)) none none none none none none none none none none none none none none
 refine⟨I_,?_,?_⟩
 . refine⟨2,rfl,by decide,by decide,A2w (J:=Itr 0 2) (n:=2) (fun _ y H'=>∃(t:Addr) (v:Cv),y= .ref t/\H' t=some (.tup v.tup)/\v.Ok) (by decide) (fun i y H1 H2 D l h hD e=>?_) (fun i H2 Qy hi sm hy=>⟨hi,fun x H3 yl=>?_⟩) (fun H2 sm=>Nat.le_refl 2) (fun D H' ys sm nD eD hlen hR=>?_)⟩
   . obtain⟨t,v,rfl,hp,ok⟩:=h
     exact⟨t,v,rfl,e _ _ hp (U4 hp hD (by intro z;cases z)),ok⟩
   . obtain⟨rfl,rfl⟩:=yl
     exact⟨_,rfl,_,rfl,sc,ns,_,rfl,sm.seq hS,by omega,fun c=>⟨_,rfl,_,_,rfl,rfl,A2h.ok (.inl ⟨by decide,by decide⟩),_,_,rfl,rfl,_,rfl,fun v t H' ok s' e=>hy _ _ s' ⟨t,v,rfl,e,ok⟩⟩⟩
   . match ys,hlen with
     | [y0,y1],_=>
       obtain⟨t0,v0,rfl,e0,ok0⟩:=hR 0 y0 rfl
       obtain⟨t1,v1,rfl,e1,ok1⟩:=hR 1 y1 rfl
       exact⟨D,t0,t1,v0,v1,sm,eD,e0,e1,ok0,ok1,rfl⟩
 refine L2.hideG fun Z_ z_=>?_
 rintro σ' H1 ⟨lr,t0,t1,v0,v1,s1,elr,et0,et1,ok0,ok1,rfl⟩
 subst z_
 clear I_
 let I_:L2.St ->L2.Hp ->Prop:=fun σ' H'=>∃lc c0 c1 a0 b0 a1 b1,B7 H1 H'/\H' lc=some (.lst [.ref c0,.ref c1])/\Z6 CC H' c0 v0 a0 b0 [] []/\Z6 CC H' c1 v1 a1 b1 [] []/\c0≠c1/\σ'=stL sc (some (.ref lr)) (some (.ref lc)) none none none none none none none none none none none none none
 refine⟨I_,?_,?_⟩
 . refine⟨_,rfl,lr,rfl,⟨_,SqL.of elr⟩,C7d fun D hD=>?_⟩
   have u0:=B7.upd (o:= .lst []) hD
   refine⟨⟨_,_,SqL.of (u0 _ _ elr),rfl⟩,fun x H3 yl=>?_⟩
   obtain⟨rfl,yl⟩:=yl
   obtain rfl:=Option.some.inj ((yl _ (SqL.of (u0 _ _ elr))).symm.trans (show([V.ref t0,V.ref t1]:List V)[0]?=some (.ref t0) from rfl))
   refine⟨t0,_,rfl,SqT.of (u0 _ _ et0),rfl,_,_,rfl,_,_,rfl,_,_,rfl,_,_,rfl,rfl,_,rfl,_,rfl,_,rfl,_,rfl,fun c0 dx n1 n2 ne=>C9h n1 n2 ne rfl ok0.r1 ok0.r2 rfl (.inr ⟨rfl,ok0.l1,ok0.l2⟩) rfl ok0.m1 ok0.m2 fun a0 b0 H4 s4 na nb ct=>⟨rfl,s4 _ _ A6,D0 (by decide),?_⟩⟩
   have nD:∀{b:Addr},upd H1 D (.lst []) b=none ->b≠D:=fun{b} e z=>by rw[z,A6] at e;cases e
   have g1:B7 H1 (upd H4 D (.lst [.ref c0])):=fun b o e=>by
     rw[C7 (D9 e hD)]
     exact s4 _ _ (u0 _ _ e)
   have ct1:Z6 CC (upd H4 D (.lst [.ref c0])) c0 v0 a0 b0 [] []:=by
     obtain⟨⟨d1,z1⟩,z2,z3⟩:=ct
     exact⟨⟨d1,by rw[C7 (nD n1)];exact z1⟩,by rw[C7 (nD na)];exact z2,by rw[C7 (nD nb)];exact z3⟩
   have e1D:upd H4 D (.lst [.ref c0]) D=some (.lst [.ref c0]):=A6
   generalize upd H4 D (.lst [.ref c0])=G1 at g1 ct1 e1D
   refine⟨e1D,⟨_,_,SqL.of (g1 _ _ elr),rfl⟩,fun x H3 yl=>?_⟩
   obtain⟨rfl,yl⟩:=yl
   obtain rfl:=Option.some.inj ((yl _ (SqL.of (g1 _ _ elr))).symm.trans (show([V.ref t0,V.ref t1]:List V)[1]?=some (.ref t1) from rfl))
   refine⟨t1,_,rfl,SqT.of (g1 _ _ et1),rfl,_,_,rfl,_,_,rfl,_,_,rfl,_,_,rfl,rfl,_,rfl,_,rfl,_,rfl,_,rfl,fun c1 dx' n1' n2' ne'=>C9h n1' n2' ne' rfl ok1.r1 ok1.r2 rfl (.inr ⟨rfl,ok1.l1,ok1.l2⟩) rfl ok1.m1 ok1.m2 fun a1 b1 H5 s5 na' nb' ct'=>⟨rfl,s5 _ _ e1D,D0 (by decide),?_⟩⟩
   have nD':∀{b:Addr},H3 b=none ->b≠D:=fun{b} e z=>by rw[z,e1D] at e;cases e
   have g2:B7 H1 (upd H5 D (.lst [.ref c0,.ref c1])):=fun b o e=>by
     rw[C7 (D9 e hD)]
     exact s5 _ _ (g1 _ _ e)
   obtain⟨⟨d1,y1⟩,y2,y3⟩:=ct1
   have q0:c0≠D:=nD n1
   refine⟨A6,⟨_,SqL.of (g2 _ _ elr),Nat.le_refl 2⟩,D,c0,c1,a0,b0,a1,b1,g2,A6,⟨⟨d1,by rw[C7 q0];exact s5 _ _ y1⟩,by rw[C7 (nD na)];exact s5 _ _ y2,by rw[C7 (nD nb)];exact s5 _ _ y3⟩,?_,(fun z=>by rw[<-z,y1] at n1';cases n1'),rfl⟩
   obtain⟨⟨d2,w1⟩,w2,w3⟩:=ct'
   exact⟨⟨d2,by rw[C7 (nD' n1')];exact w1⟩,by rw[C7 (nD' na')];exact w2,by rw[C7 (nD' nb')];exact w3⟩
 refine L2.hideG fun Z_ z_=>?_
 rintro σ' H2 ⟨lc,c0,c1,a0,b0,a1,b1,s2,elc,ct0,ct1,n01,rfl⟩
 subst z_
 clear I_
 have et0:=s2 _ _ et0
 have et1:=s2 _ _ et1
 have elr:=s2 _ _ elr
 have s2:=s1.trans s2
 let I_:L2.St ->L2.Hp ->Prop:=fun σ' H'=>∃lt l0 l1 tr0 tr1,B7 H2 H'/\H' lt=some (.lst [.ref l0,.ref l1])/\H' l0=some (.lst (tr0.map V.str))/\H' l1=some (.lst (tr1.map V.str))/\B2p tr0/\B2p tr1/\σ'=stL sc (some (.ref lr)) (some (.ref lc)) (some (.ref lt)) none none none none none none none none none none none none
 refine⟨I_,?_,?_⟩
 . refine⟨2,rfl,by decide,by decide,C7d fun D hD=>?_⟩
   have u0:=B7.upd (o:= .lst []) hD
   refine⟨(by decide:0<2),fun x H3 yl=>?_⟩
   obtain⟨rfl,rfl⟩:=yl
   refine⟨_,rfl,_,rfl,sc,ns,_,rfl,(s2.trans u0).seq hS,by omega,fun ce=>⟨_,_,rfl,rfl,⟨by decide,by decide+kernel⟩,_,rfl,fun tr0 l0 H4 st0 s4 nl e4=>⟨s4 _ _ A6,D0 (by decide),?_⟩⟩⟩
   have nD:l0≠D:=fun z=>by rw[z,A6] at nl;cases nl
   have g1:B7 H2 (upd H4 D (.lst [.ref l0])):=fun b o e=>by
     rw[C7 (D9 e hD)]
     exact s4 _ _ (u0 _ _ e)
   have e1:upd H4 D (.lst [.ref l0]) l0=some (.lst (tr0.map V.str)):=by rw[C7 nD];exact e4
   have e1D:upd H4 D (.lst [.ref l0]) D=some (.lst [.ref l0]):=A6
   generalize upd H4 D (.lst [.ref l0])=G1 at g1 e1 e1D
   refine⟨e1D,(by decide:1<2),fun x H3 yl=>?_⟩
   obtain⟨rfl,rfl⟩:=yl
   refine⟨_,rfl,_,rfl,sc,ns,_,rfl,(s2.trans g1).seq hS,by omega,fun ce=>⟨_,_,rfl,rfl,⟨by decide,by decide+kernel⟩,_,rfl,fun tr1 l1 H5 st1 s5 nl1 e5=>⟨s5 _ _ e1D,D0 (by decide),?_⟩⟩⟩
   have nD1:l1≠D:=fun z=>by rw[z,e1D] at nl1;cases nl1
   have g2:B7 H2 (upd H5 D (.lst [.ref l0,.ref l1])):=fun b o e=>by
     rw[C7 (D9 e hD)]
     exact s5 _ _ (g1 _ _ e)
   exact⟨A6,Nat.le_refl 2,D,l0,l1,tr0,tr1,g2,A6,by rw[C7 nD];exact s5 _ _ e1,by rw[C7 nD1];exact e5,st0,st1,rfl⟩
 refine L2.hideG fun Z_ z_=>?_
 rintro σ' H3 ⟨lt,l0,l1,tr0,tr1,s3,elt,el0,el1,st0,st1,rfl⟩
 subst z_
 clear I_
 let I_:L2.St ->L2.Hp ->Prop:=fun σ' H'=>∃lk k0 k1,B7 H3 H'/\H' lk=some (.lst [.ref k0,.ref k1])/\H' k0=some (.dK [])/\H' k1=some (.dK [])/\k0≠k1/\σ'=stL sc (some (.ref lr)) (some (.ref lc)) (some (.ref lt)) (some (.ref lk)) none none none none none none none none none none none
 refine⟨I_,?_,?_⟩
 . intro k0 n0 k1 n1
   have u0:=B7.upd (o:= .dK []) n0
   have u1:=B7.upd (o:= .dK []) n1
   refine⟨z2,fun lk nl=>?_⟩
   have u2:=B7.upd (o:= .lst [.ref k0,.ref k1]) nl
   exact⟨lk,k0,k1,u0.trans (u1.trans u2),A6,(u1.trans u2) _ _ A6,u2 _ _ A6,(fun z=>by rw[<-z,A6] at n1;cases n1),rfl⟩
 refine L2.hideG fun Z_ z_=>?_
 rintro σ' H4 ⟨lk,k0,k1,s4,elk,ek0,ek1,nk,rfl⟩
 subst z_
 clear I_
 have s34:=s3.trans s4
 have ct0:=ct0.same s34
 have ct1:=ct1.same s34
 have elc:=s34 _ _ elc
 have elt:=s4 _ _ elt
 have el0:=s4 _ _ el0
 have el1:=s4 _ _ el1
 have elr:=s34 _ _ elr
 have et0:=s34 _ _ et0
 have et1:=s34 _ _ et1
 have hS4:=(s2.trans s34).seq hS
 clear s34 s4 s3 s2 s1
 let I_:L2.St ->L2.Hp ->Prop:=fun σ' H'=>∃b0 b1 v5 v6,Z2 c0 c1 H4 H'/\Z6 CC H' c0 v0 a0 b0 [] tr0/\Z6 CC H' c1 v1 a1 b1 [] tr1/\σ'=stL sc (some (.ref lr)) (some (.ref lc)) (some (.ref lt)) (some (.ref lk)) v5 v6 none none none none none none none none none
 refine⟨I_,?_,?_⟩
 . refine⟨_,rfl,_,rfl,lc,lt,rfl,⟨_,SqL.of elc⟩,⟨_,SqL.of elt⟩,D6y (J:=Itz K lc lt) (n:=2) (fun i σ' H'=>∃b0 b1 v5 v6,Z2 c0 c1 H4 H'/\Z6 CC H' c0 v0 a0 b0 [] (if 0<i then tr0 else [])/\Z6 CC H' c1 v1 a1 b1 [] (if 1<i then tr1 else [])/\σ'=stL sc (some (.ref lr)) (some (.ref lc)) (some (.ref lt)) (some (.ref lk)) v5 v6 none none none none none none none none none) ⟨b0,b1,none,none,Z2.s (B7.refl _),ct0,ct1,rfl⟩ ?_ ?_⟩
   . rintro i σ' H' hi ⟨b0,b1,v5,v6,x',q0,q1,rfl⟩
     obtain⟨dc0,ec0⟩:=ct0.ins
     obtain⟨dc1,ec1⟩:=ct1.ins
     have kp:∀{q:Addr} {o:HO},H4 q=some o ->(∀C0 d0 F,o≠ .ins C0 d0 F) ->H' q=some o:=fun{q o} e no=>x' _ _ e (fun z=>by rw[z,ec0] at e;exact no _ _ _ (Option.some.inj e).symm) (fun z=>by rw[z,ec1] at e;exact no _ _ _ (Option.some.inj e).symm)
     have elc':=kp elc (fun _ _ _ z=>by cases z)
     have elt':=kp elt (fun _ _ _ z=>by cases z)
     have el0':=kp el0 (fun _ _ _ z=>by cases z)
     have el1':=kp el1 (fun _ _ _ z=>by cases z)
     rcases(by omega:i=0\/i=1) with rfl|rfl
     . refine⟨⟨_,_,_,_,SqL.of elc',SqL.of elt',rfl,rfl⟩,fun x H6 yl=>?_⟩
       obtain⟨t,u,w',rfl,nt,rfl,hu,hv⟩:=yl
       obtain rfl:u= .ref c0:=Option.some.inj ((hu _ (SqL.of elc')).symm.trans rfl)
       obtain rfl:w'= .ref l0:=Option.some.inj ((hv _ (SqL.of elt')).symm.trans rfl)
       have u1:=B7.upd (o:= .tup [.ref c0,.ref l0]) nt
       have q0':=q0.same u1
       obtain⟨dd,ed⟩:=q0'.ins
       refine⟨t,_,rfl,SqT.of A6,rfl,_,_,rfl,_,_,rfl,rfl,?_⟩
       refine⟨_,?_,fun _ _ h=>h⟩
       refine⟨_,rfl,c0,dd,_,rfl,ed,A2m _ _ _ _ _ _,_,rfl,l0,_,rfl,.inl (SqL.of (u1 _ _ el0')),fun ll nl=>?_⟩
       have u2:=B7.upd (o:= .lst (tr0.map V.str)) nl
       refine⟨c0,v0.r,v0.y,v0.l,v0.m,a0,b0,_,_,_,rfl,q0'.same u2,.inl ⟨ll,tr0,rfl,A6,st0.mem,fun b' H'' x'' _ ct''=>?_⟩⟩
       rw[A9z st0 (fun z=>Iff.rfl)] at ct''
       refine⟨b',b1,_,_,x'.trans ((Z2.s (u1.trans u2)).trans (Z2.l x'')),ct'',?_,rfl⟩
       exact A0d.exc1 (q1.same (u1.trans u2)) x'' n01.symm ((q0.same (u1.trans u2)).ins)
     . refine⟨⟨_,_,_,_,SqL.of elc',SqL.of elt',rfl,rfl⟩,fun x H6 yl=>?_⟩
       obtain⟨t,u,w',rfl,nt,rfl,hu,hv⟩:=yl
       obtain rfl:u= .ref c1:=Option.some.inj ((hu _ (SqL.of elc')).symm.trans rfl)
       obtain rfl:w'= .ref l1:=Option.some.inj ((hv _ (SqL.of elt')).symm.trans rfl)
       have u1:=B7.upd (o:= .tup [.ref c1,.ref l1]) nt
       have q1':=q1.same u1
       obtain⟨dd,ed⟩:=q1'.ins
       refine⟨t,_,rfl,SqT.of A6,rfl,_,_,rfl,_,_,rfl,rfl,?_⟩
       refine⟨_,?_,fun _ _ h=>h⟩
       refine⟨_,rfl,c1,dd,_,rfl,ed,A2m _ _ _ _ _ _,_,rfl,l1,_,rfl,.inl (SqL.of (u1 _ _ el1')),fun ll nl=>?_⟩
       have u2:=B7.upd (o:= .lst (tr1.map V.str)) nl
       refine⟨c1,v1.r,v1.y,v1.l,v1.m,a1,b1,_,_,_,rfl,q1'.same u2,.inl ⟨ll,tr1,rfl,A6,st1.mem,fun b' H'' x'' _ ct''=>?_⟩⟩
       rw[A9z st1 (fun z=>Iff.rfl)] at ct''
       refine⟨b0,b',_,_,x'.trans ((Z2.s (u1.trans u2)).trans (Z2.r x'')),?_,ct'',rfl⟩
       exact A0d.exc1 (q0.same (u1.trans u2)) x'' n01 ((q1.same (u1.trans u2)).ins)
   . rintro σ' H' ⟨b0,b1,v5,v6,x',q0,q1,rfl⟩
     obtain⟨dc0,ec0⟩:=ct0.ins
     obtain⟨dc1,ec1⟩:=ct1.ins
     have elc':=x' _ _ elc (U4 elc ec0 (by intro z;cases z)) (U4 elc ec1 (by intro z;cases z))
     have elt':=x' _ _ elt (U4 elt ec0 (by intro z;cases z)) (U4 elt ec1 (by intro z;cases z))
     exact⟨⟨_,_,SqL.of elc',SqL.of elt',.inr (Nat.le_refl 2)⟩,b0,b1,v5,v6,x',q0,q1,rfl⟩
 have ct0':=ct0
 have ct1':=ct1
 refine L2.hideG fun Z_ z_=>?_
 rintro σ' H5 ⟨b0,b1,v5,v6,x5,ct0,ct1,rfl⟩
 subst z_
 clear I_
 obtain⟨dc0,ec0⟩:=(id ct0:Z6 CC H5 c0 v0 a0 b0 [] tr0).ins
 obtain⟨dc1,ec1⟩:=(id ct1:Z6 CC H5 c1 v1 a1 b1 [] tr1).ins
 have x5k:∀{q:Addr} {o:HO},H4 q=some o ->(∀C0 d0 F,o≠ .ins C0 d0 F) ->H5 q=some o:=fun{q o} e no=>by
   by_cases h0:q=c0
   . obtain⟨dz,ez⟩:=ct0'.ins
     rw[h0,ez] at e
     exact absurd (Option.some.inj e).symm (no _ _ _)
   . by_cases h1:q=c1
     . obtain⟨dz,ez⟩:=ct1'.ins
       rw[h1,ez] at e
       exact absurd (Option.some.inj e).symm (no _ _ _)
     . exact x5 _ _ e h0 h1
 have hS5:SqL K H5 sc (ns.map V.int):=hS4.kept fun o e hb=>x5k e (by rcases hb with rfl|⟨oc,rfl⟩<;>exact fun _ _ _ z=>by cases z)
 let I_:L2.St ->L2.Hp ->Prop:=fun σ' H'=>∃ln ts,ts.length=3/\B7 H5 H'/\H5 ln=none/\A2e H' ln ts/\σ'=stL sc (some (.ref lr)) (some (.ref lc)) (some (.ref lt)) (some (.ref lk)) v5 v6 (some (.ref ln)) none none none none none none none none
 refine⟨I_,?_,?_⟩
 . refine⟨3,rfl,by decide,by decide,A2w (J:=Itr 0 3) (n:=3) (fun _ y H'=>∃p:Addr×Nm,y= .ref p.1/\H' p.1=some (.tup p.2.vs)/\p.2.Wf) (by decide) (fun i y H1 H2 D l h hD e=>?_) (fun i H2 Qy hi sm hy=>⟨hi,fun x H3 yl=>?_⟩) (fun H2 sm=>Nat.le_refl 3) (fun D H' ys sm nD eD hlen hR=>?_)⟩
   . obtain⟨p,rfl,hp,wf⟩:=h
     exact⟨p,rfl,e _ _ hp (U4 hp hD (by intro z;cases z)),wf⟩
   . obtain⟨rfl,rfl⟩:=yl
     refine⟨_,rfl,_,rfl,_,_,rfl,rfl,sc,ns,_,rfl,sm.seq hS5,by omega,fun c=>⟨_,rfl,_,_,rfl,rfl,A2h.ok (.inl ⟨by decide,by decide⟩),_,_,rfl,rfl,_,rfl,fun x t H' wf s' e=>hy _ _ s' ⟨(t,x),rfl,e,wf⟩⟩⟩
   . obtain⟨ts,rfl,hts⟩:=C1r (f:=fun p:Addr×Nm=>V.ref p.1) (R:=fun p=>H' p.1=some (.tup p.2.vs)/\p.2.Wf) hR
     exact⟨D,ts,by simpa using hlen,sm,nD,⟨eD,hts⟩,rfl⟩
 refine L2.hideG fun Z_ z_=>?_
 rintro σ' H5' ⟨ln,ts0,l30,s50,nln,tu0,rfl⟩
 subst z_
 clear I_
 refine⟨fun σ' H'=>∃v8 ts,ts.length=6/\B7 H5 H'/\A2e H' ln ts/\σ'=stL sc (some (.ref lr)) (some (.ref lc)) (some (.ref lt)) (some (.ref lk)) v5 v6 (some (.ref ln)) v8 none none none none none none none,⟨3,rfl,by decide,by decide,A7p (n:=3) (fun i σ' H'=>∃v8 ts,ts.length=3+i/\B7 H5 H'/\A2e H' ln ts/\σ'=stL sc (some (.ref lr)) (some (.ref lc)) (some (.ref lt)) (some (.ref lk)) v5 v6 (some (.ref ln)) v8 none none none none none none none) ⟨none,ts0,l30,s50,tu0,rfl⟩ ?_ ?_⟩,?_⟩
 . rintro i σ' H' hi ⟨v8,ts,lts,s',tu,rfl⟩
   refine⟨_,?_,fun _ _ h=>h⟩
   have zl:(ts.map fun p:Addr×Nm=>V.ref p.1).length<sizeLine:=D0 (by rw[List.length_map,lts];omega)
   refine⟨_,rfl,.inl ⟨rfl,_,SqL.of tu.l⟩,_,rfl,_,rfl,_,_,rfl,rfl,sc,ns,_,rfl,s'.seq hS5,by omega,fun c=>⟨_,rfl,_,_,rfl,rfl,A2h.ok (.inl ⟨by decide,by decide⟩),_,_,rfl,rfl,_,rfl,fun x t H2 wf s2 e=>⟨ln,_,_,rfl,rfl,s2 _ _ tu.l,zl,_,ts++ [(t,x)],?_,D6s (s'.trans s2) nln,(tu.same s2).app e wf,rfl⟩⟩⟩
   rw[List.length_append,lts]
   rfl
 . rintro σ' H' ⟨v8,ts,lts,s',tu,rfl⟩
   exact⟨v8,ts,lts,s',tu,rfl⟩
 refine L2.hideG fun Z_ z_=>?_
 rintro σ' H6 ⟨v8,ts,l6,s6,tu,rfl⟩
 subst z_
 let I_:L2.St ->L2.Hp ->Prop:=fun σ' H'=>∃lm,∃ms:List Addr,B7 H6 H'/\H' lm=some (.lst (ms.map V.ref))/\ms.length=6/\(∀(i:Nat) (n:Addr),ms[i]?=some n ->∃p:Addr×Nm,ts[i]?=some p/\Z0 CN H' n p.2/\H6 n=none)/\σ'=stL sc (some (.ref lr)) (some (.ref lc)) (some (.ref lt)) (some (.ref lk)) v5 v6 (some (.ref ln)) v8 (some (.ref lm)) none none none none none none
 refine⟨I_,?_,?_⟩
 . refine⟨_,rfl,ln,rfl,⟨_,SqL.of tu.l⟩,A2w (J:=Itl K ln) (n:=6) (fun i y H'=>∃p:Addr×Nm,ts[i]?=some p/\∃n:Addr,y= .ref n/\Z0 CN H' n p.2/\H6 n=none) (by decide) (fun i y H1 H2 D l h hD e=>?_) (fun i H3 Qy hi sm hy=>?_) (fun H3 sm=>⟨_,SqL.of (sm _ _ tu.l),by rw[List.length_map,l6];exact Nat.le_refl 6⟩) (fun D H' ys sm nD eD hlen hR=>?_)⟩
   . obtain⟨p,hp,n,rfl,⟨dn,hn⟩,nn⟩:=h
     exact⟨p,hp,n,rfl,⟨dn,e _ _ hn (U4 hn hD (by intro z;cases z))⟩,nn⟩
   . have hi6:i<ts.length:=by rw[l6];exact hi
     have ep:ts[i]?=some ts[i]:=List.getElem?_eq_getElem hi6
     have ev:(ts.map fun p=>V.ref p.1)[i]?=some (.ref ts[i].1):=by rw[List.getElem?_map,ep];rfl
     refine⟨⟨_,_,SqL.of (sm _ _ tu.l),ev⟩,fun x H4 yl=>?_⟩
     obtain⟨rfl,yl⟩:=yl
     obtain rfl:=Option.some.inj ((yl _ (SqL.of (sm _ _ tu.l))).symm.trans ev)
     obtain⟨et,wt⟩:=tu.t ts[i] (List.getElem_mem hi6)
     exact⟨_,rfl,ts[i].1,ts[i].2,rfl,sm _ _ et,wt,fun n H' nn s' hn=>hy _ _ s' ⟨ts[i],ep,n,rfl,hn,sm.free nn⟩⟩
   . obtain⟨ms,em⟩:=C2p fun i y hy=>by
       obtain⟨p,hp,n,e,_⟩:=hR i y hy
       exact⟨n,e⟩
     subst em
     rw[List.length_map] at hlen
     refine⟨D,ms,sm,eD,hlen,fun i n hn=>?_,rfl⟩
     obtain⟨p,hp,n',e,num,nn⟩:=hR i (.ref n) (by rw[List.getElem?_map,hn];rfl)
     obtain rfl:=V.ref.inj e
     exact⟨p,hp,num,nn⟩
 refine L2.hideG fun Z_ z_=>?_
 rintro σ' H7 ⟨lm,ms,s7,elm,l6m,hm,rfl⟩
 subst z_
 clear I_
 have h7:Al CN CC K sc ns lr lc lt lk ln lm t0 t1 c0 c1 l0 l1 k0 k1 v0 v1 tr0 tr1 ts ms [] [] a0 b0 a1 b1 H7:=by
   have s67:=s6.trans s7
   have nn:∀n∈ms,H6 n=none:=fun n hn=>by
     obtain⟨i,hi⟩:=List.mem_iff_getElem?.mp hn
     obtain⟨_,_,_,q⟩:=hm i n hi
     exact q
   refine⟨s67.seq hS5,s67 _ _ (x5k elr fun _ _ _ z=>by cases z),s67 _ _ (x5k elc fun _ _ _ z=>by cases z),s67 _ _ (x5k elt fun _ _ _ z=>by cases z),s67 _ _ (x5k elk fun _ _ _ z=>by cases z),?_,?_,n01,nk,tu.same s7,l6,elm,l6m,fun i n hn=>?_,fun n hn=>⟨fun z=>?_,fun z=>?_⟩⟩
   . exact⟨s67 _ _ (x5k et0 fun _ _ _ z=>by cases z),ct0.same s67,s67 _ _ (x5k el0 fun _ _ _ z=>by cases z),s67 _ _ (x5k ek0 fun _ _ _ z=>by cases z),ok0,st0,List.nodup_nil,fun _ h=>by cases h⟩
   . exact⟨s67 _ _ (x5k et1 fun _ _ _ z=>by cases z),ct1.same s67,s67 _ _ (x5k el1 fun _ _ _ z=>by cases z),s67 _ _ (x5k ek1 fun _ _ _ z=>by cases z),ok1,st1,List.nodup_nil,fun _ h=>by cases h⟩
   . obtain⟨p,hp,q,_⟩:=hm i n hn
     exact⟨p,hp,q⟩
   . have q:=nn n hn
     rw[z,s6 _ _ ec0] at q
     cases q
   . have q:=nn n hn
     rw[z,s6 _ _ ec1] at q
     cases q
 refine⟨fun σ' H'=>∃us0 us1 a0 b0 a1 b1 y0 y1 y2 y3 y4 y5,Al CN CC K sc ns lr lc lt lk ln lm t0 t1 c0 c1 l0 l1 k0 k1 v0 v1 tr0 tr1 ts ms us0 us1 a0 b0 a1 b1 H'/\σ'=stL sc (some (.ref lr)) (some (.ref lc)) (some (.ref lt)) (some (.ref lk)) v5 v6 (some (.ref ln)) v8 (some (.ref lm)) y0 y1 y2 y3 y4 y5,⟨10,rfl,by decide,by decide,A7p (n:=10) (fun i σ' H'=>∃us0 us1 a0 b0 a1 b1 y0 y1 y2 y3 y4 y5,Al CN CC K sc ns lr lc lt lk ln lm t0 t1 c0 c1 l0 l1 k0 k1 v0 v1 tr0 tr1 ts ms us0 us1 a0 b0 a1 b1 H'/\σ'=stL sc (some (.ref lr)) (some (.ref lc)) (some (.ref lt)) (some (.ref lk)) v5 v6 (some (.ref ln)) v8 (some (.ref lm)) y0 y1 y2 y3 y4 y5) ⟨[],[],a0,b0,a1,b1,none,none,none,none,none,none,h7,rfl⟩ ?_ ?_⟩,?_⟩
 . clear h7 hm elm s7 tu s6 hS5 x5k ec0 ec1 ct0 ct1 x5 ct0' ct1'
   rintro i σ' H8 hi ⟨us0,us1,a0,b0,a1,b1,y0,y1,y2,y3,y4,y5,h8,rfl⟩
   let I_:L2.St ->L2.Hp ->Prop:=fun σ' H'=>∃dr:Int,H'=H8/\σ'=stL sc (some (.ref lr)) (some (.ref lc)) (some (.ref lt)) (some (.ref lk)) v5 v6 (some (.ref ln)) v8 (some (.ref lm)) (some (.int (0+(i:Int)))) (some (.int dr)) y2 y3 y4 y5
   refine⟨I_,?_,?_⟩
   . exact⟨_,rfl,_,rfl,_,_,rfl,rfl,sc,ns,_,rfl,h8.scr,by omega,fun ce=>⟨_,rfl,_,_,rfl,rfl,ce,_,rfl,by omega,by omega,fun m m0 m1=>⟨_,_,rfl,rfl,⟨by decide,by decide+kernel⟩,_,rfl,rfl⟩⟩⟩
   refine L2.hideG fun Z_ z_=>?_
   rintro σ' H9 ⟨dr,rfl,rfl⟩
   subst z_
   clear I_
   refine⟨fun σ' H'=>∃he:Int,H'=H9/\(he=0\/he=1)/\σ'=stL sc (some (.ref lr)) (some (.ref lc)) (some (.ref lt)) (some (.ref lk)) v5 v6 (some (.ref ln)) v8 (some (.ref lm)) (some (.int (0+(i:Int)))) (some (.int dr)) (some (.int he)) y3 y4 y5,⟨_,rfl,_,_,rfl,rfl,(by decide:(0:Int)<2),_,rfl,by have:=Int.emod_two_eq dr;omega,rfl⟩,?_⟩
   refine L2.hideG fun Z_ z_=>?_
   rintro σ' H11 ⟨he,rfl,hh,rfl⟩
   subst z_
   let I_:L2.St ->L2.Hp ->Prop:=fun σ' H'=>∃o1:Nat,H'=H11/\o1<6/\σ'=stL sc (some (.ref lr)) (some (.ref lc)) (some (.ref lt)) (some (.ref lk)) v5 v6 (some (.ref ln)) v8 (some (.ref lm)) (some (.int (0+(i:Int)))) (some (.int dr)) (some (.int he)) (some (.int (o1:Int))) y4 y5
   refine⟨I_,?_,?_⟩
   . have e1:=Int.emod_lt_of_pos (dr/2) (show(0:Int)<6 by decide)
     have e2:=Int.emod_nonneg (dr/2) (show(6:Int)≠0 by decide)
     refine⟨_,rfl,_,_,rfl,rfl,⟨by decide,by decide+kernel⟩,_,_,rfl,rfl,(by decide:(0:Int)<6),(dr/2 % 6).toNat,rfl,by omega,?_⟩
     show stL sc (some (.ref lr)) (some (.ref lc)) (some (.ref lt)) (some (.ref lk)) v5 v6 (some (.ref ln)) v8 (some (.ref lm)) (some (.int (0+(i:Int)))) (some (.int dr)) (some (.int he)) (some (.int (dr/2 % 6))) y4 y5=_
     rw[Int.toNat_of_nonneg e2]
   refine L2.hideG fun Z_ z_=>?_
   rintro σ' H13 ⟨o1,rfl,lo1,rfl⟩
   subst z_
   clear I_
   have h13:=h8
   obtain⟨v,us,tr,t,c,a,b,l,kd,it,ic,il,ik,sd,nmc,back⟩:=h13.pick hh
   have q1:o1<ts.length:=by rw[h13.l6];exact lo1
   have r1:o1<ms.length:=by rw[h13.m6];exact lo1
   have g1:ts[o1]?=some ts[o1]:=List.getElem?_eq_getElem q1
   have j1:atI (ts.map fun p=>V.ref p.1) (o1:Int)=some (.ref ts[o1].1):=Y0 (j:=o1) (by rw[List.getElem?_map,g1];rfl)
   have f1:ms[o1]?=some ms[o1]:=List.getElem?_eq_getElem r1
   have w1:atI (ms.map V.ref) (o1:Int)=some (.ref ms[o1]):=Y0 (j:=o1) (by rw[List.getElem?_map,f1];rfl)
   obtain⟨e1,wf1⟩:=h13.tu.t ts[o1] (List.getElem_mem q1)
   obtain⟨p1,gp1,num1⟩:=h13.hm o1 _ f1
   obtain rfl:=Option.some.inj (g1.symm.trans gp1)
   let I_:L2.St ->L2.Hp ->Prop:=fun σ' H'=>∃q zs L,B7 H13 H'/\B3c ts[o1].2 L/\A6z H' q (rootA v ts[o1].2 L).1 zs/\(∀z,z∈zs↔z∈(rootA v ts[o1].2 L).2)/\σ'=stL sc (some (.ref lr)) (some (.ref lc)) (some (.ref lt)) (some (.ref lk)) v5 v6 (some (.ref ln)) v8 (some (.ref lm)) (some (.int (0+(i:Int)))) (some (.int dr)) (some (.int he)) (some (.int (o1:Int))) (some (.ref q)) y5
   refine⟨I_,?_,?_⟩
   . exact⟨_,rfl,_,rfl,lr,_,_,_,rfl,rfl,SqL.of h13.er,it,_,rfl,_,rfl,ln,_,_,_,rfl,rfl,SqL.of h13.tu.l,j1,t,v,ts[o1].1,ts[o1].2,rfl,sd.t,sd.ok,e1,wf1,fun L q zs H' hL s' du hz=>⟨q,zs,L,s',hL,du,hz,rfl⟩⟩
   refine L2.hideG fun Z_ z_=>?_
   rintro σ' H14 ⟨q,zs,L,s14,hL,du,hz,rfl⟩
   subst z_
   clear I_
   have h14:=h13.same s14
   have sd14:=sd.same s14
   have z1:1<=sizeLine:=D0 (by decide)
   have z4:4<=sizeLine:=D0 (by decide)
   have z8:8<=sizeLine:=D0 (by decide)
   let I_:L2.St ->L2.Hp ->Prop:=fun σ' H'=>∃us' a' b',Z2 c kd H13 H'/\Sd CC v us' tr t c a' b' l kd H'/\σ'=stL sc (some (.ref lr)) (some (.ref lc)) (some (.ref lt)) (some (.ref lk)) v5 v6 (some (.ref ln)) v8 (some (.ref lm)) (some (.int (0+(i:Int)))) (some (.int dr)) (some (.int he)) (some (.int (o1:Int))) (some (.ref q)) y5
   refine⟨I_,?_,?_⟩
   . refine⟨_,rfl,_,rfl,_,rfl,lt,_,_,_,rfl,rfl,SqL.of h14.et,il,_,rfl,_,rfl,lk,_,_,_,rfl,rfl,SqL.of h14.ek,ik,_,rfl,_,rfl,lc,_,_,_,rfl,rfl,SqL.of h14.ec,ic,_,rfl,_,rfl,lm,_,_,_,rfl,rfl,SqL.of h14.em,w1,z1,fun sm nsm=>?_⟩
     have s15:=B7.upd (o:= .lst [.ref ms[o1]]) nsm
     have esm:upd H14 sm (.lst [.ref ms[o1]]) sm=some (.lst [.ref ms[o1]]):=A6
     generalize upd H14 sm (.lst [.ref ms[o1]])=H15 at s15 esm
     have s135:=s14.trans s15
     have sd15:=sd.same s135
     have rdy:Rdy CN 0 [.ref ms[o1]] v c (rootA v ts[o1].2 L) H15:=⟨ms[o1],ts[o1].2,L,rfl,num1.same s135,wf1.ok,hL,rfl,nmc _ (List.getElem_mem r1)⟩
     refine⟨q,l,kd,c,sm,a,b,0,v,us,tr,zs,[.ref ms[o1]],rootA v ts[o1].2 L,rfl,⟨du.same s15,hz,fun z h=>B7p z ((hz z).mp h),sd15.l,sd15.st,sd15.k,sd15.nu,sd15.su,sd15.ct,sd15.ok,esm,rdy⟩,fun us' a' b' H' mu nu x' ek' ct'=>⟨_,rfl,V9 ⟨us',a',b',(Z2.s s135).trans x',?_,rfl⟩⟩⟩
     obtain⟨dcc,ecc⟩:=sd15.ct.ins
     exact⟨x' _ _ sd15.t (U4 sd15.t ecc (by intro z;cases z)) (U4 sd15.t sd15.k (by intro z;cases z)),ct',x' _ _ sd15.l (U4 sd15.l ecc (by intro z;cases z)) (U4 sd15.l sd15.k (by intro z;cases z)),ek',sd15.ok,sd15.st,nu,fun z hz'=>((mu z).mp hz').elim (sd15.su z) fun h=>B7p z ((hz z).mp h)⟩
   refine L2.hideG fun Z_ z_=>?_
   rintro σ' H15 ⟨us',a',b',x15,sd15,rfl⟩
   subst z_
   clear I_
   obtain⟨us0',us1',a0',b0',a1',b1',h15⟩:=back us' a' b' H15 x15 sd15
   let I_:L2.St ->L2.Hp ->Prop:=fun σ' H'=>∃od,B7 H15 H'/\A5j H' od/\σ'=stL sc (some (.ref lr)) (some (.ref lc)) (some (.ref lt)) (some (.ref lk)) v5 v6 (some (.ref ln)) v8 (some (.ref lm)) (some (.int (0+(i:Int)))) (some (.int dr)) (some (.int he)) (some (.int (o1:Int))) (some (.ref q)) (some od)
   refine⟨I_,?_,?_⟩
   . refine⟨z4,fun q1 n1=>⟨z1,fun q2 n2=>fun q3 n3=>⟨z8,fun l nl=>?_⟩⟩⟩
     have u1:=B7.upd (o:= .tup [.str "plain",.int 0,.int 1,.int 0]) n1
     have u2:=B7.upd (o:= .lst [.int 1]) n2
     have u3:=B7.upd (o:= .dK []) n3
     have u4:=B7.upd (o:= .lst [.non,.int 5,.str "1",.ref q1,.ref q2,.bl true,.ref q3,.str ""]) nl
     obtain⟨o,ho,ix⟩:=ixv (xs:=[.non,.int 5,.str "1",.ref q1,.ref q2,.bl true,.ref q3,.str ""]) (i:=dr/60 % 8) (Int.emod_nonneg _ (by decide)) (by show dr/60 % 8<8;exact Int.emod_lt_of_pos _ (by decide))
     refine⟨_,rfl,_,_,rfl,rfl,⟨by decide,by decide+kernel⟩,_,_,rfl,rfl,(by decide:(0:Int)<8),l,_,_,_,rfl,rfl,SqL.of A6,ix,o,u1.trans (u2.trans (u3.trans u4)),?_,rfl⟩
     simp only[List.mem_cons,List.not_mem_nil,or_false] at ho
     rcases ho with rfl|rfl|rfl|rfl|rfl|rfl|rfl|rfl
     . exact .non
     . exact .int _
     . exact .str _
     . exact .tup ((u2.trans (u3.trans u4)) _ _ A6)
     . exact .lst ((u3.trans u4) _ _ A6)
     . exact .bl _
     . exact .dic (u4 _ _ A6)
     . exact .str _
   refine L2.hideG fun Z_ z_=>?_
   rintro σ' H16 ⟨od,s16,oo,rfl⟩
   subst z_
   clear I_
   have sd16:=sd15.same s16
   have h16:=h15.same s16
   have x13:Z2 c kd H13 H16:=x15.trans (Z2.s s16)
   let I_:L2.St ->L2.Hp ->Prop:=fun σ' H'=>∃us0 us1 a0 b0 a1 b1,Al CN CC K sc ns lr lc lt lk ln lm t0 t1 c0 c1 l0 l1 k0 k1 v0 v1 tr0 tr1 ts ms us0 us1 a0 b0 a1 b1 H'/\σ'=stL sc (some (.ref lr)) (some (.ref lc)) (some (.ref lt)) (some (.ref lk)) v5 v6 (some (.ref ln)) v8 (some (.ref lm)) (some (.int (0+(i:Int)))) (some (.int dr)) (some (.int he)) (some (.int (o1:Int))) (some (.ref q)) (some od)
   refine⟨I_,?_,?_⟩
   . obtain⟨dc16,ec16⟩:=sd16.ct.ins
     refine⟨_,rfl,_,_,rfl,rfl,⟨by decide,by decide+kernel⟩,_,_,rfl,rfl,(by decide:(0:Int)<5),rfl,_,rfl,U8 (fun _=>?_) (fun _=>?_)⟩
     . let I_:L2.St ->L2.Hp ->Prop:=fun σ' H'=>∃a2,Exc c H16 H'/\Z6 CC H' c v a2 b' [] tr/\σ'=stL sc (some (.ref lr)) (some (.ref lc)) (some (.ref lt)) (some (.ref lk)) v5 v6 (some (.ref ln)) v8 (some (.ref lm)) (some (.int (0+(i:Int)))) (some (.int dr)) (some (.int he)) (some (.int (o1:Int))) (some (.ref q)) (some od)
       refine⟨I_,?_,?_⟩
       . exact⟨_,rfl,_,rfl,lc,_,_,_,rfl,rfl,SqL.of h16.ec,ic,c,dc16,_,rfl,ec16,B4r _ _ _ _ _ _,c,v.r,v.y,v.l,v.m,a',b',_,_,rfl,sd16.ct,fun a2 H' x2 _ ct2=>⟨a2,x2,ct2,rfl⟩⟩
       refine L2.hideG fun Z_ z_=>?_
       rintro σ' H17 ⟨a2,x17,ct17,rfl⟩
       subst z_
       clear I_
       have ek17:=x17 _ _ sd16.k (U4 sd16.k ec16 (by intro z;cases z))
       have elk17:=x17 _ _ h16.ek (U4 h16.ek ec16 (by intro z;cases z))
       have et17:=x17 _ _ sd16.t (U4 sd16.t ec16 (by intro z;cases z))
       have el17:=x17 _ _ sd16.l (U4 sd16.l ec16 (by intro z;cases z))
       refine⟨_,?_,fun _ _ h=>h⟩
       refine⟨_,rfl,_,rfl,lk,_,_,_,rfl,rfl,SqL.of elk17,ik,.inr (.inr (.inl ⟨rfl,.inl ⟨_,ek17⟩⟩)),kd,_,rfl,rfl,ek17,?_⟩
       have xu:Z2 c kd H17 (upd H17 kd (.dK [])):=fun b o e _ nb=>by rw[C7 nb];exact e
       obtain⟨⟨d17,z1⟩,z2,z3⟩:=ct17
       have sd17:Sd CC v [] tr t c a2 b' l kd (upd H17 kd (.dK [])):=⟨by rw[C7 (U4 et17 ek17 (by intro z;cases z))];exact et17,⟨⟨d17,by rw[C7 (U4 z1 ek17 (by intro z;cases z))];exact z1⟩,by rw[C7 (U4 z2 ek17 (by intro z;cases z))];exact z2,by rw[C7 (U4 z3 ek17 (by intro z;cases z))];exact z3⟩,by rw[C7 (U4 el17 ek17 (by intro z;cases z))];exact el17,A6,sd16.ok,sd16.st,List.nodup_nil,fun _ h=>by cases h⟩
       obtain⟨y0,y1,y2,y3,y4,y5,h17⟩:=back [] a2 b' _ (x13.trans ((Z2.l x17).trans xu)) sd17
       exact⟨y0,y1,y2,y3,y4,y5,h17,rfl⟩
     . refine⟨_,?_,fun _ _ h=>h⟩
       refine⟨_,rfl,_,_,rfl,rfl,⟨by decide,by decide+kernel⟩,_,_,rfl,rfl,(by decide:(0:Int)<5),rfl,_,rfl,U8 (fun _=>?_) (fun _=>⟨us0',us1',a0',b0',a1',b1',h16,rfl⟩)⟩
       refine⟨_,rfl,_,rfl,lc,_,_,_,rfl,rfl,SqL.of h16.ec,ic,_,rfl,z1,fun sm nsm=>?_⟩
       have u1:=B7.upd (o:= .lst [od]) nsm
       exact⟨c,sm,[od],0,rfl,A6,⟨od,rfl,(oo.same u1).not O4⟩,fun H' s'=>⟨_,rfl,V9 ⟨us0',us1',a0',b0',a1',b1',h16.same (u1.trans s'),rfl⟩⟩⟩
   clear h16 sd16 sd15 h15 h14 du back
   refine L2.hideG fun Z_ z_=>?_
   rintro σ' H17 ⟨us0,us1,a0,b0,a1,b1,h17,rfl⟩
   subst z_
   clear I_
   obtain⟨v',us',tr',t',c',a',b',l',kd',it',ic',il',ik',sd',_,_⟩:=h17.pick (he:=1-he) (by omega)
   obtain⟨dc',ec'⟩:=sd'.ct.ins
   refine⟨_,?_,fun _ _ h=>h⟩
   refine⟨_,rfl,_,rfl,_,_,rfl,rfl,lc,_,_,_,rfl,rfl,SqL.of h17.ec,ic',c',dc',_,rfl,ec',A6n _ _ _ _ _ _,c',v'.r,v'.y,v'.l,v'.m,a',b',_,_,rfl,sd'.ct,fun fl nfl=>?_⟩
   have uf:=B7.upd (o:= .lst ((V6 us').map V.str)) nfl
   have ef:upd H17 fl (.lst ((V6 us').map V.str)) fl=some (.lst ((V6 us').map V.str)):=A6
   generalize upd H17 fl (.lst ((V6 us').map V.str))=H18 at uf ef
   have h18:=h17.same uf
   have ek18:=uf _ _ sd'.k
   have okU:OkL (V6 us'):=⟨Nat.le_trans (C1a us') (by decide),fun z hz=>C8p z (List.mem_filter.mp hz).1⟩
   refine A6e (zs:=Y1) (f:=fun z=>us'.contains z) (σf:=[sr lk,si he]) SG.sq (by decide) (fun z H' Qb sm qq=>?_) (fun z H' Qv qq=>⟨_,rfl,qq⟩) (fun D H' sm nd e=>?_) rfl
   . have:=C5t.k (k:= .inr z) (sm _ _ ek18)
     refine⟨_,rfl,_,rfl,_,rfl,_,_,rfl,rfl,lk,_,_,_,rfl,rfl,SqL.of (sm _ _ h18.ek),ik',kd',_,rfl,this,_,rfl,?_⟩
     rw[C9g]
     exact qq
   . refine⟨rdS (V6 us'),rdS (V6 us'),A4d (sm _ _ ef),A4d e,shS okU,shS okU,?_⟩
     rw[if_pos rfl,G0q]
     exact⟨_,rfl,V9 ⟨us0,us1,a0,b0,a1,b1,_,_,_,_,_,_,h18.same sm,rfl⟩⟩
 . rintro σ' H8 h
   exact h
 refine L2.hideG fun Z_ z_=>?_
 rintro σ' H8 ⟨us0,us1,a0,b0,a1,b1,y0,y1,y2,y3,y4,y5,h8,rfl⟩
 subst z_
 refine⟨_,rfl,_,rfl,lm,ln,rfl,⟨_,SqL.of h8.em⟩,⟨_,SqL.of h8.tu.l⟩,A2w (J:=Itz K lm ln) (n:=6) (fun _ y _=>y= .bl true) (by decide) (fun _ _ _ _ _ _ h _ _=>h) (fun i H2 Qy hi sm hy=>?_) (fun H2 sm=>⟨_,_,SqL.of (sm _ _ h8.em),SqL.of (sm _ _ h8.tu.l),.inr (by simp[h8.l6])⟩) (fun D H' ys sm nD eD hlen hR=>?_)⟩
 . have h9:=h8.same sm
   have im:i<ms.length:=by rw[h8.m6];exact hi
   have en:ms[i]?=some ms[i]:=List.getElem?_eq_getElem im
   obtain⟨p,hp,num⟩:=h9.hm i _ en
   have ep:=h9.tu.t p (List.mem_of_getElem? hp)
   refine⟨⟨_,_,V.ref ms[i],V.ref p.1,SqL.of h9.em,SqL.of h9.tu.l,by rw[List.getElem?_map,en];rfl,by rw[List.getElem?_map,hp];rfl⟩,fun z H3 yl=>?_⟩
   obtain⟨t,u,v,rfl,nt,rfl,hu,hv⟩:=yl
   have hu:=hu _ (SqL.of h9.em)
   have hv:=hv _ (SqL.of h9.tu.l)
   have eu:u= .ref ms[i]:=by
     rw[List.getElem?_map,en] at hu
     exact(Option.some.inj hu).symm
   have ev:v= .ref p.1:=by
     rw[List.getElem?_map,hp] at hv
     exact(Option.some.inj hv).symm
   subst eu ev
   have u1:=B7.upd (o:= .tup [.ref ms[i],.ref p.1]) nt
   refine⟨t,_,rfl,SqT.of A6,rfl,_,_,rfl,_,_,rfl,rfl,?_⟩
   exact⟨_,rfl,_,rfl,ms[i],p.1,p.2,rfl,num.same u1,u1 _ _ ep.1,fun H' s'=>hy _ _ (u1.trans s') rfl⟩
 have ey:ys=(List.replicate 6 true).map V.bl:=by
   apply List.ext_getElem?
   intro i
   by_cases hi:i<6
   . rw[List.getElem?_eq_getElem (by omega),hR i ys[i] (by simp[hlen,hi])]
     rw[List.getElem?_map,List.getElem?_replicate,if_pos hi]
     rfl
   . rw[List.getElem?_eq_none (by omega),List.getElem?_eq_none (by simp;omega)]
 subst ey
 refine⟨D,_,rfl,SqL.of eD,?_⟩
 rw[show(List.replicate 6 true).all id=true by simp]
 exact kk H'
noncomputable def Fa (K:Frag) (x:Str) (st:Stmt):Prop:=∃(f:Addr) (oc:Value) (od:Option Addr) (osl:Array (Option Value)) (kV doc pm:Value) (an:Option Addr) (cdv ct:Value),nsIn K mainGlobals x=some (some (.ref f))/\K.lookup f=some ⟨oc,od,.func (fnOf x x (U3 st) (J9 st) (A5 st) .none kV doc pm an cdv ct),osl⟩/\codeIn K cdv x=true/\keepIn K (.ref f)=true
theorem Fa.mk{K:Frag}{x:Str}{st:Stmt}{oc:Value}{od an:Option Addr}{osl:Array (Option Value)}{kV doc pm cdv ct:Value}(a:nsIn K mainGlobals x=some (some (.ref f)))(l:K.lookup f=some ⟨oc,od,.func (fnOf x x (U3 st) (J9 st) (A5 st) .none kV doc pm an cdv ct),osl⟩)(c:codeIn K cdv x=true)(k:keepIn K (.ref f)=true):Fa K x st:=
 ⟨_,_,_,_,_,_,_,_,_,_,a,l,c,k⟩
noncomputable def Fb (K:Frag) (C:Addr) (m q:Str) (st:Stmt):Prop:=∃(f:Addr) (oc:Value) (od:Option Addr) (osl:Array (Option Value)) (kV doc pm:Value) (an:Option Addr) (cdv ct:Value),findIn K (.ref C) m=some (some (.ref f))/\isFn K (.ref f)=true/\K.lookup f=some ⟨oc,od,.func (fnOf m q (U3 st) (J9 st) (A5 st) .none kV doc pm an cdv ct),osl⟩/\codeIn K cdv q=true/\keepIn K (.ref f)=true
theorem Fb.mk{K:Frag}{C:Addr}{m q:Str}{st:Stmt}{oc:Value}{od an:Option Addr}{osl:Array (Option Value)}{kV doc pm cdv ct:Value}(a:findIn K (.ref C) m=some (some (.ref f)))(i:isFn K (.ref f)=true)(l:K.lookup f=some ⟨oc,od,.func (fnOf m q (U3 st) (J9 st) (A5 st) .none kV doc pm an cdv ct),osl⟩)(c:codeIn K cdv q=true)(k:keepIn K (.ref f)=true):Fb K C m q st:=
 ⟨_,_,_,_,_,_,_,_,_,_,a,i,l,c,k⟩
theorem Fa.go0{K:Frag}{h:Heap}{mg:Str ->Option Value}{x:Str}{st:Stmt}(u:Fa K x st)(X:K.In h)(G:h.Ns mainGlobals mg)
   (hb:∀(kV doc pm:Value) (an:Option Addr) (cdv ct:Value),bindArgs (fnOf x x (U3 st) (J9 st) (A5 st) .none kV doc pm an cdv ct) ⟨[],[]⟩=pure ([].zip []):=by intros;rfl):∃f fd,Def K mg x [] st f fd:=by
 obtain⟨_,_,_,_,_,_,_,_,_,_,a,l,c,k⟩:=u
 exact⟨_,_,A4n X G a l c k fun kV d p an cd ct us hl=>match us,hl with| [],_=>hb kV d p an cd ct⟩
theorem Fa.go1{K:Frag}{h:Heap}{mg:Str ->Option Value}{x:Str}{p0:Str}{st:Stmt}(u:Fa K x st)(X:K.In h)(G:h.Ns mainGlobals mg)
   (hb:∀(kV doc pm:Value) (an:Option Addr) (cdv ct:Value) (u0:Value),bindArgs (fnOf x x (U3 st) (J9 st) (A5 st) .none kV doc pm an cdv ct) ⟨[u0],[]⟩=pure ([p0].zip [u0]):=by intros;rfl):∃f fd,Def K mg x [p0] st f fd:=by
 obtain⟨_,_,_,_,_,_,_,_,_,_,a,l,c,k⟩:=u
 exact⟨_,_,A4n X G a l c k fun kV d p an cd ct us hl=>match us,hl with| [_],_=>hb kV d p an cd ct _⟩
theorem Fb.go1{K:Frag}{C:Addr}{x q:Str}{p0:Str}{st:Stmt}(u:Fb K C x q st)
   (hb:∀(kV doc pm:Value) (an:Option Addr) (cdv ct:Value) (u0:Value),bindArgs (fnOf x q (U3 st) (J9 st) (A5 st) .none kV doc pm an cdv ct) ⟨[u0],[]⟩=pure ([p0].zip [u0]):=by intros;rfl):∃f fd,Fun K x q st f fd/\V4 K fd [p0] []/\A5v K C x f:=by
 obtain⟨_,_,_,_,_,_,_,_,_,_,a,i,l,c,k⟩:=u
 exact⟨_,_,A2s (st:=st) l c k,(A2s (st:=st) l c k).binds fun kV d p an cd ct us hl=>match us,hl with| [_],_=>hb kV d p an cd ct _,a,i,k⟩
theorem Fa.go2{K:Frag}{h:Heap}{mg:Str ->Option Value}{x:Str}{p0 p1:Str}{st:Stmt}(u:Fa K x st)(X:K.In h)(G:h.Ns mainGlobals mg)
   (hb:∀(kV doc pm:Value) (an:Option Addr) (cdv ct:Value) (u0 u1:Value),bindArgs (fnOf x x (U3 st) (J9 st) (A5 st) .none kV doc pm an cdv ct) ⟨[u0,u1],[]⟩=pure ([p0,p1].zip [u0,u1]):=by intros;rfl):∃f fd,Def K mg x [p0,p1] st f fd:=by
 obtain⟨_,_,_,_,_,_,_,_,_,_,a,l,c,k⟩:=u
 exact⟨_,_,A4n X G a l c k fun kV d p an cd ct us hl=>match us,hl with| [_,_],_=>hb kV d p an cd ct _ _⟩
theorem Fb.go2{K:Frag}{C:Addr}{x q:Str}{p0 p1:Str}{st:Stmt}(u:Fb K C x q st)
   (hb:∀(kV doc pm:Value) (an:Option Addr) (cdv ct:Value) (u0 u1:Value),bindArgs (fnOf x q (U3 st) (J9 st) (A5 st) .none kV doc pm an cdv ct) ⟨[u0,u1],[]⟩=pure ([p0,p1].zip [u0,u1]):=by intros;rfl):∃f fd,Fun K x q st f fd/\V4 K fd [p0,p1] []/\A5v K C x f:=by
 obtain⟨_,_,_,_,_,_,_,_,_,_,a,i,l,c,k⟩:=u
 exact⟨_,_,A2s (st:=st) l c k,(A2s (st:=st) l c k).binds fun kV d p an cd ct us hl=>match us,hl with| [_,_],_=>hb kV d p an cd ct _ _,a,i,k⟩
theorem Fa.go3{K:Frag}{h:Heap}{mg:Str ->Option Value}{x:Str}{p0 p1 p2:Str}{st:Stmt}(u:Fa K x st)(X:K.In h)(G:h.Ns mainGlobals mg)
   (hb:∀(kV doc pm:Value) (an:Option Addr) (cdv ct:Value) (u0 u1 u2:Value),bindArgs (fnOf x x (U3 st) (J9 st) (A5 st) .none kV doc pm an cdv ct) ⟨[u0,u1,u2],[]⟩=pure ([p0,p1,p2].zip [u0,u1,u2]):=by intros;rfl):∃f fd,Def K mg x [p0,p1,p2] st f fd:=by
 obtain⟨_,_,_,_,_,_,_,_,_,_,a,l,c,k⟩:=u
 exact⟨_,_,A4n X G a l c k fun kV d p an cd ct us hl=>match us,hl with| [_,_,_],_=>hb kV d p an cd ct _ _ _⟩
theorem Fa.go4{K:Frag}{h:Heap}{mg:Str ->Option Value}{x:Str}{p0 p1 p2 p3:Str}{st:Stmt}(u:Fa K x st)(X:K.In h)(G:h.Ns mainGlobals mg)
   (hb:∀(kV doc pm:Value) (an:Option Addr) (cdv ct:Value) (u0 u1 u2 u3:Value),bindArgs (fnOf x x (U3 st) (J9 st) (A5 st) .none kV doc pm an cdv ct) ⟨[u0,u1,u2,u3],[]⟩=pure ([p0,p1,p2,p3].zip [u0,u1,u2,u3]):=by intros;rfl):∃f fd,Def K mg x [p0,p1,p2,p3] st f fd:=by
 obtain⟨_,_,_,_,_,_,_,_,_,_,a,l,c,k⟩:=u
 exact⟨_,_,A4n X G a l c k fun kV d p an cd ct us hl=>match us,hl with| [_,_,_,_],_=>hb kV d p an cd ct _ _ _ _⟩
theorem Fb.go4{K:Frag}{C:Addr}{x q:Str}{p0 p1 p2 p3:Str}{st:Stmt}(u:Fb K C x q st)
   (hb:∀(kV doc pm:Value) (an:Option Addr) (cdv ct:Value) (u0 u1 u2 u3:Value),bindArgs (fnOf x q (U3 st) (J9 st) (A5 st) .none kV doc pm an cdv ct) ⟨[u0,u1,u2,u3],[]⟩=pure ([p0,p1,p2,p3].zip [u0,u1,u2,u3]):=by intros;rfl):∃f fd,Fun K x q st f fd/\V4 K fd [p0,p1,p2,p3] []/\A5v K C x f:=by
 obtain⟨_,_,_,_,_,_,_,_,_,_,a,i,l,c,k⟩:=u
 exact⟨_,_,A2s (st:=st) l c k,(A2s (st:=st) l c k).binds fun kV d p an cd ct us hl=>match us,hl with| [_,_,_,_],_=>hb kV d p an cd ct _ _ _ _,a,i,k⟩
theorem Fa.go6{K:Frag}{h:Heap}{mg:Str ->Option Value}{x:Str}{p0 p1 p2 p3 p4 p5:Str}{st:Stmt}(u:Fa K x st)(X:K.In h)(G:h.Ns mainGlobals mg)
   (hb:∀(kV doc pm:Value) (an:Option Addr) (cdv ct:Value) (u0 u1 u2 u3 u4 u5:Value),bindArgs (fnOf x x (U3 st) (J9 st) (A5 st) .none kV doc pm an cdv ct) ⟨[u0,u1,u2,u3,u4,u5],[]⟩=pure ([p0,p1,p2,p3,p4,p5].zip [u0,u1,u2,u3,u4,u5]):=by intros;rfl):∃f fd,Def K mg x [p0,p1,p2,p3,p4,p5] st f fd:=by
 obtain⟨_,_,_,_,_,_,_,_,_,_,a,l,c,k⟩:=u
 exact⟨_,_,A4n X G a l c k fun kV d p an cd ct us hl=>match us,hl with| [_,_,_,_,_,_],_=>hb kV d p an cd ct _ _ _ _ _ _⟩
theorem Fa.go7{K:Frag}{h:Heap}{mg:Str ->Option Value}{x:Str}{p0 p1 p2 p3 p4 p5 p6:Str}{st:Stmt}(u:Fa K x st)(X:K.In h)(G:h.Ns mainGlobals mg)
   (hb:∀(kV doc pm:Value) (an:Option Addr) (cdv ct:Value) (u0 u1 u2 u3 u4 u5 u6:Value),bindArgs (fnOf x x (U3 st) (J9 st) (A5 st) .none kV doc pm an cdv ct) ⟨[u0,u1,u2,u3,u4,u5,u6],[]⟩=pure ([p0,p1,p2,p3,p4,p5,p6].zip [u0,u1,u2,u3,u4,u5,u6]):=by intros;rfl):∃f fd,Def K mg x [p0,p1,p2,p3,p4,p5,p6] st f fd:=by
 obtain⟨_,_,_,_,_,_,_,_,_,_,a,l,c,k⟩:=u
 exact⟨_,_,A4n X G a l c k fun kV d p an cd ct us hl=>match us,hl with| [_,_,_,_,_,_,_],_=>hb kV d p an cd ct _ _ _ _ _ _ _⟩
end TR
namespace TR
open PySem L2 PySem.W PyProof.Rows
theorem all_mk{l:OpenLaw}{w:World}{K:Frag}{h:Heap}{mg:Str ->Option Value}{fa CW W0 W1 W2 W3 W4 W5 W6 W7 CN B3z CC B3x D4a CE C1 C2 C3 C4 C5 CR fX aS RO B3y D3k D4x:Addr}(X:K.In h)(G:h.Ns mainGlobals mg)(hfa:mg "law"=some (.ref fa))(gc:Fa K "product_of" A3j)(nj:Fa K "ten_to" A4m)(mo:Fa K "part_of" A9n)(nr:Fa K "whole_lead" B0d)(nv:Fa K "whole_root" B4g)(ny:Fa K "plain" B5d)(q_:Fa K "end" C6c)(jv:Fa K "nothing" A2v)(p7:Fa K "told" C1b)(p8:Fa K "lead_of" C2j)(n_:Fa K "need_number" B0b)(r9:Fa K "is_between" C0m)(jw:Fa K "need_between" A4j)(jx:Fa K "settled" A6g)(mq:Fa K "finest_power" A9f)(jy:Fa K "nearest_to" A6f)(gd:Fa K "neighbour" A3n)(mr:Fa K "within_room" A9k)(mt:Fa K "is_beyond" A9s)(o0:Fa K "burst" B5g)(o8:Fa K "nines" B4x)(jz:Fa K "signals_of_rest" A6s)(j_:Fa K "signals_of_lead" A6c)(mv:Fa K "nought" A9t)(pc:Fa K "void" C0z)(pd:Fa K "root" C2b)(o9:Fa K "way_of" B1j)(k7:Fa K "bounded" A6w)(og:Fa K "need_signals" B0n)(oh:Fa K "in_order" B0g)(pf:Fa K "_law_cell_at" C2x)(oj:Fa K "_law_mixed" A3v)(ph:Fa K "_law_ten" A8r)(mw:Fa K "_law_whole" A9h)(pi:Fa K "_law_number" A4v)(om:Fa K "_law_made" B0c)(mx:Fa K "_law_rules" A6b)(k8:Fa K "_law_scaled" A3c)(on:Fa K "_law_lead" B0v)(oq:Fa K "_law_goes_up" B4p)(my:Fa K "_law_burst" A6m)(pj:Fa K "_law_finished" A1z)(k9:Fa K "_law_nought" A6q)(ka:Fa K "_law_called" A4g)(rc:Fa K "_law_is" C6j)(mz:Fa K "_law_right" A9j)(pk:Fa K "_law_refused" A9d)(m_:Fa K "_law_traps" A9e)(ot:Fa K "_law_half" B4m)(ou:Fa K "_law_root" B4w)(kc:Fa K "_law_square" A6v){G3y D2f:Option Addr}{G3f:Array (Option Value)}{G3c D2s D3v D4b C0r D2p:Value}(C3c:nsIn K mainGlobals "law"=some (some (.ref D4x)))(D4n:K.lookup D4x=some ⟨G3c,G3y,.func (fnOf "law" "law" (U3 B4t) (J9 B4t) (A5 B4t) .none D2s D3v D4b D2f C0r D2p),G3f⟩)(D0w:codeIn K C0r "law"=true)(D2a:keepIn K (.ref D4x)=true)(re:G2h K)(T:Kit K)(sn:specialIn K (.builtin "object.__class__") "__get__"=some (some (.builtin "getset_descriptor.__get__")))(tk:takesIn K (.builtin "object.__class__")=some true)(G7s:nsIn K mainGlobals "Way"=some (some (.ref CW)))(G3d:nsIn K mainGlobals "Down"=some (some (.ref W0)))(D2u:Cls K W0)(D0q:makesIn K W0=true)(D0t:keepIn K (.ref W0)=true)(D0n:findIn K (.ref W0) "__class__"=some (some (.builtin "object.__class__")))(D2e:mroIn K W0 (.type "object")=some true)(D3b:findIn K (.ref W0) "__init__"=some (some (.builtin "object.__init__")))(D4d:kitOne K (.ref W0) (.ref CW)=some true)(ke:Fb K W0 "name" "Down.name" sN0)(G4c:nsIn K mainGlobals "Up"=some (some (.ref W1)))(D4k:Cls K W1)(D0p:makesIn K W1=true)(D1y:keepIn K (.ref W1)=true)(D1d:findIn K (.ref W1) "__class__"=some (some (.builtin "object.__class__")))(D1r:mroIn K W1 (.type "object")=some true)(D0j:findIn K (.ref W1) "__init__"=some (some (.builtin "object.__init__")))(D1t:kitOne K (.ref W1) (.ref CW)=some true)(kf:Fb K W1 "name" "Up.name" sN1)(G3e:nsIn K mainGlobals "Floor"=some (some (.ref W2)))(D5a:Cls K W2)(D1b:makesIn K W2=true)(D1w:keepIn K (.ref W2)=true)(D4p:findIn K (.ref W2) "__class__"=some (some (.builtin "object.__class__")))(D1a:mroIn K W2 (.type "object")=some true)(D2y:findIn K (.ref W2) "__init__"=some (some (.builtin "object.__init__")))(D2q:kitOne K (.ref W2) (.ref CW)=some true)(kg:Fb K W2 "name" "Floor.name" sN2)(G3a:nsIn K mainGlobals "Ceiling"=some (some (.ref W3)))(D2h:Cls K W3)(D4v:makesIn K W3=true)(D1z:keepIn K (.ref W3)=true)(D4m:findIn K (.ref W3) "__class__"=some (some (.builtin "object.__class__")))(D1j:mroIn K W3 (.type "object")=some true)(D2t:findIn K (.ref W3) "__init__"=some (some (.builtin "object.__init__")))(D2v:kitOne K (.ref W3) (.ref CW)=some true)(kh:Fb K W3 "name" "Ceiling.name" sN3)(G3k:nsIn K mainGlobals "HalfUp"=some (some (.ref W4)))(D0s:Cls K W4)(D2b:makesIn K W4=true)(D3r:keepIn K (.ref W4)=true)(D2m:findIn K (.ref W4) "__class__"=some (some (.builtin "object.__class__")))(D3n:mroIn K W4 (.type "object")=some true)(D0x:findIn K (.ref W4) "__init__"=some (some (.builtin "object.__init__")))(D4t:kitOne K (.ref W4) (.ref CW)=some true)(ki:Fb K W4 "name" "HalfUp.name" sN4)(G3w:nsIn K mainGlobals "HalfDown"=some (some (.ref W5)))(D3m:Cls K W5)(D1p:makesIn K W5=true)(D3t:keepIn K (.ref W5)=true)(D3g:findIn K (.ref W5) "__class__"=some (some (.builtin "object.__class__")))(D3w:mroIn K W5 (.type "object")=some true)(D2z:findIn K (.ref W5) "__init__"=some (some (.builtin "object.__init__")))(D0z:kitOne K (.ref W5) (.ref CW)=some true)(kj:Fb K W5 "name" "HalfDown.name" sN5)(G2p:nsIn K mainGlobals "HalfEven"=some (some (.ref W6)))(D3u:Cls K W6)(D1u:makesIn K W6=true)(D4u:keepIn K (.ref W6)=true)(D0m:findIn K (.ref W6) "__class__"=some (some (.builtin "object.__class__")))(D3j:mroIn K W6 (.type "object")=some true)(D0v:findIn K (.ref W6) "__init__"=some (some (.builtin "object.__init__")))(D4q:kitOne K (.ref W6) (.ref CW)=some true)(km:Fb K W6 "name" "HalfEven.name" sN6)(G3g:nsIn K mainGlobals "FiveUp"=some (some (.ref W7)))(D4w:Cls K W7)(D2d:makesIn K W7=true)(D0k:keepIn K (.ref W7)=true)(D3p:findIn K (.ref W7) "__class__"=some (some (.builtin "object.__class__")))(D3y:mroIn K W7 (.type "object")=some true)(D1h:findIn K (.ref W7) "__init__"=some (some (.builtin "object.__init__")))(D3f:kitOne K (.ref W7) (.ref CW)=some true)(kn:Fb K W7 "name" "FiveUp.name" sN7)(G2z:nsIn K mainGlobals "Number"=some (some (.ref CN)))(D2g:Cls K CN)(D1x:makesIn K CN=true)(D3z:keepIn K (.ref CN)=true)(D4s:findIn K (.ref CN) "__class__"=some (some (.builtin "object.__class__")))(D4g:mroIn K CN (.type "object")=some true)(A8f:findIn K (.ref CN) "kind"=some none)(A8h:findIn K (.ref CN) "sign"=some none)(A3z:findIn K (.ref CN) "figures"=some none)(A5y:findIn K (.ref CN) "power"=some none)(D0y:findIn K (.ref CN) "__init__"=some (some (.ref B3z)))(D2w:isFn K (.ref B3z)=true){G3s G4d:Option Addr}{G2m:Array (Option Value)}{G2r G3r G3h G2n D2n G3n:Value}(D4h:K.lookup B3z=some ⟨G2r,G3s,.func (fnOf "__init__" "Number.__init__" (U3 B3j) (J9 B3j) (A5 B3j) .none G3r G3h G2n G4d D2n G3n),G2m⟩)(D1m:codeIn K D2n "Number.__init__"=true)(D4z:keepIn K (.ref B3z)=true)(B5v:kitOne K (.ref CN) (.ref CN)=some true)(bo:Fb K W0 "goes_up" "Down.goes_up" sU0)(gi:Fb K W0 "to_end" "Down.to_end" sT0)(br:Fb K W1 "goes_up" "Up.goes_up" sU1)(gj:Fb K W1 "to_end" "Up.to_end" sT1)(bt:Fb K W2 "goes_up" "Floor.goes_up" sU2)(gk:Fb K W2 "to_end" "Floor.to_end" sT2)(bw:Fb K W3 "goes_up" "Ceiling.goes_up" sU3)(gl:Fb K W3 "to_end" "Ceiling.to_end" sT3)(bx:Fb K W4 "goes_up" "HalfUp.goes_up" sU4)(gm:Fb K W4 "to_end" "HalfUp.to_end" sT4)(bz:Fb K W5 "goes_up" "HalfDown.goes_up" sU5)(gn:Fb K W5 "to_end" "HalfDown.to_end" sT5)(b_:Fb K W6 "goes_up" "HalfEven.goes_up" sU6)(gq:Fb K W6 "to_end" "HalfEven.to_end" sT6)(c4:Fb K W7 "goes_up" "FiveUp.goes_up" sU7)(gr:Fb K W7 "to_end" "FiveUp.to_end" sT7)(G2v:nsIn K mainGlobals "Context"=some (some (.ref CC)))(D3d:Cls K CC)(D4e:makesIn K CC=true)(D0r:keepIn K (.ref CC)=true)(A8d:findIn K (.ref CC) "room"=some none)(A8e:findIn K (.ref CC) "rule"=some none)(A5w:findIn K (.ref CC) "least"=some none)(A8g:findIn K (.ref CC) "most"=some none)(A5z:findIn K (.ref CC) "risen"=some none)(A3y:findIn K (.ref CC) "trapped"=some none)(D1f:findIn K (.ref CC) "__init__"=some (some (.ref B3x)))(D1v:isFn K (.ref B3x)=true){G2u D1c:Option Addr}{G3p:Array (Option Value)}{G2t D4j D2x D1g C0q D4r:Value}(D3h:K.lookup B3x=some ⟨G2t,G2u,.func (fnOf "__init__" "Context.__init__" (U3 A0w) (J9 A0w) (A5 A0w) (.ref D4a) D4j D2x D1g D1c C0q D4r),G3p⟩)(D1n:codeIn K C0q "Context.__init__"=true)(D3c:keepIn K (.ref B3x)=true){G8p G7k G7u:Tok}{G7m:Nat}{G2s:Option Addr}{G3x:Value}{G2y:Array (Option Value)}(D2j:K.lookup D4a=some ⟨G3x,G2s,.seq #[.int 9 G8p,.str "half even" G7k,.none,.int 60 G7u] G7m,G2y⟩)(j6:Fb K CC "flags" "Context.flags" A7j)(gt:Fb K CC "lowest" "Context.lowest" B5q)(n8:Fb K CC "way" "Context.way" B4a)(gu:Fb K CC "raised" "Context.raised" A5s)(j7:Fb K CC "clear" "Context.clear" A7x)(G3v:nsIn K mainGlobals "Exact"=some (some (.ref CE)))(D8t:nsIn K mainGlobals "BadContext"=some (some (.ref C1)))(D8w:nsIn K mainGlobals "BadNumber"=some (some (.ref C2)))(D8v:nsIn K mainGlobals "NoText"=some (some (.ref C3)))(D8r:nsIn K mainGlobals "BadCount"=some (some (.ref C4)))(D3q:nsIn K mainGlobals "Trapped"=some (some (.ref C5)))(D8s:nsIn K mainGlobals "ReckonError"=some (some (.ref CR)))(cty:typeIn K (.ref CR)=some (.type "type")){dR:ClassData}(ccl:clsIn K CR=some dR)(cex:subIn K (.ref CR) (.type "BaseException")=some true)(sub5:subIn K (.ref C5) (.ref CR)=some true)(xga5:findIn K (.ref C5) "__getattribute__"=some (some (.builtin "BaseException.__getattribute__")))(xgh5:findIn K (.ref C5) "__getattr__"=some none)(xca5:findIn K (.ref C5) "__class__"=some (some (.builtin "object.__class__")))(xob5:mroIn K C5 (.type "object")=some true)(xbe5:subIn K (.ref C5) (.type "BaseException")=some true){d5:ClassData}(xcl5:clsIn K C5=some d5)(G8q:kitOne K (.ref C5) (.ref C1)=some false)(G7t:kitOne K (.ref C5) (.ref C2)=some false)(G7q:kitOne K (.ref C5) (.ref C3)=some false)(G7z:kitOne K (.ref C5) (.ref C4)=some false)(G8m:kitOne K (.ref C5) (.ref C5)=some true)(hv5:kitOne K (.ref C5) (.type "ValueError")=some true){nmT qT:Str}{NT:Addr}{bsT bmT:List Value}{snT:List Str}{suT:List Value}{abT:Bool}{coT:Option Bool}{ddT:Option Addr}{kT0 kT1 kT2 kT3 kT5:Option Value}(lT:K.lookup C5=some (excClassObj nmT qT C5 NT bsT bmT true snT suT abT coT ddT kT0 kT1 kT2 kT3 kT5 "ValueError.__new__")){ocN:Value}{odN:Option Addr}{esN:Array DictEntry}{epN:Nat}{slN:Array (Option Value)}(lN:K.lookup NT=some ⟨ocN,odN,.dict esN epN,slN⟩)(alN:(esN.all fun e=>match e.key with| .str _ _=>true|_=>false)=true)(niT:nsIn K NT "__init__"=some (some (.ref fX))){nmU qU:Str}{NU:Addr}{bsU:List Value}{snU:List Str}{suU:List Value}{abU:Bool}{coU:Option Bool}{ddU:Option Addr}{kU0 kU1 kU2 kU3 kU5:Option Value}(lT1:K.lookup C1=some (excClassObj nmU qU C1 NU bsU bmT true snU suU abU coU ddU kU0 kU1 kU2 kU3 kU5 "ValueError.__new__"))(saT:findIn K (.ref C5) "__setattr__"=some (some (.builtin "object.__setattr__")))(nsg5:findIn K (.ref C5) "signal"=some none){G8c G8f:Option Addr}{G8e:Array (Option Value)}{D9m G8d G8r G7x D9k G8b:Value}(D8u:K.lookup fX=some ⟨D9m,G8c,.func (fnOf "__init__" "Trapped.__init__" (U3 A5a) (J9 A5a) (A5 A5a) .none G8d G8r G7x G8f D9k G8b),G8e⟩)(G2q:codeIn K D9k "Trapped.__init__"=true)(G2k:keepIn K (.ref fX)=true)(fcT:D9m= .type "function")(kTR:kitOne K (.ref C5) (.ref CR)=some true)(q1:excIn K C1 [.type "ValueError",.type "Exception",.type "BaseException",.type "object"] "ValueError.__new__"=true)(q2:excIn K C2 [.type "ValueError",.type "Exception",.type "BaseException",.type "object"] "ValueError.__new__"=true)(q3:excIn K C3 [.type "ValueError",.type "Exception",.type "BaseException",.type "object"] "ValueError.__new__"=true)(q4:excIn K C4 [.type "ValueError",.type "Exception",.type "BaseException",.type "object"] "ValueError.__new__"=true)(a_S:nsIn K mainGlobals "SIGNALS"=some (some (.ref aS))){u0 u1 u2 u3 u4 u5 u6:Tok}{nS:Nat}{odS:Option Addr}{slS:Array (Option Value)}(lS:K.lookup aS=some ⟨.type "tuple",odS,.seq #[.str "void" u0,.str "split" u1,.str "burst" u2,.str "sunk" u3,.str "faint" u4,.str "off" u5,.str "cut" u6] nS,slS⟩)(ko:Fb K CC "trap" "Context.trap" B0w)(A4x:kitOne K (.type "NoneType") (.ref CN)=some false)(C0t:kitOne K (.type "int") (.ref CN)=some false)(C0s:kitOne K (.type "str") (.ref CN)=some false)(B5s:kitOne K (.type "bool") (.ref CN)=some false)(B2e:kitOne K (.type "tuple") (.ref CN)=some false)(B5t:kitOne K (.type "list") (.ref CN)=some false)(B5u:kitOne K (.type "dict") (.ref CN)=some false)(sub2:subIn K (.ref C2) (.ref CR)=some true)(xga2:findIn K (.ref C2) "__getattribute__"=some (some (.builtin "BaseException.__getattribute__")))(xgh2:findIn K (.ref C2) "__getattr__"=some none)(xca2:findIn K (.ref C2) "__class__"=some (some (.builtin "object.__class__")))(xob2:mroIn K C2 (.type "object")=some true)(xbe2:subIn K (.ref C2) (.type "BaseException")=some true){d2:ClassData}(xcl2:clsIn K C2=some d2)(G3q:kitOne K (.ref C2) (.ref C1)=some false)(G4e:kitOne K (.ref C2) (.ref C2)=some true)(G3m:kitOne K (.ref C2) (.ref C3)=some false)(G3z:kitOne K (.ref C2) (.ref C4)=some false)(G4b:kitOne K (.ref C2) (.ref C5)=some false)(hv2:kitOne K (.ref C2) (.type "ValueError")=some true)(tyT:typeIn K (.ref C5)=some (.type "type"))(subT:subIn K (.ref C5) (.ref C5)=some true)(G2w:nsIn K mainGlobals "Root"=some (some (.ref RO)))(D1s:Cls K RO)(D3s:makesIn K RO=true)(D4c:keepIn K (.ref RO)=true)(D5b:findIn K (.ref RO) "__class__"=some (some (.builtin "object.__class__")))(D0u:mroIn K RO (.type "object")=some true)(B2d:findIn K (.ref RO) "top"=some none)(A5x:findIn K (.ref RO) "power"=some none)(D2c:findIn K (.ref RO) "__init__"=some (some (.ref B3y)))(D3e:isFn K (.ref B3y)=true){G4a D2k:Option Addr}{G3t:Array (Option Value)}{G3u D1q D4y D4f C0u D3a:Value}(D1k:K.lookup B3y=some ⟨G3u,G4a,.func (fnOf "__init__" "Root.__init__" (U3 A3s) (J9 A3s) (A5 A3s) (.ref D3k) D1q D4y D4f D2k C0u D3a),G3t⟩)(D3x:codeIn K C0u "Root.__init__"=true)(D1e:keepIn K (.ref B3y)=true){D9n:Tok}{G7n:Nat}{G2x:Option Addr}{G3j:Value}{G3b:Array (Option Value)}(B8c:K.lookup D3k=some ⟨G3j,G2x,.seq #[.int 0 D9n] G7n,G3b⟩)(j8:Fb K RO "first" "Root.first" B0p)(ow:Fb K RO "at" "Root.at" C9j)(D2r:kitOne K (.ref RO) (.ref CE)=some true):∃fd:FuncData,(∀(s:Shared) (v:Value),BindsTo s fd ⟨[v],[]⟩ [("_law_script",v)])/\∀base:Heap,K.In base ->base.Ns mainGlobals mg ->G8 l.prog w K mg base (CX1 l.prog w) 11 fa fd ["_law_script"] (C1j K):=by
 have e:=hfa.symm.trans (mg_of X G C3c)
 cases e
 obtain⟨ql,_,ai⟩:=gc.go2 X G
 obtain⟨vc,_,ac⟩:=nj.go1 X G
 obtain⟨tw,_,c5⟩:=mo.go2 X G
 obtain⟨vd,_,am⟩:=nr.go1 X G
 obtain⟨ve,_,iq⟩:=nv.go1 X G
 obtain⟨vf,_,ir⟩:=ny.go3 X G
 obtain⟨wd,_,j9⟩:=q_.go1 X G
 obtain⟨rq,_,ae⟩:=jv.go0 X G
 obtain⟨vx,_,kq⟩:=p7.go1 X G
 obtain⟨vz,_,kt⟩:=p8.go1 X G
 obtain⟨vg,_,ao⟩:=n_.go1 X G
 obtain⟨we,_,ja⟩:=r9.go3 X G
 obtain⟨rz,_,au⟩:=jw.go3 X G
 obtain⟨r_,_,av⟩:=jx.go4 X G
 obtain⟨tx,_,c6⟩:=mq.go2 X G
 obtain⟨sh,_,aw⟩:=jy.go4 X G
 obtain⟨qm,_,aj⟩:=gd.go3 X G
 obtain⟨tz,_,c7⟩:=mr.go4 X G
 obtain⟨t_,_,c8⟩:=mt.go2 X G
 obtain⟨vh,_,iu⟩:=o0.go2 X G
 obtain⟨vi,_,iw⟩:=o8.go2 X G
 obtain⟨sj,_,ay⟩:=jz.go2 X G
 obtain⟨sk,_,az⟩:=j_.go3 X G
 obtain⟨u7,_,c9⟩:=mv.go3 X G
 obtain⟨v_,_,ku⟩:=pc.go1 X G
 obtain⟨w4,_,ky⟩:=pd.go2 X G
 obtain⟨vj,_,ap⟩:=o9.go1 X G
 obtain⟨ss,_,a_⟩:=k7.go3 X G
 obtain⟨vk,_,aq⟩:=og.go1 X G
 obtain⟨vn,_,ar⟩:=oh.go1 X G
 obtain⟨w6,_,kz⟩:=pf.go2 X G
 obtain⟨vo,_,aa⟩:=oj.go2 X G
 obtain⟨w8,_,af⟩:=ph.go1 X G
 obtain⟨u8,_,cb⟩:=mw.go1 X G
 obtain⟨w9,_,k_⟩:=pi.go1 X G
 obtain⟨vp,_,iy⟩:=om.go1 X G
 obtain⟨u9,_,cf⟩:=mx.go1 X G
 obtain⟨sv,_,ag⟩:=k8.go3 X G
 obtain⟨vq,_,iz⟩:=on.go2 X G
 obtain⟨vt,_,i_⟩:=oq.go4 X G
 obtain⟨ua,_,cg⟩:=my.go2 X G
 obtain⟨wa,_,l7⟩:=pj.go7 X G
 obtain⟨sw,_,b6⟩:=k9.go3 X G
 obtain⟨sx,_,ah⟩:=ka.go3 X G
 obtain⟨wg,_,jb⟩:=rc.go2 X G
 obtain⟨ub,_,ci⟩:=mz.go6 X G
 obtain⟨wb,_,l9⟩:=pk.go3 X G
 obtain⟨uc,_,cj⟩:=m_.go1 X G
 obtain⟨vv,_,j3⟩:=ot.go1 X G
 obtain⟨vw,_,j4⟩:=ou.go2 X G
 obtain⟨sy,_,b7⟩:=kc.go1 X G
 have G7v:=A4n (ps:=["_law_script"]) (st:=B4t) X G C3c D4n D0w D2a fun _ _ _ _ _ _ us hl=>match us,hl with| [_],_=>rfl
 have O:Own mg:=re.go X G
 have G7r:Mk0 K W0:=⟨D0q,D3b,D0t⟩
 obtain⟨s_,_,le,lf,jc⟩:=ke.go1
 have WC0:A9c K mg "Down" W0 CW:=⟨mg_of X G G3d,D2u,G7r,D0n,sn,tk,D2e,D4d⟩
 have G7y:Mk0 K W1:=⟨D0p,D0j,D1y⟩
 obtain⟨t7,_,lh,li,jd⟩:=kf.go1
 have WC1:A9c K mg "Up" W1 CW:=⟨mg_of X G G4c,D4k,G7y,D1d,sn,tk,D1r,D1t⟩
 have G7p:Mk0 K W2:=⟨D1b,D2y,D1w⟩
 obtain⟨t8,_,lj,lq,je⟩:=kg.go1
 have WC2:A9c K mg "Floor" W2 CW:=⟨mg_of X G G3e,D5a,G7p,D4p,sn,tk,D1a,D2q⟩
 have G7j:Mk0 K W3:=⟨D4v,D2t,D1z⟩
 obtain⟨t9,_,ls,lv,jf⟩:=kh.go1
 have WC3:A9c K mg "Ceiling" W3 CW:=⟨mg_of X G G3a,D2h,G7j,D4m,sn,tk,D1j,D2v⟩
 have G8g:Mk0 K W4:=⟨D2b,D0x,D3r⟩
 obtain⟨tf,_,lw,ly,jg⟩:=ki.go1
 have WC4:A9c K mg "HalfUp" W4 CW:=⟨mg_of X G G3k,D0s,G8g,D2m,sn,tk,D3n,D4t⟩
 have G8a:Mk0 K W5:=⟨D1p,D2z,D3t⟩
 obtain⟨tj,_,l_,m7,jh⟩:=kj.go1
 have WC5:A9c K mg "HalfDown" W5 CW:=⟨mg_of X G G3w,D3m,G8a,D3g,sn,tk,D3w,D0z⟩
 have G8k:Mk0 K W6:=⟨D1u,D0v,D4u⟩
 obtain⟨tm,_,m8,ma,ji⟩:=km.go1
 have WC6:A9c K mg "HalfEven" W6 CW:=⟨mg_of X G G2p,D3u,G8k,D0m,sn,tk,D3j,D4q⟩
 have G8h:Mk0 K W7:=⟨D2d,D1h,D0k⟩
 obtain⟨tq,_,md,mh,jj⟩:=kn.go1
 have WC7:A9c K mg "FiveUp" W7 CW:=⟨mg_of X G G3g,D4w,G8h,D3p,sn,tk,D3y,D3f⟩
 let cw:Wy ->Addr:=fun y=>match y with| .down=>W0| .up=>W1| .floor=>W2| .ceiling=>W3| .halfUp=>W4| .halfDown=>W5| .halfEven=>W6| .fiveUp=>W7
 have W:∀y:Wy,A9c K mg y.cls (cw y) CW:=fun y=>match y with| .down=>WC0| .up=>WC1| .floor=>WC2| .ceiling=>WC3| .halfUp=>WC4| .halfDown=>WC5| .halfEven=>WC6| .fiveUp=>WC7
 have ni:=A2s (st:=B3j) D4h D1m D4z
 have G8n:=ni.binds (ps:=["self","kind","sign","figures","power"]) fun _ _ _ _ _ _ us hl=>match us,hl with| [_,_,_,_,_],_=>rfl
 have J1b:Mk K CN B3z:=⟨D1x,D0y,D2w,D3z⟩
 have N:Num K mg CN:=⟨mg_of X G G2z,D2g,A8f,A8h,A3z,A5y,D4s,sn,tk,D4g,B5v⟩
 obtain⟨pp,_,cm,cn,b8⟩:=bo.go4
 obtain⟨qo,_,gv,gw,cp⟩:=gi.go2
 obtain⟨pq,_,cq,cu,b9⟩:=br.go4
 obtain⟨qp,_,gx,gy,cx⟩:=gj.go2
 obtain⟨pr,_,cy,cz,ba⟩:=bt.go4
 obtain⟨qr,_,gz,g_,c_⟩:=gk.go2
 obtain⟨px,_,d3,d4,bc⟩:=bw.go4
 obtain⟨qt,_,h6,h_,d9⟩:=gl.go2
 obtain⟨pz,_,db,df,bd⟩:=bx.go4
 obtain⟨qu,_,i0,i4,dg⟩:=gm.go2
 obtain⟨p_,_,dh,dj,bg⟩:=bz.go4
 obtain⟨qv,_,i5,i6,dk⟩:=gn.go2
 obtain⟨qc,_,dm,dv,bh⟩:=b_.go4
 obtain⟨qw,_,i7,i8,dw⟩:=gq.go2
 obtain⟨qd,_,d_,eg,bi⟩:=c4.go4
 obtain⟨qx,_,i9,ia,e_⟩:=gr.go2
 have G8j:=C0w (st:=A0w) D3h D1n D3c
 have J1a:Mk K CC B3x:=⟨D4e,D1f,D1v,D0r⟩
 obtain⟨rf,_,jk,jm,ib⟩:=j6.go1
 obtain⟨qy,_,ie,ig,g8⟩:=gt.go1
 obtain⟨ue,_,n9,ng,mi⟩:=n8.go1
 obtain⟨qz,_,ii,ij,g9⟩:=gu.go2
 obtain⟨rg,_,jn,jo,io⟩:=j7.go1
 have xk5:B5r K C5:=⟨xga5,xgh5,xca5,sn,tk,xob5,xbe5,by rw[xcl5];rfl⟩
 have nkT:nsOkIn K NT=true:=by unfold nsOkIn;rw[lN];exact alN
 have tlT:tailIn K C1v bmT=true:=by
   have z:=q1
   unfold excIn at z
   rw[lT1] at z
   simp only[excClassObj,Bool.and_eq_true] at z
   exact z.1.1.2
 have qe:=A2s (st:=A5a) D8u G2q G2k
 have J1d:=qe.binds (ps:=["self","signal"]) fun _ _ _ _ _ _ us hl=>match us,hl with| [_,_],_=>rfl
 have XI5:C0p K C5 fX:=⟨⟨_,_,_,_,_,_,_,_,_,_,_,_,_,_,_,lT,nkT,niT,tlT⟩,⟨_,D8u,fcT⟩,saT,xob5⟩
 have SG:C5w K mg aS:=⟨mg_of X G a_S,⟨_,lS,rfl⟩,fun H=> .inr ⟨_,_,_,lS,rfl,rfl,D0 (by show 7<=1000;decide),.cons ⟨_,rfl⟩ (.cons ⟨_,rfl⟩ (.cons ⟨_,rfl⟩ (.cons ⟨_,rfl⟩ (.cons ⟨_,rfl⟩ (.cons ⟨_,rfl⟩ (.cons ⟨_,rfl⟩ (.nil)))))))⟩⟩
 obtain⟨tt,_,mj,ml,jp⟩:=ko.go2
 have O4:G2j K CN:=⟨A4x,C0t,C0s,B5s,B2e,B5t,B5u,T.list_tuple⟩
 have xk2:B5r K C2:=⟨xga2,xgh2,xca2,sn,tk,xob2,xbe2,by rw[xcl2];rfl⟩
 have G7w:=C0w (st:=A3s) D1k D3x D1e
 have J1c:Mk K RO B3y:=⟨D3s,D2c,D3e,D4c⟩
 obtain⟨jq,_,jr,jt,ip⟩:=j8.go1
 obtain⟨oy,_,oz,o_,nh⟩:=ow.go2
 have C:B2b K mg CC:=⟨mg_of X G G2v,D3d,A8d,A8e,A5w,A8g,A5z,A3y⟩
 have B1:Err K mg "BadContext" C1:=⟨mg_of X G D8t,q1⟩
 have B2:Err K mg "BadNumber" C2:=⟨mg_of X G D8w,q2⟩
 have B3:Err K mg "NoText" C3:=⟨mg_of X G D8v,q3⟩
 have B4:Err K mg "BadCount" C4:=⟨mg_of X G D8r,q4⟩
 have b4:=C0f (fd:=fnOf "__init__" "Context.__init__" (U3 A0w) (J9 A0w) (A5 A0w) (.ref D4a) D4j D2x D1g D1c C0q D4r) (ps:=["self","room","way","least","most"]) (ds:=[]) rfl D2j rfl fun us hl=>by obtain⟨a,b,c,d,e,rfl⟩:=J0q (D5g hl);exact⟨_,rfl,rfl⟩
 refine⟨fnOf "law" "law" (U3 B4t) (J9 B4t) (A5 B4t) .none D2s D3v D4b D2f C0r D2p,fun s v=> .of_eq rfl,fun base _ _=>?_⟩
 have WN:∀y:Wy,G6h l.prog w K mg base (cw y) y.name:=fun y=>match y with| .down=>⟨_,_,jc,G4m le,lf⟩| .up=>⟨_,_,jd,G7e lh,li⟩| .floor=>⟨_,_,je,G4h lj,lq⟩| .ceiling=>⟨_,_,jf,G4q ls,lv⟩| .halfUp=>⟨_,_,jg,G4t lw,ly⟩| .halfDown=>⟨_,_,jh,G6r l_,m7⟩| .halfEven=>⟨_,_,ji,G5m m8,ma⟩| .fiveUp=>⟨_,_,jj,G4k md,mh⟩
 have U:∀y:Wy,G6s l.prog w K mg base (cw y) y:=fun y=>match y with| .down=>⟨_,_,b8,G5h cm,cn⟩| .up=>⟨_,_,b9,G5s cq,cu⟩| .floor=>⟨_,_,ba,G4j cy,cz⟩| .ceiling=>⟨_,_,bc,G5j d3,d4⟩| .halfUp=>⟨_,_,bd,G6e db,df⟩| .halfDown=>⟨_,_,bg,G5v dh,dj⟩| .halfEven=>⟨_,_,bh,G6d dm,dv⟩| .fiveUp=>⟨_,_,bi,G6a d_,eg⟩
 have E2:∀y:Wy,G6f l.prog w K mg base (cw y) y:=fun y=>match y with| .down=>⟨_,_,cp,G5u gv,gw⟩| .up=>⟨_,_,cx,G4n gx,gy⟩| .floor=>⟨_,_,c_,G5w gz,g_⟩| .ceiling=>⟨_,_,d9,G6y h6,h_⟩| .halfUp=>⟨_,_,dg,G7c i0,i4⟩| .halfDown=>⟨_,_,dk,G7d i5,i6⟩| .halfEven=>⟨_,_,dw,G5t i7,i8⟩| .fiveUp=>⟨_,_,e_,G6m i9,ia⟩
 have Gb:=B8g (P:=l.prog) (w:=w) (base:=base) a_ ja O T B1
 have Gw:=C6k (P:=l.prog) (w:=w) (base:=base) ap O T B1 W
 have MC:G7h l.prog w K mg base CC C1 B3x _:=⟨J1a,B8q G8j a_ ap Gb Gw C W WN⟩
 have M:A8x l.prog w K mg base CN B3z _:=⟨J1b,D5z ni N,G8n⟩
 have Gn:=C8t (P:=l.prog) (w:=w) (base:=base) aq O T B1 SG
 have Go:=C7c (P:=l.prog) (w:=w) (base:=base) ar SG
 have GX:=C5k (P:=l.prog) (w:=w) (mg:=mg) (base:=base) qe XI5 nsg5
 have MF:A6y l.prog w K mg base CC "flags" 1 ["self"] (A3r CC):=⟨_,_,ib,B6h jk C O,jm⟩
 have ML:A6y l.prog w K mg base CC "lowest" 1 ["self"] (B1h CC):=⟨_,_,g8,C3m ie C,ig⟩
 have MW:A6y l.prog w K mg base CC "way" 2 ["self"] (B0q CC cw):=⟨_,_,mi,C5m n9 ap Gw C,ng⟩
 have ME:Has l.prog w K mg base CC "clear" 1 ["self"] (A5t CC):=⟨_,_,io,B7e jn C,jo⟩
 have MD:A6y l.prog w K mg base CC "raised" 3 ["self","names"] (B1c K CC C1 C5):=⟨_,_,g9,C3e ii aq Gn ar Go C (mg_of X G D3q) XI5 GX J1d,ij⟩
 have CM:B1y l.prog w K mg base CC C1 C5 CW cw:=⟨C,MW,ML,MD,W,U,E2⟩
 have qf:=B7v (P:=l.prog) (w:=w) (base:=base) ao O T B2 N
 have rh:=D5m (P:=l.prog) (w:=w) (base:=base) kq ao O T B2 N
 have qg:=C9u (P:=l.prog) (w:=w) (base:=base) ir au ja O T B2 N M
 have qh:=G0s (P:=l.prog) (w:=w) (base:=base) j9 au ja O T B2 N M
 have ak:=B8z (P:=l.prog) (w:=w) (base:=base) ae N M
 have ri:=D7p (P:=l.prog) (w:=w) (base:=base) kt O N
 have Gto:=C9p (P:=l.prog) (w:=w) (base:=base) ac ai (B4v ai)
 have rj:=C3u (P:=l.prog) (w:=w) (base:=base) c5
 have Gwl:=C6z (P:=l.prog) (w:=w) (base:=base) am ac Gto
 have ug:=B9q (P:=l.prog) (w:=w) (base:=base) aw N M
 have uh:=B5j (P:=l.prog) (w:=w) (base:=base) aj CM
 have ui:=C4x (P:=l.prog) (w:=w) (base:=base) c7 ac Gto CM N M
 have uj:=C4b (P:=l.prog) (w:=w) (base:=base) c8 kt ri CM N
 have uk:=C7m (P:=l.prog) (w:=w) (base:=base) iw ac Gto CM N M
 have ul:=C5z (P:=l.prog) (w:=w) (base:=base) iu iw uk j9 qh CM
 have Gsr:=C0e (P:=l.prog) (w:=w) (base:=base) ay
 have Gsl:=B9m (P:=l.prog) (w:=w) (base:=base) az CM
 have um:=C3z (P:=l.prog) (w:=w) (base:=base) c9 CM N M O
 have RQ:C5u K mg RO CE:=⟨mg_of X G G2w,mg_of X G G3v,D1s,B2d,A5x,D5b,sn,tk,D0u,D2r⟩
 have MQ : D9j l.prog w K mg base RO B3y (fnOf "__init__" "Root.__init__" (U3 A3s) (J9 A3s) (A5 A3s) (.ref D3k) D1q D4y D4f D2k C0u D3a) (.int 0 D9n) (fun us ws=>match ws with| [a]=>us++ [a]|_=>[]) (fun us ws=>match ws with| [a]=>us++ [a]|_=>[]):=
   { m :=J1c
     g:=C6e G7w RQ
     b3:=C0f rfl B8c rfl fun us hl=>by obtain⟨a,b,c,rfl⟩:=G5f (D5g hl);exact⟨_,rfl,rfl⟩
     b2:=C0f rfl B8c rfl fun us hl=>by obtain⟨a,b,rfl⟩:=G0k (D5g hl);exact⟨_,rfl,rfl⟩
     r0:=⟨_,rfl⟩
     kP := ⟨(fun s us ws XK hl=>by
         rcases ws with _|⟨p,_|⟨q,t⟩⟩
         . cases hl
         . obtain⟨a,b,rfl⟩:=G0k (D5g hl)
           exact binds_K XK rfl B8c rfl rfl rfl
         . cases hl),fun r z=>match z with
       | .cons a .nil=>r.append (.cons a .nil)
       | .nil=> .nil
       | .cons _ (.cons _ _)=> .nil⟩
     eP:=fun _ _ _=>rfl}
 have QM:G7g l.prog w K mg base RO jq oy _ _:=⟨ip,C4m jr am Gwl RQ,jt,nh,G0b oz ac Gto c5 rj iq (C7v iq ac Gto am Gwl) RQ O,o_⟩
 have XQ:=G8t QM RQ
 have GsQ:=B6p (CE:=CE) (P:=l.prog) (w:=w) (base:=base) av c6 (B9d (CE:=CE) c6 CM XQ O) aw ug aj uh c7 ui c8 uj iu ul ay Gsr az Gsl CM XQ N
 have RT:C3b K mg C5 CR:=⟨mg_of X G D3q,mg_of X G D8s,⟨tyT,by unfold clsIn;rw[lT];rfl,xbe5⟩,subT,xk5,⟨_,by unfold clsIn;rw[lT],rfl⟩,nsg5,kTR,hv5⟩
 have ES:D9g mg C2 C3 C1 C4 C5:=⟨mg_of X G D8w,mg_of X G D8v,mg_of X G D8t,mg_of X G D8r,mg_of X G D3q⟩
 have RB:C3a K mg CR C2 C3 C1 C4 C5:=⟨mg_of X G D8s,⟨cty,by rw[ccl];rfl,cex⟩,sub2,⟨xk2,G4e,G3m,G3q,G3z,G4b,hv2⟩⟩
 have MP:A6y l.prog w K mg base CC "trap" 2 ["self","names"] (B5m K CC C1):=⟨_,_,jp,D5d mj aq Gn ar Go C,ml⟩
 have Gvo:=D6a (P:=l.prog) (w:=w) (base:=base) ku ae ak CM
 have rk:=D6d (P:=l.prog) (w:=w) (base:=base) ky ao qf ae ak c9 um ku Gvo av GsQ N MQ RQ
 have rn:=D5f (P:=l.prog) (w:=w) (base:=base) kz O
 have ju:=C6s (P:=l.prog) (w:=w) (base:=base) aa
 have ro:=C3y (P:=l.prog) (w:=w) (base:=base) aa
 have al:=D6k (P:=l.prog) (w:=w) (base:=base) af O
 have uo:=B8p (P:=l.prog) (w:=w) (base:=base) cb O T
 have rp:=B8e (P:=l.prog) (w:=w) (base:=base) k_ aa ju af al O
 have uq:=C9t (P:=l.prog) (w:=w) (base:=base) iy ir qg.fn j9 qh.fn ae ak.fn
 have ur:=C4z (P:=l.prog) (w:=w) (base:=base) cf aa ju
 have qi:=B8u (P:=l.prog) (w:=w) (base:=base) ag af al
 have ut:=C9a (P:=l.prog) (w:=w) (base:=base) iz ag qi O
 have uu:=C7y (P:=l.prog) (w:=w) (base:=base) i_
 have uw:=C4u (P:=l.prog) (w:=w) (base:=base) cg af al
 have ux:=C0b (P:=l.prog) (w:=w) (base:=base) b6 O
 have uy:=B5n (P:=l.prog) (w:=w) (base:=base) l7 af al i_ uu cg uw O
 have qj:=G0e (P:=l.prog) (w:=w) (base:=base) jb kq rh cb uo O T
 have uz:=C5f (P:=l.prog) (w:=w) (base:=base) cj aa ro SG O
 have qk:=B8w (P:=l.prog) (w:=w) (base:=base) ah ky rk
 have u_:=C5a (P:=l.prog) (w:=w) (base:=base) ci ah qk jb qj RT SG C MF.has MP O T
 have v7:=C3h (P:=l.prog) (w:=w) (base:=base) l9 ah qk.fn RB ES O
 have v9:=C6d (P:=l.prog) (w:=w) (base:=base) j3
 have va:=C8z (P:=l.prog) (w:=w) (base:=base) j4 b6 ux ag qi iz ut j3 v9 l7 uy O
 have vb:=B9p (P:=l.prog) (w:=w) (base:=base) b7 aa ju af al O
 exact G0c (CB':=C1) (CT:=C5) (CE':=C1) G7v kz rn aa ju cf ur cj uz iy uq ci u_ l9 v7 jb qj.fn k_ (rp.mono (by decide)) b7 vb j4 va MC.m MC.g.fn b4 C MF.has MP.has ME SG O4 O
theorem walk{l:OpenLaw}{q:Program}{loose:List Str}{XP:(Str ->Option Value) ->Heap ->Prop}{YP:World ->Heap ->Prop}{d:DefRec}{K:Params ->Frag}(hn:l.most=some 63)(hdf:d.params.defaults=[])
   (hY:∀(w:World) (h:Heap),YP w h ->(K w.params).In h)
   (F:∀(w:World) (mg:Str ->Option Value) (fa:Addr) (h:Heap),(K w.params).In h ->h.Ns mainGlobals mg ->mg d.name=some (.ref fa) ->
     ∃fd:FuncData,(∀(s:Shared) (u:Value),BindsTo s fd ⟨[u],[]⟩ [("_law_script",u)])/\∀base:Heap,(K w.params).In base ->base.Ns mainGlobals mg ->G8 l.prog w (K w.params) mg base (CX1 l.prog w) 11 fa fd ["_law_script"] ((C1j (K w.params)))):
   WalkO q loose XP YP l.row.toRowW d [] (fun f vs=>PySem.call f vs):=
 L2.walk_of (n:=63) (k:=11) (x:="_law_script") (CX:=fun w=>CX1 l.prog w) (sp:=fun w=>(C1j (K w.params))) hn (by decide) hdf ⟨rfl,by decide,by decide⟩ hY F (fun _ _ a ns hl _ hS=>⟨a,ns,rfl,hl,hS,fun _=>rfl⟩) fun _ _ _ _ _ z=>by
   obtain⟨_,_,_,_,_,_,_,_,_,_,z,_⟩:=z
   exact z
end TR
namespace PySem.W.Fast
theorem tw3630879442103375350:True:=trivial
theorem tw5649972804607238172:True:=trivial
theorem tw11832188273334739778:True:=trivial
theorem tw139035332040161491:True:=trivial
theorem tw10343318409312422484:True:=trivial
theorem tw9301363796440755321:True:=trivial
theorem tw17517363713243603787:True:=trivial
theorem tw12455311438459322209:True:=trivial
theorem tw7779474363055608449:True:=trivial
theorem tw15996902310762898471:True:=trivial
theorem tw15238849566279892496:True:=trivial
theorem tw15018834598087246515:True:=trivial
theorem tw121765453590858457:True:=trivial
theorem tw8944153380557177631:True:=trivial
theorem tw6661807812096648807:True:=trivial
theorem tw13779014707909146579:True:=trivial
theorem tw1576474501793726840:True:=trivial
theorem tw2891334641388588733:True:=trivial
theorem tw17000459101040978107:True:=trivial
theorem tw16589963401623187519:True:=trivial
theorem tw11484913661857838241:True:=trivial
theorem tw2142580808218675734:True:=trivial
theorem tw17167755014902062630:True:=trivial
theorem tw6433564652843602534:True:=trivial
theorem tw14744048842695601283:True:=trivial
theorem tw4838318721513742274:True:=trivial
theorem tw5820650676933141037:True:=trivial
theorem tw12431260878256345737:True:=trivial
theorem tw9103307196332633300:True:=trivial
theorem tw16372428366080923496:True:=trivial
theorem tw8801595025982732072:True:=trivial
theorem tw6856944222463279899:True:=trivial
theorem tw17949372410949242099:True:=trivial
theorem tw12024976521895776892:True:=trivial
theorem tw15394159681199057508:True:=trivial
theorem tw3576333605250485844:True:=trivial
theorem tw11667685550248931780:True:=trivial
theorem tw13134692008204847137:True:=trivial
theorem tw4106775702504014374:True:=trivial
theorem tw3831064962650371231:True:=trivial
theorem tw7259858722454355715:True:=trivial
theorem tw936681170341016597:True:=trivial
theorem tw4168203924838428544:True:=trivial
theorem tw4890219777916445064:True:=trivial
theorem tw6311366934356255507:True:=trivial
theorem tw14939976552994601330:True:=trivial
theorem tw18056861400783720237:True:=trivial
theorem tw7574934070175443707:True:=trivial
theorem tw48905269115819863:True:=trivial
theorem tw7468116361833083312:True:=trivial
theorem tw12894209172361935754:True:=trivial
theorem tw3411165101154452279:True:=trivial
theorem tw3128960249397609456:True:=trivial
theorem tw4376966714962178417:True:=trivial
theorem tw9093350704154410206:True:=trivial
theorem tw5323047678548277739:True:=trivial
theorem tw9151482082083497519:True:=trivial
theorem tw12959559502678205636:True:=trivial
theorem tw10359735824002786829:True:=trivial
theorem tw3539642039829614699:True:=trivial
theorem tw10740541108630684092:True:=trivial
theorem tw12830985470420481276:True:=trivial
theorem tw15402553460920920121:True:=trivial
theorem tw1584846399172334540:True:=trivial
theorem tw12419327623855365536:True:=trivial
theorem tw11144043502714239872:True:=trivial
theorem tw16110753924155519113:True:=trivial
theorem tw3670721377854105784:True:=trivial
theorem tw7341792240625857082:True:=trivial
theorem tw10660813956750468784:True:=trivial
theorem tw13045279341102154763:True:=trivial
theorem tw9604784996730533000:True:=trivial
theorem tw9889765061637831329:True:=trivial
theorem tw6706689104841541404:True:=trivial
theorem tw8930056033455093397:True:=trivial
theorem tw16284296666423859130:True:=trivial
theorem tw14569570678471927459:True:=trivial
theorem tw1928819641304295715:True:=trivial
theorem tw17186622893138694530:True:=trivial
theorem tw5150977504804432025:True:=trivial
theorem tw721611680595653176:True:=trivial
theorem tw12059573752930891763:True:=trivial
theorem tw4298170779788223131:True:=trivial
theorem tw8961261574914931594:True:=trivial
theorem tw9197970756810867179:True:=trivial
theorem tw6293984503244305933:True:=trivial
theorem tw3500645070995063112:True:=trivial
theorem tw9022181039195620207:True:=trivial
theorem tw5538057209118408426:True:=trivial
theorem tw172133065146145463:True:=trivial
theorem tw13521962926208165442:True:=trivial
theorem tw11214805241792313323:True:=trivial
theorem tw17358165118809687263:True:=trivial
theorem tw4110397951666905374:True:=trivial
theorem tw12345757068055514841:True:=trivial
theorem tw2541889746287249289:True:=trivial
theorem tw5305750345622546005:True:=trivial
theorem tw453810385044470673:True:=trivial
theorem tw78416129450724085:True:=trivial
theorem tw1093579532557942659:True:=trivial
theorem tw756644673119015284:True:=trivial
theorem tw7861293242203758475:True:=trivial
theorem tw17851483886903573689:True:=trivial
theorem tw12321909891082514391:True:=trivial
theorem tw9965612563965814099:True:=trivial
theorem tw9512127107122305005:True:=trivial
theorem tw14516035616561583329:True:=trivial
theorem tw15032078460345970522:True:=trivial
theorem tw13332026463267498022:True:=trivial
theorem tw8237842726417949846:True:=trivial
theorem tw13989765203151976434:True:=trivial
theorem tw13772473454321795950:True:=trivial
theorem tw5270501939267155893:True:=trivial
theorem tw9131271459583735434:True:=trivial
theorem tw17556618640711260117:True:=trivial
theorem tw1556059128862373185:True:=trivial
theorem tw16583382993728354512:True:=trivial
theorem tw11655169162850195673:True:=trivial
theorem tw15303255185150366492:True:=trivial
theorem tw14517464773131891971:True:=trivial
theorem tw16482904235985975915:True:=trivial
theorem tw2645634792519238055:True:=trivial
theorem tw11041136879741517372:True:=trivial
theorem tw8360922908199307415:True:=trivial
theorem tw17594223526494171661:True:=trivial
theorem tw1980771173172435725:True:=trivial
theorem tw12396094839590819915:True:=trivial
theorem tw7235298458623906433:True:=trivial
theorem tw14363907132542364601:True:=trivial
theorem tw16933890277403560556:True:=trivial
theorem tw5070699711823889454:True:=trivial
theorem tw15929974668576324496:True:=trivial
theorem tw12052891868135398240:True:=trivial
theorem tw6517008142855850668:True:=trivial
theorem tw6851495759794519986:True:=trivial
theorem tw9956995957607461216:True:=trivial
theorem tw11519583845258927291:True:=trivial
theorem tw9157403690797560265:True:=trivial
theorem tw5839783860721241726:True:=trivial
theorem tw1669029327175976765:True:=trivial
theorem tw3220752444451984160:True:=trivial
theorem tw2574957114013563863:True:=trivial
theorem tw3647587074911469108:True:=trivial
theorem tw16994194605285370924:True:=trivial
theorem tw10207058483963332102:True:=trivial
theorem tw14492718908327187813:True:=trivial
theorem tw3640550242414299818:True:=trivial
theorem tw9845096341698336816:True:=trivial
theorem tw18297272455559669008:True:=trivial
theorem tw306092359114788949:True:=trivial
theorem tw15115005086450324472:True:=trivial
theorem tw8304090331890950752:True:=trivial
theorem tw12859023540285816122:True:=trivial
theorem tw13877438984490302571:True:=trivial
theorem tw12267575654675146478:True:=trivial
theorem tw16385694230729152207:True:=trivial
theorem tw14052871922406501198:True:=trivial
theorem tw8184614255857822072:True:=trivial
theorem tw1612306596964435584:True:=trivial
theorem tw13902865582497545983:True:=trivial
theorem tw15823499417309573034:True:=trivial
theorem tw17703281181638386015:True:=trivial
theorem tw9402868830499767799:True:=trivial
theorem tw500956069025226367:True:=trivial
theorem tw17334139730635806711:True:=trivial
theorem tw14656464616138607701:True:=trivial
theorem tw4768750545861300631:True:=trivial
theorem tw12130888931831449437:True:=trivial
theorem tw11784531217669350184:True:=trivial
theorem tw17643955819974234429:True:=trivial
theorem tw388426572790184441:True:=trivial
theorem tw2676467357178060001:True:=trivial
theorem tw5313150826042783882:True:=trivial
theorem tw13146691642126492597:True:=trivial
theorem tw1745814860120073728:True:=trivial
theorem tw5917360714560396730:True:=trivial
theorem tw15145127558591457203:True:=trivial
theorem tw2693461963933255246:True:=trivial
theorem tw8883333374262547157:True:=trivial
theorem tw1807061940447623886:True:=trivial
theorem tw11037278554498339964:True:=trivial
theorem tw5893249195589893072:True:=trivial
theorem tw4061568531284330685:True:=trivial
theorem tw14525097327326962482:True:=trivial
theorem tw2384191275408482423:True:=trivial
theorem tw16526083642482431384:True:=trivial
theorem tw3224134460447166216:True:=trivial
theorem tw2939423308011616624:True:=trivial
theorem tw10507344688846327056:True:=trivial
theorem tw6970050969096323857:True:=trivial
theorem tw662696161367485433:True:=trivial
theorem tw3157887629871048163:True:=trivial
theorem tw3407345395303846974:True:=trivial
theorem tw1035851309969047373:True:=trivial
theorem tw14946887147115196339:True:=trivial
theorem tw15119628663219139563:True:=trivial
theorem tw8199889786881520657:True:=trivial
theorem tw783649498565558790:True:=trivial
theorem tw8793926092169309077:True:=trivial
theorem tw3800037968405877225:True:=trivial
theorem tw18177050106567114180:True:=trivial
theorem tw8094507494463897702:True:=trivial
theorem tw16728918209615852641:True:=trivial
theorem tw6387490079794055875:True:=trivial
theorem tw11372280411979229861:True:=trivial
theorem tw5225063154623334287:True:=trivial
theorem tw14329771925585044709:True:=trivial
theorem tw13366039988637510466:True:=trivial
theorem tw3251253573280984820:True:=trivial
theorem tw2696845202890830120:True:=trivial
theorem tw12675313200836326721:True:=trivial
theorem tw3756181785273386515:True:=trivial
theorem tw1799960178872505867:True:=trivial
theorem tw14767159785434325274:True:=trivial
theorem tw17687535319352087650:True:=trivial
theorem tw103016099811304142:True:=trivial
theorem tw10533875458110301206:True:=trivial
theorem tw12844476834443766886:True:=trivial
theorem tw8334490478688426988:True:=trivial
theorem tw5747596039678805925:True:=trivial
theorem tw9188118453384449982:True:=trivial
theorem tw7872817926821742921:True:=trivial
theorem tw12720781835261967572:True:=trivial
theorem tw9629390295605197191:True:=trivial
theorem tw17792199216209715096:True:=trivial
theorem tw15673767507821774546:True:=trivial
theorem tw18037429869290172925:True:=trivial
theorem tw15146577883620870604:True:=trivial
theorem tw11377098615173382249:True:=trivial
theorem tw17253214021335051230:True:=trivial
theorem tw12601551096133369509:True:=trivial
theorem tw5095615991641542337:True:=trivial
theorem tw8617522401075814946:True:=trivial
theorem tw500014901492165412:True:=trivial
theorem tw10214450254317208439:True:=trivial
theorem tw12107376088133011758:True:=trivial
theorem tw764943563990410170:True:=trivial
theorem tw14292795033444029142:True:=trivial
theorem tw17327382155704200388:True:=trivial
theorem tw10596472848437162164:True:=trivial
theorem tw5637903129222423145:True:=trivial
theorem tw15928671492739590961:True:=trivial
theorem tw14881621955401282145:True:=trivial
theorem tw10165892348395871622:True:=trivial
theorem tw916752440657289690:True:=trivial
theorem tw2100180788400396896:True:=trivial
theorem tw1530956540401612724:True:=trivial
theorem tw17881677234387646367:True:=trivial
theorem tw10178868926200383040:True:=trivial
theorem tw16207272913809936537:True:=trivial
theorem tw13644034067605601380:True:=trivial
theorem tw3829161611600315491:True:=trivial
theorem tw9967037500344991352:True:=trivial
theorem tw12568311587371282889:True:=trivial
theorem tw24753218966845890:True:=trivial
theorem tw16662426815073404527:True:=trivial
theorem tw9186082445747336425:True:=trivial
theorem tw18162699955782265577:True:=trivial
theorem tw4997061841108302691:True:=trivial
theorem tw13748158674483169830:True:=trivial
theorem tw14668590925616822797:True:=trivial
theorem tw16896444704434736742:True:=trivial
theorem tw13403268456319178388:True:=trivial
theorem tw3510282136576645749:True:=trivial
theorem tw222648601808801479:True:=trivial
theorem tw14926695243993307021:True:=trivial
theorem tw187548632205239903:True:=trivial
theorem tw16687271375771709006:True:=trivial
theorem tw3238543773633225175:True:=trivial
theorem tw10363465753215081678:True:=trivial
theorem tw1464126139926448295:True:=trivial
theorem tw10621056294156890347:True:=trivial
theorem tw10566884439868574488:True:=trivial
theorem tw9529666916863428636:True:=trivial
theorem tw10557478602551618278:True:=trivial
theorem tw12581442215925951177:True:=trivial
theorem tw18007312089504997831:True:=trivial
theorem tw15119330096491663550:True:=trivial
theorem tw4973734315527531092:True:=trivial
theorem tw5882675021045698766:True:=trivial
theorem tw5260013445295392801:True:=trivial
theorem tw15751130119090635976:True:=trivial
theorem tw11830007879862003428:True:=trivial
theorem tw9491590869414772383:True:=trivial
theorem tw17548069409889884693:True:=trivial
theorem tw8903373600892887516:True:=trivial
theorem tw12990341462377692618:True:=trivial
theorem tw12821535376521674198:True:=trivial
theorem tw15828143853233938883:True:=trivial
theorem tw13249120758500889419:True:=trivial
theorem tw17378404452632644106:True:=trivial
theorem tw9396993620535836435:True:=trivial
theorem tw16289926114538288374:True:=trivial
theorem tw13617232889195474407:True:=trivial
theorem tw2851890529418538648:True:=trivial
theorem tw1523432263604216687:True:=trivial
theorem tw15298364328044388701:True:=trivial
theorem tw17833258381644618373:True:=trivial
theorem tw7134787903383607492:True:=trivial
theorem tw10199874834920238475:True:=trivial
theorem tw12704334316408912429:True:=trivial
theorem tw4783371643651937570:True:=trivial
theorem tw14239648486599892607:True:=trivial
theorem tw411534436722244853:True:=trivial
theorem tw17114630457934301974:True:=trivial
theorem tw16294804120848971139:True:=trivial
theorem tw10388296206526933225:True:=trivial
theorem tw276757344472612:True:=trivial
theorem tw15448133399986554709:True:=trivial
theorem tw7967607334020550094:True:=trivial
theorem tw18075897026831007524:True:=trivial
theorem tw5681193607057940177:True:=trivial
theorem tw8820410006718534498:True:=trivial
theorem tw2101824281549806035:True:=trivial
theorem tw15098890435965194089:True:=trivial
theorem tw9520793818419561229:True:=trivial
theorem tw8944302796680823871:True:=trivial
theorem tw9871100833516259077:True:=trivial
theorem tw2891980679327980811:True:=trivial
theorem tw3525767326855291803:True:=trivial
theorem tw18393067200362950620:True:=trivial
theorem tw11433899547663573917:True:=trivial
theorem tw16224974578002000087:True:=trivial
theorem tw4016811541388680565:True:=trivial
theorem tw12025436653707513407:True:=trivial
theorem tw1686609303172112801:True:=trivial
theorem tw14979492138140293502:True:=trivial
theorem tw14625411603053545178:True:=trivial
theorem tw13072612331193014614:True:=trivial
theorem tw10913641111225144301:True:=trivial
theorem tw10612743773535143018:True:=trivial
theorem tw17984506848831189075:True:=trivial
theorem tw6601204076745489469:True:=trivial
theorem tw8857774731377276898:True:=trivial
theorem tw5904725192903393658:True:=trivial
theorem tw17332085735581656203:True:=trivial
theorem tw11383408742079490343:True:=trivial
theorem tw2696991166198244882:True:=trivial
theorem tw1109731643335797993:True:=trivial
theorem tw1572590130744230013:True:=trivial
theorem tw4435411348157573159:True:=trivial
theorem tw15111080966073923125:True:=trivial
theorem tw13779908361918451640:True:=trivial
theorem tw4216711733242220216:True:=trivial
theorem tw15374024543562209104:True:=trivial
theorem tw5650188437669589970:True:=trivial
theorem tw4120429475372911298:True:=trivial
theorem tw11775833100247620787:True:=trivial
theorem tw8688752632655390478:True:=trivial
theorem tw11009378301992350658:True:=trivial
theorem tw9509809741124862102:True:=trivial
theorem tw6335418955459892427:True:=trivial
theorem tw3600795214795463673:True:=trivial
theorem tw11952936568980439942:True:=trivial
theorem tw2848081844099153775:True:=trivial
theorem tw610668568327661335:True:=trivial
theorem tw659127923587296070:True:=trivial
theorem tw4679229749168749629:True:=trivial
theorem tw9346911095462037942:True:=trivial
theorem tw2972260776416711130:True:=trivial
theorem tw5486162025426609084:True:=trivial
theorem tw17741707373844236578:True:=trivial
theorem tw11518280036419156895:True:=trivial
theorem tw17263423695152091015:True:=trivial
theorem tw16694015072820232811:True:=trivial
theorem tw10041247034322850736:True:=trivial
theorem tw6774186205904219586:True:=trivial
theorem tw3707839701660965749:True:=trivial
theorem tw12823642506545689192:True:=trivial
theorem tw14827129133110788879:True:=trivial
theorem tw11719519590371510857:True:=trivial
theorem tw8075148476560173400:True:=trivial
theorem tw10932183853299270731:True:=trivial
theorem tw16611130978406801781:True:=trivial
theorem tw18242809267439421545:True:=trivial
theorem tw13572297513077334527:True:=trivial
theorem tw14033175908279753518:True:=trivial
theorem tw18373617923422585653:True:=trivial
theorem tw12927228911507561817:True:=trivial
theorem tw695937617512477481:True:=trivial
theorem tw12369911331064637525:True:=trivial
theorem tw5191513483129798465:True:=trivial
theorem tw18290245904684718228:True:=trivial
theorem tw3682424491241450528:True:=trivial
theorem tw16737193030291856102:True:=trivial
theorem tw16098694336793255313:True:=trivial
theorem tw3806387666711271930:True:=trivial
theorem tw8730411916897961070:True:=trivial
theorem tw18158711695890392786:True:=trivial
theorem tw5242158944110142732:True:=trivial
theorem tw9212072854222562090:True:=trivial
theorem tw10371777657086904340:True:=trivial
theorem tw6483451651160668489:True:=trivial
theorem tw10306284051198192782:True:=trivial
theorem tw12347633495087965175:True:=trivial
theorem tw16933145752479105871:True:=trivial
theorem tw61605381029465366:True:=trivial
theorem tw13297231217378026965:True:=trivial
theorem tw9492509885520375249:True:=trivial
theorem tw3614695207882352519:True:=trivial
theorem tw13575514878399553643:True:=trivial
theorem tw11072249264901406242:True:=trivial
theorem tw2933530874503351820:True:=trivial
theorem tw1577518123111991459:True:=trivial
theorem tw18279943391043959999:True:=trivial
theorem tw1475284230196726979:True:=trivial
theorem tw12383051530175018803:True:=trivial
theorem tw12236585338598807036:True:=trivial
theorem tw2945938495510754562:True:=trivial
theorem tw111184769714407800:True:=trivial
theorem tw3175993189632864498:True:=trivial
theorem tw14453992029819669302:True:=trivial
theorem tw12672377052762933339:True:=trivial
theorem tw17475255840067603754:True:=trivial
theorem tw1413730051119212440:True:=trivial
theorem tw18174455041384603125:True:=trivial
theorem tw689987605014976470:True:=trivial
theorem tw16637056746833219444:True:=trivial
theorem tw13198621257380456380:True:=trivial
theorem tw14978269017614661071:True:=trivial
theorem tw17020145599529773062:True:=trivial
theorem tw6791584484515172540:True:=trivial
theorem tw14059692388935663770:True:=trivial
theorem tw1019341721590257518:True:=trivial
theorem tw18436992061088282056:True:=trivial
theorem tw17190145816627845364:True:=trivial
theorem tw7643489374819207337:True:=trivial
theorem tw14750333449506190578:True:=trivial
theorem tw11587266471650202897:True:=trivial
theorem tw225232790279629355:True:=trivial
theorem tw15462566923481213999:True:=trivial
theorem tw7822719442353362450:True:=trivial
theorem tw4180880399139742572:True:=trivial
theorem tw10222091453265719497:True:=trivial
theorem tw18380640162307754255:True:=trivial
theorem tw1745407949508710125:True:=trivial
theorem tw9960168220022757814:True:=trivial
theorem tw6867147499154912410:True:=trivial
theorem tw7780950390996336171:True:=trivial
theorem tw2674841906508819457:True:=trivial
theorem tw4588773440557299081:True:=trivial
theorem tw3852815153160654179:True:=trivial
theorem tw9618453559775805256:True:=trivial
theorem tw5484041538047411275:True:=trivial
theorem tw7850266282612532693:True:=trivial
theorem tw9674904153748939662:True:=trivial
theorem tw1844216692913172673:True:=trivial
theorem tw14828397515584311120:True:=trivial
theorem tw16178767563018226874:True:=trivial
theorem tw3241838910553692916:True:=trivial
theorem tw17030498738203392950:True:=trivial
theorem tw5547658459194433887:True:=trivial
theorem tw90785652092884454:True:=trivial
theorem tw12143918321656400342:True:=trivial
theorem tw14680885800345423640:True:=trivial
theorem tw2935412526352952334:True:=trivial
theorem tw5807339189816550336:True:=trivial
theorem tw18404469835641659085:True:=trivial
theorem tw17901808678003079170:True:=trivial
theorem tw14722804700044671183:True:=trivial
theorem tw7855798969966758772:True:=trivial
theorem tw10765916529256769926:True:=trivial
theorem tw16097366248582086105:True:=trivial
theorem tw7222276808897689899:True:=trivial
theorem tw2912981275008541410:True:=trivial
theorem tw732502725100182036:True:=trivial
theorem tw16265869183446502618:True:=trivial
theorem tw10907955904672217865:True:=trivial
theorem tw8189696135812988188:True:=trivial
theorem tw18428186423828646628:True:=trivial
theorem tw14980025366294875078:True:=trivial
theorem tw13418904153467417017:True:=trivial
theorem tw8477963850863947208:True:=trivial
theorem tw5236221450348016392:True:=trivial
theorem tw6623204913383821329:True:=trivial
theorem tw3716155279071603554:True:=trivial
theorem tw18277216075443849705:True:=trivial
theorem tw8653819176612561050:True:=trivial
theorem tw3678015975685483023:True:=trivial
theorem tw8123523812264313113:True:=trivial
theorem tw4452793618334564373:True:=trivial
theorem tw8046353736620644563:True:=trivial
theorem tw15227781098241985911:True:=trivial
theorem tw1618557805243914556:True:=trivial
theorem tw5703199923820933375:True:=trivial
theorem tw1608791744637958734:True:=trivial
theorem tw9011119260421779810:True:=trivial
theorem tw16582381693637207592:True:=trivial
theorem tw13201707155719638698:True:=trivial
theorem tw6695503115586257835:True:=trivial
theorem tw11107647360087985621:True:=trivial
theorem tw13399999102394613148:True:=trivial
theorem tw302884376525524623:True:=trivial
theorem tw439180565106603367:True:=trivial
theorem tw4179653277727446513:True:=trivial
theorem tw2111156758764948832:True:=trivial
theorem tw2409040231361422739:True:=trivial
theorem tw12967619590627533312:True:=trivial
theorem tw13332268736264836134:True:=trivial
theorem tw15711820735180960646:True:=trivial
theorem tw10346817719673377676:True:=trivial
theorem tw9934183932990777831:True:=trivial
theorem tw413523761574245491:True:=trivial
theorem tw587347223460436157:True:=trivial
theorem tw2712183931058692300:True:=trivial
theorem tw11888181213975068619:True:=trivial
theorem tw10287508301988233585:True:=trivial
theorem tw248972126856959902:True:=trivial
theorem tw17332440190283343643:True:=trivial
theorem tw13894599997544351149:True:=trivial
theorem tw18327633154527068077:True:=trivial
theorem tw2385592488342698857:True:=trivial
theorem tw6298234294118032287:True:=trivial
theorem tw9477149731230804126:True:=trivial
theorem tw8742606510500861669:True:=trivial
theorem tw16842714619867562663:True:=trivial
theorem tw8569414460636655512:True:=trivial
theorem tw4211538019059441282:True:=trivial
theorem tw13409128354770891450:True:=trivial
theorem tw152705054965922533:True:=trivial
theorem tw7802479939348349380:True:=trivial
theorem tw9718704642927838816:True:=trivial
theorem tw12653099421314991672:True:=trivial
theorem tw11312207621447085780:True:=trivial
theorem tw3099642151065554856:True:=trivial
theorem tw246284257036056587:True:=trivial
theorem tw15353329112524736553:True:=trivial
theorem tw2677451459390555939:True:=trivial
theorem tw5809761775153719193:True:=trivial
theorem tw12776879570033703115:True:=trivial
theorem tw10097856709488344758:True:=trivial
theorem tw11876163870735602189:True:=trivial
theorem tw2945765685852037068:True:=trivial
theorem tw11221093211544085699:True:=trivial
theorem tw17685014221709902342:True:=trivial
theorem tw5755850283711517718:True:=trivial
theorem tw4185586620476197245:True:=trivial
theorem tw17858975636418849017:True:=trivial
theorem tw15572750390321363233:True:=trivial
theorem tw11046508726225047240:True:=trivial
theorem tw1400332816064157107:True:=trivial
theorem tw2701326997339154874:True:=trivial
theorem tw16968307361095234996:True:=trivial
theorem tw10548664624808994791:True:=trivial
theorem tw4391646799466638586:True:=trivial
theorem tw5029373806354369075:True:=trivial
theorem tw5695923485728261514:True:=trivial
theorem tw9577370393488267184:True:=trivial
theorem tw5543820381132290297:True:=trivial
theorem tw12132399846470632233:True:=trivial
theorem tw12076743071639665316:True:=trivial
theorem tw4740204987654510413:True:=trivial
theorem tw11673131241705178048:True:=trivial
theorem tw2267999928419535959:True:=trivial
theorem tw1126465859544606804:True:=trivial
theorem tw11177494998610610445:True:=trivial
theorem tw15929743478283594223:True:=trivial
theorem tw1007457622552329182:True:=trivial
theorem tw10627377847291804513:True:=trivial
theorem tw4302223314777435330:True:=trivial
theorem tw1630271680960453841:True:=trivial
theorem tw4058452816358960195:True:=trivial
theorem tw13414979564544076640:True:=trivial
theorem tw106650339320068628:True:=trivial
theorem tw1325621721558398125:True:=trivial
theorem tw3899079563139083668:True:=trivial
theorem tw14328444092349945321:True:=trivial
theorem tw1725432719865213024:True:=trivial
theorem tw17223890948845754317:True:=trivial
theorem tw2912128850710546609:True:=trivial
theorem tw1205219007680081000:True:=trivial
theorem tw16034889454193931370:True:=trivial
theorem tw15771916708015243382:True:=trivial
theorem tw2487891955980979369:True:=trivial
theorem tw3780487263964247586:True:=trivial
theorem tw1084913195225263389:True:=trivial
theorem tw6736424267539944410:True:=trivial
theorem tw12388089114188045359:True:=trivial
theorem tw11080431104728739477:True:=trivial
theorem tw12369069951442327684:True:=trivial
theorem tw8396549244048952558:True:=trivial
theorem tw1723532521862795035:True:=trivial
theorem tw15644007050619097472:True:=trivial
theorem tw13303682266825451880:True:=trivial
theorem tw2150922264206777744:True:=trivial
theorem tw15407565032352421098:True:=trivial
theorem tw11417682145206978025:True:=trivial
theorem tw2807487137290615892:True:=trivial
theorem tw16450184839564894705:True:=trivial
theorem tw14618948517834142404:True:=trivial
theorem tw5588417745206831223:True:=trivial
theorem tw5312678157492288472:True:=trivial
theorem tw5021962854335151667:True:=trivial
theorem tw13755223524103339469:True:=trivial
theorem tw16310537069211282534:True:=trivial
theorem tw5845545523970003334:True:=trivial
theorem tw14322657030626266341:True:=trivial
theorem tw16611444431431863655:True:=trivial
theorem tw17379656293390410006:True:=trivial
theorem tw4641439542075195812:True:=trivial
theorem tw5010197414421580106:True:=trivial
theorem tw7815125467384260612:True:=trivial
theorem tw8340760660917392754:True:=trivial
theorem tw13813623464503422112:True:=trivial
theorem tw10593623886038535888:True:=trivial
theorem tw12474955123270583196:True:=trivial
theorem tw15906663481353463860:True:=trivial
theorem tw17316980164348197897:True:=trivial
theorem tw3149837188455719625:True:=trivial
theorem tw3344899605119351583:True:=trivial
theorem tw10758657023410051541:True:=trivial
theorem tw1191256981828620135:True:=trivial
theorem tw9685039111197356691:True:=trivial
theorem tw11365948260958476420:True:=trivial
theorem tw13601529795502023739:True:=trivial
theorem tw10574382673544236425:True:=trivial
theorem tw2343890572720870901:True:=trivial
theorem tw14505405000283486923:True:=trivial
theorem tw1942530590264807142:True:=trivial
theorem tw16355589323736419538:True:=trivial
theorem tw5831042023794559066:True:=trivial
theorem tw5771829120412571959:True:=trivial
theorem tw12816114171685558812:True:=trivial
theorem tw11280960251644013112:True:=trivial
theorem tw10328292609188482180:True:=trivial
theorem tw4847858548607770807:True:=trivial
theorem tw14174984824580148953:True:=trivial
theorem tw14701041193626584374:True:=trivial
theorem tw12286231353168483690:True:=trivial
theorem tw16365740592307523791:True:=trivial
theorem tw11031012940163972754:True:=trivial
theorem tw7312418688702785834:True:=trivial
theorem tw8773582931443072831:True:=trivial
theorem tw6281455198495437651:True:=trivial
theorem tw17257320434147925742:True:=trivial
theorem tw9300957294459182527:True:=trivial
theorem tw335262038717649701:True:=trivial
theorem tw1271494866007028516:True:=trivial
theorem tw12453938270825588802:True:=trivial
theorem tw922006734854725089:True:=trivial
theorem tw15612176688865968318:True:=trivial
theorem tw5578410127752544063:True:=trivial
theorem tw11676257801824828228:True:=trivial
theorem tw1129887184743068662:True:=trivial
theorem tw6757357467858128266:True:=trivial
theorem tw15369347428363111745:True:=trivial
theorem tw3882408517590795274:True:=trivial
theorem tw4807325201680756465:True:=trivial
theorem tw16374522512348840510:True:=trivial
theorem tw17214950943928184575:True:=trivial
theorem tw9441813562607733994:True:=trivial
theorem tw11599600744955407778:True:=trivial
theorem tw2472684219395675872:True:=trivial
theorem tw2086271664895757118:True:=trivial
theorem tw12014876808236155035:True:=trivial
theorem tw6816151317816700059:True:=trivial
theorem tw16258421656774983101:True:=trivial
theorem tw10346265016727045065:True:=trivial
theorem tw5696820013712739132:True:=trivial
theorem tw14572188430628592807:True:=trivial
theorem tw16706988205096867908:True:=trivial
theorem tw3826398760868442447:True:=trivial
theorem tw16788969034208422134:True:=trivial
theorem tw9407226179630641370:True:=trivial
theorem tw7076348698495963963:True:=trivial
theorem tw2212900081317654910:True:=trivial
theorem tw3093420469385973557:True:=trivial
theorem tw7653565416004481180:True:=trivial
theorem tw18371750047818770611:True:=trivial
theorem tw11539418841326836922:True:=trivial
theorem tw5531746688933102750:True:=trivial
theorem tw4442352786733616601:True:=trivial
theorem tw343907496006929932:True:=trivial
theorem tw11721234729129190300:True:=trivial
theorem tw5495173471006802801:True:=trivial
theorem tw6640481366029934735:True:=trivial
theorem tw16273523796062306639:True:=trivial
theorem tw13496496901607916706:True:=trivial
theorem tw17687991221033869073:True:=trivial
theorem tw11405454042210822967:True:=trivial
theorem tw12155190043710579544:True:=trivial
theorem tw15891170805977892960:True:=trivial
theorem tw16160610323504441407:True:=trivial
theorem tw14990317410612090311:True:=trivial
theorem tw529145156873818948:True:=trivial
theorem tw125615533666741343:True:=trivial
theorem tw16471299439960620246:True:=trivial
theorem tw6602468699018169036:True:=trivial
theorem tw16503382162878094832:True:=trivial
theorem tw13928135015151455920:True:=trivial
theorem tw17454409381336923325:True:=trivial
theorem tw12947837779400238797:True:=trivial
theorem tw2266653947574784273:True:=trivial
theorem tw182516124875220844:True:=trivial
theorem tw1968516323087156698:True:=trivial
theorem tw17571346659623285585:True:=trivial
theorem tw1718110002247372520:True:=trivial
theorem tw15373444068925748650:True:=trivial
theorem tw16612882654260086352:True:=trivial
theorem tw16138862882605534710:True:=trivial
theorem tw7603651607977086674:True:=trivial
theorem tw10173469631800398108:True:=trivial
theorem tw16747249910054961655:True:=trivial
theorem tw17787409941674653110:True:=trivial
theorem tw9265455592339823037:True:=trivial
theorem tw3337038045063554893:True:=trivial
theorem tw16182745983038847816:True:=trivial
theorem tw16466958277468836027:True:=trivial
theorem tw11874165820287835163:True:=trivial
theorem tw15361854702748695521:True:=trivial
theorem tw16678009409702463590:True:=trivial
theorem tw15667836238160230948:True:=trivial
theorem tw11470516358322141529:True:=trivial
theorem tw10854633276752400910:True:=trivial
theorem tw4891170963646134067:True:=trivial
theorem tw3513006516011359898:True:=trivial
theorem tw11276566046147086943:True:=trivial
theorem tw17676821599480999955:True:=trivial
theorem tw17484809650707745927:True:=trivial
theorem tw10485869858378985996:True:=trivial
theorem tw9698808531705233512:True:=trivial
theorem tw17970430715249478960:True:=trivial
theorem tw10696852864594886872:True:=trivial
theorem tw10801169925396793801:True:=trivial
theorem tw6151938651174276886:True:=trivial
theorem tw11151960474959745472:True:=trivial
theorem tw15594492507288582501:True:=trivial
theorem tw7709967478524785566:True:=trivial
theorem tw15084408874739762310:True:=trivial
theorem tw7126723748333373153:True:=trivial
theorem tw3445998595240116844:True:=trivial
theorem tw17524213341314674715:True:=trivial
theorem tw11990276984644940795:True:=trivial
theorem tw5079176056749252919:True:=trivial
theorem tw17822621357497181048:True:=trivial
theorem tw7854406830344029296:True:=trivial
theorem tw2178844237769121988:True:=trivial
theorem tw10433996681602001247:True:=trivial
theorem tw941384714584434438:True:=trivial
theorem tw6707411055518477295:True:=trivial
theorem tw5940147648260021126:True:=trivial
theorem tw4792620629174935029:True:=trivial
theorem tw3113634511519261852:True:=trivial
theorem tw18366134450866319888:True:=trivial
theorem tw17493832428892452809:True:=trivial
theorem tw13244354283929313127:True:=trivial
theorem tw4302047381919533695:True:=trivial
theorem tw4105422359815392849:True:=trivial
theorem tw15692868702330010066:True:=trivial
theorem tw9563918134250758129:True:=trivial
theorem tw11199153001057547868:True:=trivial
theorem tw7582124227139712241:True:=trivial
theorem tw3362571036423120107:True:=trivial
theorem tw14634234263150712426:True:=trivial
theorem tw9345376055188541090:True:=trivial
theorem tw11324120534413836476:True:=trivial
theorem tw8670919869785336364:True:=trivial
theorem tw18154520205646205824:True:=trivial
theorem tw9849257674445480779:True:=trivial
theorem tw8140675208184482785:True:=trivial
theorem tw10170221971125455884:True:=trivial
theorem tw11383464081663394980:True:=trivial
theorem tw8065674219195445773:True:=trivial
theorem tw16402943277857513332:True:=trivial
theorem tw3947088195010597458:True:=trivial
theorem tw3215712388747067472:True:=trivial
theorem tw5622267910785114547:True:=trivial
theorem tw11978077979483664971:True:=trivial
theorem tw3550764412741471712:True:=trivial
theorem tw15765448878754455273:True:=trivial
theorem tw14146969709604153984:True:=trivial
theorem tw16223952609572908117:True:=trivial
theorem tw13397167686277533271:True:=trivial
theorem tw16938419894410253896:True:=trivial
theorem tw17588517999239387163:True:=trivial
theorem tw629357592140065174:True:=trivial
theorem tw2596975748485839398:True:=trivial
theorem tw6564029684210349153:True:=trivial
theorem tw15046155327120175878:True:=trivial
theorem tw9247257792556596593:True:=trivial
theorem tw10770572680650200650:True:=trivial
theorem tw3836590787812967737:True:=trivial
theorem tw16472703566060299054:True:=trivial
theorem tw6732695744974851223:True:=trivial
theorem tw17402804163025757966:True:=trivial
theorem tw8986142377054883263:True:=trivial
theorem tw9564201869286861832:True:=trivial
theorem tw3957310536230569094:True:=trivial
theorem tw15907333971774614992:True:=trivial
theorem tw7179182603102313630:True:=trivial
theorem tw14723788446114078041:True:=trivial
theorem tw6818609955210378945:True:=trivial
theorem tw9785193966890006515:True:=trivial
theorem tw6799443954782671522:True:=trivial
theorem tw7784367622457170000:True:=trivial
theorem tw15974086818285558136:True:=trivial
theorem tw9614458375408332047:True:=trivial
theorem tw12224194752354646634:True:=trivial
theorem tw12369519869199530293:True:=trivial
theorem tw16717005336995580019:True:=trivial
theorem tw13509002658864478085:True:=trivial
theorem tw12200378474889913731:True:=trivial
theorem tw4759429942510522791:True:=trivial
theorem tw15340468400980287912:True:=trivial
theorem tw7987978317773680366:True:=trivial
theorem tw12182452535474749053:True:=trivial
theorem tw15218795900610676459:True:=trivial
theorem tw13061718749406656260:True:=trivial
theorem tw10810953077753349545:True:=trivial
theorem tw16047220649786478056:True:=trivial
theorem tw2768882384715792384:True:=trivial
theorem tw9481633600840753441:True:=trivial
theorem tw3668768788419240259:True:=trivial
theorem tw2945572393481000065:True:=trivial
theorem tw12249385264734166042:True:=trivial
theorem tw7929675987324267429:True:=trivial
theorem tw4436123430432673572:True:=trivial
theorem tw4894930793060669612:True:=trivial
theorem tw14048190186014252691:True:=trivial
theorem tw3313997182861796340:True:=trivial
theorem tw1435536461445817812:True:=trivial
theorem tw17578303050697399734:True:=trivial
theorem tw4505661803044274911:True:=trivial
theorem tw3514905445761506759:True:=trivial
theorem tw10182859860824058539:True:=trivial
theorem tw3926188974102741075:True:=trivial
theorem tw5195460578510489566:True:=trivial
theorem tw6322104110048545975:True:=trivial
theorem tw10873327324447280122:True:=trivial
theorem tw14202467600141342143:True:=trivial
theorem tw3782959830603921365:True:=trivial
theorem tw15890166960012245044:True:=trivial
theorem tw4377588306548950971:True:=trivial
theorem tw5557934512242518100:True:=trivial
theorem tw8793648976798530727:True:=trivial
theorem tw12969365171306616464:True:=trivial
theorem tw11102658972033341459:True:=trivial
theorem tw12964003591264882825:True:=trivial
theorem tw9279563917771532941:True:=trivial
theorem tw8946960052731602332:True:=trivial
theorem tw9560134033288639776:True:=trivial
theorem tw13728233872936001828:True:=trivial
theorem tw12569394783601852628:True:=trivial
theorem tw14192950288285969172:True:=trivial
theorem tw15558754165419354166:True:=trivial
theorem tw7959079034088432318:True:=trivial
theorem tw11843102702278132329:True:=trivial
theorem tw16871122304167642683:True:=trivial
theorem tw6801756736674911827:True:=trivial
theorem tw5626578897970547035:True:=trivial
theorem tw4327095908838483732:True:=trivial
theorem tw850813955209832333:True:=trivial
theorem tw11487830788435384678:True:=trivial
theorem tw15774615429529905742:True:=trivial
theorem tw12450639215624589695:True:=trivial
theorem tw17928365512558032664:True:=trivial
theorem tw290376482821862749:True:=trivial
theorem tw3482802296830416633:True:=trivial
theorem tw11352048334809348298:True:=trivial
theorem tw10081186410343657587:True:=trivial
theorem tw5280755818259968580:True:=trivial
theorem tw3275010011408415829:True:=trivial
theorem tw4215877727184103226:True:=trivial
theorem tw9757429535772573547:True:=trivial
theorem tw11045612578201438686:True:=trivial
theorem tw8049322971994471401:True:=trivial
theorem tw9320740709704862260:True:=trivial
theorem tw17915993140744441935:True:=trivial
theorem tw3769267721337156924:True:=trivial
theorem tw13258255032034017386:True:=trivial
theorem tw8322609673324599865:True:=trivial
theorem tw4447700524195998391:True:=trivial
theorem tw363061255848562190:True:=trivial
theorem tw17194541909374496628:True:=trivial
theorem tw16525572756895143116:True:=trivial
theorem tw10802822097252557574:True:=trivial
theorem tw11763221889296815091:True:=trivial
theorem tw11446491728783953108:True:=trivial
theorem tw9175524937538623798:True:=trivial
theorem tw1500248923597038032:True:=trivial
theorem tw1186759056341197666:True:=trivial
theorem tw18279834087255512271:True:=trivial
theorem tw17347008664974378522:True:=trivial
theorem tw10076191424038849850:True:=trivial
end PySem.W.Fast
open PySem PySem.W PyProof.Rows
set_option maxRecDepth 100000 in
set_option maxHeartbeats 0 in
theorem PySem.Challenge.cw_tenreckon_k23_roots_holds : PySem.Challenge.rw_tenreckon_k23_roots.Holds := by
 w_on; o_law; k_head; (case hw => w_witness2)
 k_fill
 refine TR.walk (l := PySem.Challenge.rw_tenreckon_k23_roots) rfl rfl (fun w h Y => PySem.W.kIn_of Y) ?F
 case F =>
   intro w mg fa h KX G hmg
   refine' TR.all_mk KX G hmg ?Zgc ?Znj ?Zmo ?Znr ?Znv ?Zny ?Zq_ ?Zjv ?Zp7 ?Zp8 ?Zn_ ?Zr9 ?Zjw ?Zjx ?Zmq ?Zjy ?Zgd ?Zmr ?Zmt ?Zo0 ?Zo8 ?Zjz ?Zj_ ?Zmv ?Zpc ?Zpd ?Zo9 ?Zk7 ?Zog ?Zoh ?Zpf ?Zoj ?Zph ?Zmw ?Zpi ?Zom ?Zmx ?Zk8 ?Zon ?Zoq ?Zmy ?Zpj ?Zk9 ?Zka ?Zrc ?Zmz ?Zpk ?Zm_ ?Zot ?Zou ?Zkc ?ZC3c ?ZD4n ?ZD0w ?ZD2a ?Zre ?ZT ?Zsn ?Ztk ?ZG7s ?ZG3d ?ZD2u ?ZD0q ?ZD0t ?ZD0n ?ZD2e ?ZD3b ?ZD4d ?Zke ?ZG4c ?ZD4k ?ZD0p ?ZD1y ?ZD1d ?ZD1r ?ZD0j ?ZD1t ?Zkf ?ZG3e ?ZD5a ?ZD1b ?ZD1w ?ZD4p ?ZD1a ?ZD2y ?ZD2q ?Zkg ?ZG3a ?ZD2h ?ZD4v ?ZD1z ?ZD4m ?ZD1j ?ZD2t ?ZD2v ?Zkh ?ZG3k ?ZD0s ?ZD2b ?ZD3r ?ZD2m ?ZD3n ?ZD0x ?ZD4t ?Zki ?ZG3w ?ZD3m ?ZD1p ?ZD3t ?ZD3g ?ZD3w ?ZD2z ?ZD0z ?Zkj ?ZG2p ?ZD3u ?ZD1u ?ZD4u ?ZD0m ?ZD3j ?ZD0v ?ZD4q ?Zkm ?ZG3g ?ZD4w ?ZD2d ?ZD0k ?ZD3p ?ZD3y ?ZD1h ?ZD3f ?Zkn ?ZG2z ?ZD2g ?ZD1x ?ZD3z ?ZD4s ?ZD4g ?ZA8f ?ZA8h ?ZA3z ?ZA5y ?ZD0y ?ZD2w ?ZD4h ?ZD1m ?ZD4z ?ZB5v ?Zbo ?Zgi ?Zbr ?Zgj ?Zbt ?Zgk ?Zbw ?Zgl ?Zbx ?Zgm ?Zbz ?Zgn ?Zb_ ?Zgq ?Zc4 ?Zgr ?ZG2v ?ZD3d ?ZD4e ?ZD0r ?ZA8d ?ZA8e ?ZA5w ?ZA8g ?ZA5z ?ZA3y ?ZD1f ?ZD1v ?ZD3h ?ZD1n ?ZD3c ?ZD2j ?Zj6 ?Zgt ?Zn8 ?Zgu ?Zj7 ?ZG3v ?ZD8t ?ZD8w ?ZD8v ?ZD8r ?ZD3q ?ZD8s ?Zcty ?Zccl ?Zcex ?Zsub5 ?Zxga5 ?Zxgh5 ?Zxca5 ?Zxob5 ?Zxbe5 ?Zxcl5 ?ZG8q ?ZG7t ?ZG7q ?ZG7z ?ZG8m ?Zhv5 ?ZlT ?ZlN ?ZalN ?ZniT ?ZlT1 ?ZsaT ?Znsg5 ?ZD8u ?ZG2q ?ZG2k ?ZfcT ?ZkTR ?Zq1 ?Zq2 ?Zq3 ?Zq4 ?Za_S ?ZlS ?Zko ?ZA4x ?ZC0t ?ZC0s ?ZB5s ?ZB2e ?ZB5t ?ZB5u ?Zsub2 ?Zxga2 ?Zxgh2 ?Zxca2 ?Zxob2 ?Zxbe2 ?Zxcl2 ?ZG3q ?ZG4e ?ZG3m ?ZG3z ?ZG4b ?Zhv2 ?ZtyT ?ZsubT ?ZG2w ?ZD1s ?ZD3s ?ZD4c ?ZD5b ?ZD0u ?ZB2d ?ZA5x ?ZD2c ?ZD3e ?ZD1k ?ZD3x ?ZD1e ?ZB8c ?Zj8 ?Zow ?ZD2r
   case Zgc|Znj|Zmo|Znr|Znv|Zny|Zq_|Zjv|Zp7|Zp8|Zn_|Zr9|Zjw|Zjx|Zmq|Zjy|Zgd|Zmr|Zmt|Zo0|Zo8|Zjz|Zj_|Zmv|Zpc|Zpd|Zo9|Zk7|Zog|Zoh|Zpf|Zoj|Zph|Zmw|Zpi|Zom|Zmx|Zk8|Zon|Zoq => (refine' TR.Fa.mk ?a ?l ?c ?k; (case a => k_is); (case l => k_is); (case c => k_is); (case k => k_is))
   case Zmy|Zpj|Zk9|Zka|Zrc|Zmz|Zpk|Zm_|Zot|Zou|Zkc => (refine' TR.Fa.mk ?a ?l ?c ?k; (case a => k_is); (case l => k_is); (case c => k_is); (case k => k_is))
   case ZC3c|ZD4n|ZD0w|ZD2a => k_is
   case Zre => constructor <;> k_is
   case ZT => constructor <;> kit_is
   case Zsn|Ztk|ZG7s|ZG3d => k_is
   case ZD2u => constructor <;> k_is
   case ZD0q|ZD0t|ZD0n|ZD2e|ZD3b => k_is
   case ZD4d => kit_is
   case Zke => (refine' TR.Fb.mk ?a ?i ?l ?c ?k; (case a => k_is); (case i => k_is); (case l => k_is); (case c => k_is); (case k => k_is))
   case ZG4c => k_is
   case ZD4k => constructor <;> k_is
   case ZD0p|ZD1y|ZD1d|ZD1r|ZD0j => k_is
   case ZD1t => kit_is
   case Zkf => (refine' TR.Fb.mk ?a ?i ?l ?c ?k; (case a => k_is); (case i => k_is); (case l => k_is); (case c => k_is); (case k => k_is))
   case ZG3e => k_is
   case ZD5a => constructor <;> k_is
   case ZD1b|ZD1w|ZD4p|ZD1a|ZD2y => k_is
   case ZD2q => kit_is
   case Zkg => (refine' TR.Fb.mk ?a ?i ?l ?c ?k; (case a => k_is); (case i => k_is); (case l => k_is); (case c => k_is); (case k => k_is))
   case ZG3a => k_is
   case ZD2h => constructor <;> k_is
   case ZD4v|ZD1z|ZD4m|ZD1j|ZD2t => k_is
   case ZD2v => kit_is
   case Zkh => (refine' TR.Fb.mk ?a ?i ?l ?c ?k; (case a => k_is); (case i => k_is); (case l => k_is); (case c => k_is); (case k => k_is))
   case ZG3k => k_is
   case ZD0s => constructor <;> k_is
   case ZD2b|ZD3r|ZD2m|ZD3n|ZD0x => k_is
   case ZD4t => kit_is
   case Zki => (refine' TR.Fb.mk ?a ?i ?l ?c ?k; (case a => k_is); (case i => k_is); (case l => k_is); (case c => k_is); (case k => k_is))
   case ZG3w => k_is
   case ZD3m => constructor <;> k_is
   case ZD1p|ZD3t|ZD3g|ZD3w|ZD2z => k_is
   case ZD0z => kit_is
   case Zkj => (refine' TR.Fb.mk ?a ?i ?l ?c ?k; (case a => k_is); (case i => k_is); (case l => k_is); (case c => k_is); (case k => k_is))
   case ZG2p => k_is
   case ZD3u => constructor <;> k_is
   case ZD1u|ZD4u|ZD0m|ZD3j|ZD0v => k_is
   case ZD4q => kit_is
   case Zkm => (refine' TR.Fb.mk ?a ?i ?l ?c ?k; (case a => k_is); (case i => k_is); (case l => k_is); (case c => k_is); (case k => k_is))
   case ZG3g => k_is
   case ZD4w => constructor <;> k_is
   case ZD2d|ZD0k|ZD3p|ZD3y|ZD1h => k_is
   case ZD3f => kit_is
   case Zkn => (refine' TR.Fb.mk ?a ?i ?l ?c ?k; (case a => k_is); (case i => k_is); (case l => k_is); (case c => k_is); (case k => k_is))
   case ZG2z => k_is
   case ZD2g => constructor <;> k_is
   case ZD1x|ZD3z|ZD4s|ZD4g|ZA8f|ZA8h|ZA3z|ZA5y|ZD0y|ZD2w|ZD4h|ZD1m|ZD4z => k_is
   case ZB5v => kit_is
   case Zbo|Zgi|Zbr|Zgj|Zbt|Zgk|Zbw|Zgl|Zbx|Zgm|Zbz|Zgn|Zb_|Zgq|Zc4|Zgr => (refine' TR.Fb.mk ?a ?i ?l ?c ?k; (case a => k_is); (case i => k_is); (case l => k_is); (case c => k_is); (case k => k_is))
   case ZG2v => k_is
   case ZD3d => constructor <;> k_is
   case ZD4e|ZD0r|ZA8d|ZA8e|ZA5w|ZA8g|ZA5z|ZA3y|ZD1f|ZD1v|ZD3h|ZD1n|ZD3c|ZD2j => k_is
   case Zj6|Zgt|Zn8|Zgu|Zj7 => (refine' TR.Fb.mk ?a ?i ?l ?c ?k; (case a => k_is); (case i => k_is); (case l => k_is); (case c => k_is); (case k => k_is))
   case ZG3v|ZD8t|ZD8w|ZD8v|ZD8r|ZD3q|ZD8s|Zcty|Zccl|Zcex|Zsub5|Zxga5|Zxgh5|Zxca5|Zxob5|Zxbe5|Zxcl5 => k_is
   case ZG8q|ZG7t|ZG7q|ZG7z|ZG8m|Zhv5 => kit_is
   case ZlT|ZlN => k_is
   case ZalN => simp
   case ZniT|ZlT1|ZsaT|Znsg5|ZD8u|ZG2q|ZG2k => k_is
   case ZfcT => rfl
   case ZkTR => kit_is
   case Zq1|Zq2|Zq3|Zq4 => k_exc
   case Za_S|ZlS => k_is
   case Zko => (refine' TR.Fb.mk ?a ?i ?l ?c ?k; (case a => k_is); (case i => k_is); (case l => k_is); (case c => k_is); (case k => k_is))
   case ZA4x|ZC0t|ZC0s|ZB5s|ZB2e|ZB5t|ZB5u => kit_is
   case Zsub2|Zxga2|Zxgh2|Zxca2|Zxob2|Zxbe2|Zxcl2 => k_is
   case ZG3q|ZG4e|ZG3m|ZG3z|ZG4b|Zhv2 => kit_is
   case ZtyT|ZsubT|ZG2w => k_is
   case ZD1s => constructor <;> k_is
   case ZD3s|ZD4c|ZD5b|ZD0u|ZB2d|ZA5x|ZD2c|ZD3e|ZD1k|ZD3x|ZD1e|ZB8c => k_is
   case Zj8|Zow => (refine' TR.Fb.mk ?a ?i ?l ?c ?k; (case a => k_is); (case i => k_is); (case l => k_is); (case c => k_is); (case k => k_is))
   case ZD2r => kit_is

