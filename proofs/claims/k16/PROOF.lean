import PyProof.Rows.All
import Wide.All
import OpenK.KLine
import OpenK.KOwn
import KE.RegKIsAll
import KE.KItem
import KE.LcSums
import KE.KPairTest
import Wide.FinOn
import Lean
import PyProof.EqAt
import PyProof.EqKinds
import PyProof.TupleCall
import PyProof.Rows.Catch
import PyProof.Rows.TupIter
import PyProof.TupleIter
import PyProof.Seq
import PyProof.ExcInit
import PyProof.ExcClass2
import KE.KIntText
import PyProof.StrOps2
import PyProof.ConsumeWalk
import PyProof.Rows.RuleM_int
import PyProof.ZipIter
import PyProof.EnumMake
import PyProof.Rows.TupAssign
import PyProof.Rows.Range3
import PyProof.DictWalks
import PyProof.DictUpdate
import PyProof.P3In
import PySem.Challenge.RW_tenreckon_k16_fused
set_option Elab.async false
set_option linter.all false
set_option maxRecDepth 100000
theorem L2.hideG{α β:Type}{I Z:α ->β ->Prop}(h:∀Z',Z'=Z ->∀a b,I a b ->Z' a b):∀a b,I a b ->Z a b:=h Z rfl
namespace L2
open PySem PySem.Spec PyProof.Rows
abbrev Key:=Sum Int Str
noncomputable def B5g:Key ->Value ->Bool
 | .inl k,v=>Value.isInt k v
 | .inr x,v=>Value.isStrOf x v
noncomputable def J3p (w:World):Key ->Int
 | .inl k=>hashInt k
 | .inr x=>hashStr w x
theorem Z4:∀{k:Key} {v:Value},B5g k v=true ->(∃i t,k=Sum.inl i/\v=Value.int i t)\/(∃x t,k=Sum.inr x/\v=Value.str x t)
 | .inl i,v,h=>by
   obtain⟨t,e⟩:=Value.isInt_shape (k:=i) (v:=v) h
   exact .inl ⟨i,t,rfl,e⟩
 | .inr x,v,h=>by
   obtain⟨t,e⟩:=Value.isStrOf_shape (x:=x) (v:=v) h
   exact .inr ⟨x,t,rfl,e⟩
theorem C6j(i:Int)(t:Tok):B5g (.inl i) (.int i t)=true:=by simp[B5g,Value.isInt]
theorem C7r(x:Str)(t:Tok):B5g (.inr x) (.str x t)=true:=by simp[B5g,Value.isStrOf]
theorem G4e(a b:Int):decide ((Sum.inl a:Key)=Sum.inl b)=(a==b):=by
 by_cases e:a=b
 . subst e;simp
 have h:¬(Sum.inl a:Key)=Sum.inl b:=fun q=>e (Sum.inl.inj q)
 rw[decide_eq_false h]
 exact(beq_eq_false_iff_ne.mpr e).symm
theorem G4j(a b:Str):decide ((Sum.inr a:Key)=Sum.inr b)=decide (a=b):=by
 by_cases e:a=b
 . subst e;simp
 have h:¬(Sum.inr a:Key)=Sum.inr b:=fun q=>e (Sum.inr.inj q)
 rw[decide_eq_false h,decide_eq_false e]
theorem G5b(a:Int)(b:Str):decide ((Sum.inl a:Key)=Sum.inr b)=false:=decide_eq_false (fun q=>nomatch q)
theorem G5d(a:Str)(b:Int):decide ((Sum.inr a:Key)=Sum.inl b)=false:=decide_eq_false (fun q=>nomatch q)
noncomputable def A0j (prog:Program) (w:World):PySem.KeyKind prog w Key where
 is:=B5g
 hash:=J3p w
 inj :=fun v a b ha hb=>by
   rcases Z4 ha with⟨i,t,rfl,rfl⟩|⟨x,t,rfl,rfl⟩
   . rcases Z4 hb with⟨j,u,rfl,e⟩|⟨y,u,rfl,e⟩
     . injection e with e1 _;rw[e1]
     . exact nomatch e
   . rcases Z4 hb with⟨j,u,rfl,e⟩|⟨y,u,rfl,e⟩
     . exact nomatch e
     . injection e with e1 _;rw[e1]
 byValue:=fun k v h=>by
   rcases Z4 h with⟨i,t,rfl,rfl⟩|⟨x,t,rfl,rfl⟩<;>rfl
 pyHash:=fun hv h=>by
   rcases Z4 hv with⟨i,t,rfl,rfl⟩|⟨x,t,rfl,rfl⟩
   . exact wpAny_pyHash_int h
   . exact wpAny_pyHash_str h
 eqBool:=fun hu hv h=>by
   rcases Z4 hu with⟨i,t,rfl,rfl⟩|⟨x,t,rfl,rfl⟩
   . rcases Z4 hv with⟨j,u,rfl,rfl⟩|⟨y,u,rfl,rfl⟩
     . rw[G4e] at h;exact wpAny_eqBool_int h
     . rw[G5b] at h;exact SeqAt.EqAt.int_str i t y u _ _ _ _ h
   . rcases Z4 hv with⟨j,u,rfl,rfl⟩|⟨y,u,rfl,rfl⟩
     . rw[G5d] at h;exact SeqAt.EqAt.str_int x t j u _ _ _ _ h
     . rw[G4j] at h;exact wpAny_eqBool_str h
 «strs» := fun k x t v h => by
   rcases Z4 h with⟨i,u,rfl,e⟩|⟨y,u,rfl,e⟩
   . exact nomatch e
   . injection e with e1 _
     subst e1
     cases v<;>rfl
theorem C0d(prog:Program)(w:World)(i:Int)(t:Tok):(A0j prog w).is (.inl i) (.int i t)=true:=C6j i t
theorem B9z(prog:Program)(w:World)(x:Str)(t:Tok):(A0j prog w).is (.inr x) (.str x t)=true:=C7r x t
inductive V where
 |non|bl (b:Bool)|int (i:Int)|str (x:Str)|byt (b:Array UInt8)|flt (b:UInt64)|ref (a:Addr)|ty (n:String)
 deriving DecidableEq
noncomputable def V4:V ->Value ->Prop
 | .non,u=>u=Value.none
 | .bl b,u=>u=Value.bool b
 | .int i,u=>∃t,u=Value.int i t
 | .str x,u=>∃t,u=Value.str x t
 | .byt b,u=>∃t,u=Value.bytes b t
 | .flt b,u=>∃t,u=Value.float b t
 | .ref a,u=>u=Value.ref a
 | .ty n,u=>u=Value.type n
noncomputable abbrev G7:List V ->List Value ->Prop:=Paired V4
theorem G7.length{xs:List V}{us:List Value}(r:G7 xs us):xs.length=us.length:=Paired.length r
theorem G7.get:∀{xs:List V} {us:List Value} {i:Nat} {x:V},G7 xs us ->xs[i]?=some x ->∃u,us[i]?=some u/\V4 x u
 |_,_,_,_,.nil,e=>by simp at e
 |_,_,0,_,.cons r _,e=>by simp at e;subst e;exact⟨_,rfl,r⟩
 | _,_,i+1,x,.cons _ t,e=>by
   obtain⟨u,h1,h2⟩:=G7.get (i:=i) (x:=x) t (by simpa using e)
   exact⟨u,by simpa using h1,h2⟩
theorem G7.set{x:V}{u:Value}(r:V4 x u):∀{xs:List V} {us:List Value} (i:Nat),G7 xs us ->G7 (xs.set i x) (us.set i u)
 |_,_,_,.nil=> .nil
 |_,_,0,.cons _ t=> .cons r t
 |_,_,i+1,.cons q t=> .cons q (G7.set r i t)
theorem G7.append:∀{xs ys:List V} {us ws:List Value},G7 xs us ->G7 ys ws ->G7 (xs++ys) (us++ws)
 |_,_,_,_,.nil,s=>s
 |_,_,_,_,.cons r t,s=> .cons r (G7.append t s)
theorem G7.take:∀{xs:List V} {us:List Value} (n:Nat),G7 xs us ->G7 (xs.take n) (us.take n)
 |_,_,0,_=> .nil
 |_,_,_+1,.nil=> .nil
 |_,_,n+1,.cons r t=> .cons r (G7.take n t)
theorem G7.drop:∀{xs:List V} {us:List Value} (n:Nat),G7 xs us ->G7 (xs.drop n) (us.drop n)
 |_,_,0,r=>r
 |_,_,_+1,.nil=> .nil
 |_,_,n+1,.cons _ t=>G7.drop n t
noncomputable def A4g:Option V ->Option Value ->Prop
 |some v,some u=>V4 v u
 |none,none=>True
 |_,_=>False
def KV {κ:Type}:List (κ×V) ->List (κ×Value) ->Prop:=Paired fun(p:κ×V) (q:κ×Value)=>p.1=q.1/\V4 p.2 q.2
noncomputable def kV:Key ->V
 | .inl i=> .int i
 | .inr x=> .str x
inductive HO where
 |lst (xs:List V)
 |tup (xs:List V)
 |dK (kvs:List (Key×V))|dT (kvs:List (List Key×V))
 |set (S:Int ->Bool) (n:Nat)
 |ins (C dx:Addr) (fs:List (Str×V))
 |own (x:Addr)
 |xd (fs:List (Str×V))
 |met (f x:Addr)
 |rng (lo hi:Int)
 |frz (o:Obj) (u:HO)
 |tbl (ps:Array Value)
 |ext (φ:Heap ->Prop)
abbrev Hp:=Addr ->Option HO
noncomputable def upd (H:Hp) (a:Addr) (o:HO):Hp:=fun b=>if b=a then some o else H b
theorem A4{H:Hp}{a:Addr}{o:HO}:upd H a o a=some o:=by unfold upd;rw[if_pos rfl]
theorem D0{H:Hp}{a b:Addr}{o:HO}(h:b≠a):upd H a o b=H b:=by unfold upd;rw[if_neg h]
theorem G0z{H:Hp}{a:Addr}{o u:HO}:upd (upd H a o) a u=upd H a u:=by
 funext b;unfold upd;split<;>rfl
theorem U4{H:Hp}{a b:Addr}{o u:HO}(h:H a=some o)(h':H b=some u)(d:o≠u):a≠b:=by
 intro e;subst e;rw[h] at h';exact d (Option.some.inj h')
theorem D8{H:Hp}{a b:Addr}{o:HO}(h:H a=some o)(h':H b=none):a≠b:=by
 intro e;subst e;rw[h] at h';cases h'
section
variable(P:Program)(w:World)
noncomputable def Z2 (H:Hp) (h:Heap) (a:Addr):HO ->Prop
 | .lst xs=>xs.length<=sizeLine/\∃(its:List Value) (n:Nat),G7 xs its/\h.get? a=some {cls:= .type "list",data:= .seq its.toArray n}
 | .tup xs=>xs.length<=sizeLine/\∃its:List Value,G7 xs its/\IsTup h a its.toArray
 | .dK kvs=>kvs.length<=sizeLine/\(a==sysModules)=false/\∃vs,KV kvs vs/\h.DictOf (A0j P w) a vs
 | .dT kvs=>kvs.length<=sizeLine/\(a==sysModules)=false/\∃xs:List (List Key×Addr×Value),
     Paired (fun(p:List Key×V) (q:List Key×Addr×Value)=>p.1=q.1/\H q.2.1=some (.tup (p.1.map kV))/\V4 p.2 q.2.2) kvs xs/\
     ∃o es ep,h.get? a=some o/\o.ExactDict/\o.data= .dict es ep/\es.toList=xs.map (entryOfKey (tupleKind (A0j P w)))/\(xs.map (·.1)).Nodup
 | .set S n=>h.SetOf (intKind P w) a S n
 | .ins C dx fs=>H dx=some (.own a)/\fs.length<=1000/\dx≠a/\h.get? a=some (PySem.W.instObj C dx)/\
     ∃mA,h.Ns1 dx mA/\(∀f,A4g (fs.lookup f) (mA f))/\PySem.Within mA (fs.map (·.1))
 | .own _=>∃o,h.get? a=some o
 | .xd fs=>∃mA,h.Ns1 a mA/\∀f,A4g (fs.lookup f) (mA f)
 | .rng lo hi=>∃t u v,h.get? a=some {cls:= .type "range",data:= .fields #[.int lo t,.int hi u,.int 1 v]}
 | .frz o u=>h.get? a=some o/\Z2 H h a u
 | .tbl ps=>h.get? a=some {cls:= .none,data:= .fields ps}
 | .met f x=>h.get? a=some (PySem.W.methodObj (.ref f) (.ref x))
 | .ext φ=>φ h/\(∃o,h.get? a=some o)/\∀h1 h2:Heap,φ h1 ->(∀o,h1.get? a=some o ->h2.get? a=some o) ->φ h2
def HOk (H:Hp) (h:Heap):Prop:=∀a o,H a=some o ->Z2 P w H h a o
end
section
variable{P:Program}{w:World}{H H':Hp}{h h':Heap}{a:Addr}{o:HO}
theorem Z2.lt(x:Z2 P w H h a o):a<h.objs.size:=by
 cases o with
 |lst xs=>obtain⟨_,_,_,_,e⟩:=x;exact Heap.lt_size e
 |tup xs=>obtain⟨_,_,_,p⟩:=x;exact p.lt
 |dK kvs=>obtain⟨_,_,_,_,o,_,_,e,_⟩:=x;exact Heap.lt_size e
 |dT kvs=>obtain⟨_,_,_,_,o,_,_,e,_⟩:=x;exact Heap.lt_size e
 |set S n=>obtain⟨o,_,_,_,e,_⟩:=x;exact Heap.lt_size e
 |ins C dx fs=>obtain⟨_,_,_,e,_⟩:=x;exact Heap.lt_size e
 |own y=>obtain⟨_,e⟩:=x;exact Heap.lt_size e
 |xd fs=>obtain⟨_,⟨_,_,_,e,_⟩,_⟩:=x;exact Heap.lt_size e
 |rng lo hi=>obtain⟨_,_,_,e⟩:=x;exact Heap.lt_size e
 |frz ob u=>obtain⟨e,_⟩:=x;exact Heap.lt_size e
 |tbl ps=>exact Heap.lt_size (show h.get? a=some _ from x)
 |met f y=>exact Heap.lt_size (show h.get? a=some _ from x)
 |ext φ=>obtain⟨_,⟨_,e⟩,_⟩:=x;exact Heap.lt_size e
theorem Paired.mapP{α β:Type}{F G:α ->β ->Prop}:∀{l₁:List α} {l₂:List β},Paired F l₁ l₂ ->(∀a b,F a b ->G a b) ->Paired G l₁ l₂
 |_,_,.nil,_=> .nil
 |_,_,.cons r t,f=> .cons (f _ _ r) (Paired.mapP t f)
theorem Z2.stay(x:Z2 P w H h a o)(k:∀b u,(b=a\/H b=some (.own a)) ->h.get? b=some u ->h'.get? b=some u)
   (ho:∀b,H b=some (.own a) ->H' b=some (.own a)) (ht:∀b xs,H b=some (.tup xs) ->H' b=some (.tup xs)):Z2 P w H' h' a o:=by
 induction o with
 |lst xs=>obtain⟨z,its,n,r,e⟩:=x;exact⟨z,its,n,r,k _ _ (.inl rfl) e⟩
 |tup xs=>obtain⟨z,its,r,ob,e,c⟩:=x;exact⟨z,its,r,ob,k _ _ (.inl rfl) e,c⟩
 |dK kvs=>obtain⟨z,y,vs,r,ob,es,ep,e,c⟩:=x;exact⟨z,y,vs,r,ob,es,ep,k _ _ (.inl rfl) e,c⟩
 | dT kvs=>
   obtain⟨z,y,xs,r,ob,es,ep,e,c⟩:=x
   exact⟨z,y,xs,Paired.mapP r fun p q z=>⟨z.1,ht _ _ z.2.1,z.2.2⟩,ob,es,ep,k _ _ (.inl rfl) e,c⟩
 |set S n=>obtain⟨ob,es,ep,t,e,c⟩:=x;exact⟨ob,es,ep,t,k _ _ (.inl rfl) e,c⟩
 | ins C dx fs=>
   obtain⟨d,z,ne,e,mA,⟨od,es,ep,e2,c⟩,r⟩:=x
   exact⟨ho _ d,z,ne,k _ _ (.inl rfl) e,mA,⟨od,es,ep,k _ _ (.inr d) e2,c⟩,r⟩
 |own y=>obtain⟨ob,e⟩:=x;exact⟨ob,k _ _ (.inl rfl) e⟩
 |xd fs=>obtain⟨mA,⟨od,es,ep,e,c⟩,r⟩:=x;exact⟨mA,⟨od,es,ep,k _ _ (.inl rfl) e,c⟩,r⟩
 |rng lo hi=>obtain⟨t,u,v,e⟩:=x;exact⟨t,u,v,k _ _ (.inl rfl) e⟩
 |frz ob u ih=>obtain⟨e,q⟩:=x;exact⟨k _ _ (.inl rfl) e,ih q⟩
 | tbl ps=>
   have e:h.get? a=some {cls:= .none,data:= .fields ps}:=x
   show h'.get? a=some {cls:= .none,data:= .fields ps}
   exact k a _ (.inl rfl) e
 | met f y=>
   have e:h.get? a=some (PySem.W.methodObj (.ref f) (.ref y)):=x
   show h'.get? a=some (PySem.W.methodObj (.ref f) (.ref y))
   exact k a _ (.inl rfl) e
 |ext φ=>obtain⟨p,⟨o,e⟩,st⟩:=x;exact⟨st _ _ p fun o q=>k _ _ (.inl rfl) q,⟨o,k _ _ (.inl rfl) e⟩,st⟩
theorem HOk.lt(x:HOk P w H h)(e:H a=some o):a<h.objs.size:=(x a o e).lt
theorem HOk.fresh(x:HOk P w H h)(e:h.objs.size<=a):H a=none:=by
 cases q:H a with
 |none=>rfl
 |some u=>exact absurd (Nat.lt_of_lt_of_le (x.lt q) e) (Nat.lt_irrefl _)
theorem HOk.kept(x:HOk P w H h)(k:∀b u,h.get? b=some u ->h'.get? b=some u):HOk P w H h':=fun a o e=>
 (x a o e).stay (fun b u _ q=>k b u q) (fun _ q=>q) fun _ _ q=>q
theorem HOk.laid(x:HOk P w H h)(k:∀b u,h.get? b=some u ->h'.get? b=some u)(hp:h.objs.size<=a)(new:Z2 P w (upd H a o) h' a o):HOk P w (upd H a o) h':=fun b u e=>by
 have hn:=x.fresh hp
 by_cases hb:b=a
 . subst hb;rw[A4] at e;cases e;exact new
 . rw[D0 hb] at e
   exact(x b u e).stay (fun c v _ q=>k c v q) (fun c q=>by rw[D0 (D8 q hn)];exact q) fun c xs q=>by rw[D0 (D8 q hn)];exact q
end
def Rd (H:Hp) (a:Addr) (u:HO):Prop:=H a=some u\/∃o,H a=some (.frz o u)
theorem Rd.ok{P:Program}{w:World}{H:Hp}{h:Heap}{a:Addr}{u:HO}(r:Rd H a u)(x:HOk P w H h):Z2 P w H h a u:=by
 rcases r with r|⟨o,r⟩
 . exact x a u r
 obtain⟨_,q⟩:=x a _ r
 exact q
noncomputable def Mut:Option HO ->Prop
 |some (.lst _)=>True
 |some (.dK _)=>True
 |some (.dT _)=>True
 |some (.set _ _)=>True
 |some (.ins _ _ _)=>True
 |some (.ext _)=>True
 |_=>False
section
variable{P:Program}{w:World}{H:Hp}{h h':Heap}{x e:Addr}{o':HO}
theorem HOk.write(ok:HOk P w H h)(mu:Mut (H x))(he:e=x\/H e=some (.own x))(k:∀b u,b≠e ->h.get? b=some u ->h'.get? b=some u)(heo:∃u,h'.get? e=some u)
   (new:Z2 P w (upd H x o') h' x o'):HOk P w (upd H x o') h':=fun b u q=>by
 have nown:∀c y,H c=some (.own y) ->c≠x:=fun c y r z=>by subst z;rw[r] at mu;exact mu
 have ntup:∀c xs,H c=some (.tup xs) ->c≠x:=fun c xs r z=>by subst z;rw[r] at mu;exact mu
 by_cases hb:b=x
 . subst hb;rw[A4] at q;cases q;exact new
 . rw[D0 hb] at q
   by_cases hbe:b=e
   . have q':H b=some (.own x):=by
       rcases he with z|z
       . exact absurd (hbe.trans z) hb
       . rw[hbe];exact z
     rw[q] at q';cases q'
     obtain⟨v,hv⟩:=heo
     exact⟨v,by rw[hbe];exact hv⟩
   . refine(ok b u q).stay (fun c v hc r=>k c v ?_ r) (fun c r=>by rw[D0 (nown c b r)];exact r) fun c xs r=>by rw[D0 (ntup c xs r)];exact r
     rcases hc with rfl|hc
     . exact hbe
     . rintro rfl
       rcases he with z|z
       . exact nown c b hc z
       . rw[hc] at z;cases z;exact hb rfl
end
structure Un(fs ex:List Addr)(H H':Hp)(h h':Heap):Prop where
 keep:∀b o,h.get? b=some o ->H b=none ->b ∉ fs ->b ∉ ex ->h'.get? b=some o
 slot:∀b o,h.get? b=some o ->H b=none ->b∈fs ->b ∉ ex ->∃sl,h'.get? b=some {o with slots:=sl}
 free:∀b o,h.get? b=some o ->H b=none ->b ∉ ex ->H' b=none
 there:∀b o,h.get? b=some o ->b ∉ ex ->∃o',h'.get? b=some o'
 tups:∀b xs,H b=some (.tup xs) ->H' b=some (.tup xs)
 frzs:∀b o u,H b=some (.frz o u) ->H' b=some (.frz o u)
 tbls:∀b ps,H b=some (.tbl ps) ->∃more,H' b=some (.tbl (ps++more))
section
variable{fs fs' ex ex':List Addr}{H H1 H2:Hp}{h h1 h2 h':Heap}{a x e:Addr}{o:HO}
theorem Un.any(u:Un fs ex H H1 h h1){b:Addr}{ob:Obj}(q:h.get? b=some ob)(n:H b=none)(hx:b ∉ ex):∃sl,h1.get? b=some {ob with slots:=sl}:=by
 by_cases hb:b∈fs
 . exact u.slot b ob q n hb hx
 exact⟨ob.slots,u.keep b ob q n hb hx⟩
theorem Un.kept(k:∀b u,h.get? b=some u ->h'.get? b=some u):Un fs ex H H h h':=
 ⟨fun b ob q _ _ _=>k b ob q,fun b ob q _ _ _=>⟨ob.slots,k b ob q⟩,fun _ _ _ n _=>n,fun b ob q _=>⟨ob,k b ob q⟩,fun _ _ q=>q,fun _ _ _ q=>q,fun _ ps q=>⟨#[],by rw[q];simp⟩⟩
theorem Un.refl:Un fs ex H H h h:=Un.kept fun _ _ q=>q
theorem Un.laid(k:∀b u,h.get? b=some u ->h'.get? b=some u)(hp:h.objs.size<=a)(hn:H a=none):Un fs ex H (upd H a o) h h' where
 keep:=fun b u q _ _ _=>k b u q
 slot:=fun b u q _ _ _=>⟨u.slots,k b u q⟩
 free:=fun b u q n _=>by rw[D0 (Nat.ne_of_lt (Nat.lt_of_lt_of_le (Heap.lt_size q) hp))];exact n
 there:=fun b u q _=>⟨u,k b u q⟩
 tups:=fun b xs q=>by rw[D0 (D8 q hn)];exact q
 frzs:=fun b u xs q=>by rw[D0 (D8 q hn)];exact q
 tbls:=fun b ps q=>⟨#[],by rw[D0 (D8 q hn),q];simp⟩
theorem Un.write(mu:Mut (H x))(he:e=x\/H e=some (.own x))(k:∀b u,b≠e ->h.get? b=some u ->h'.get? b=some u)(heo:∃u,h'.get? e=some u):Un fs ex H (upd H x o) h h':=by
 have hx:∀b,H b=none ->b≠x:=fun b n z=>by subst z;rw[n] at mu;exact mu
 have hb:∀b,H b=none ->b≠e:=fun b n z=>by
   subst z
   rcases he with r|r
   . exact hx b n r
   . rw[n] at r;cases r
 have hm:∀b u,H b=some u ->¬Mut (some u) ->b≠x:=fun b u q nm z=>by subst z;rw[q] at mu;exact nm mu
 refine⟨fun b u q n _ _=>k b u (hb b n) q,fun b u q n _ _=>⟨u.slots,k b u (hb b n) q⟩,fun b u q n _=>by rw[D0 (hx b n)];exact n,fun b u q _=>?_,
   fun b xs q=>by rw[D0 (hm b _ q fun z=>z)];exact q,fun b u xs q=>by rw[D0 (hm b _ q fun z=>z)];exact q,fun b ps q=>⟨#[],by rw[D0 (hm b _ q fun z=>z),q];simp⟩⟩
 by_cases hbe:b=e
 . subst hbe;exact heo
 exact⟨u,k b u hbe q⟩
end
noncomputable def trk (h:Heap) (H:Hp):List Addr:=(List.range h.objs.size).filter fun a=>(H a).isSome
noncomputable def B6k (h:Heap) (H:Hp):Heap:=PySem.W.hideAll h (trk h H)
theorem C7m(h:Heap)(H:Hp):(B6k h H).objs.size=h.objs.size:=PySem.W.hideAll_size _ _
theorem D1u{h:Heap}{H:Hp}{b:Addr}{o:Obj}(e:h.get? b=some o)(n:H b=none):(B6k h H).get? b=some o:=
 PySem.W.hideAll_get _ e fun hm=>by
   have q:(H b).isSome=true:=(List.mem_filter.mp hm).2
   rw[n] at q;simp at q
theorem G0b{h:Heap}{H:Hp}{b:Addr}{o:Obj}(e:(B6k h H).get? b=some o):h.get? b=some o/\H b=none:=by
 have e':h.get? b=some o:=PySem.W.of_hideAll (trk h H) e
 refine⟨e',?_⟩
 cases q:H b with
 |none=>rfl
 | some x=>
   have hm:b∈trk h H:=List.mem_filter.mpr ⟨List.mem_range.mpr (Heap.lt_size e'),by simp[q]⟩
   have z:(B6k h H).get? b=none:=PySem.W.hideAll_none (trk h H) hm
   rw[z] at e;cases e
structure Mod(K:PySem.W.Frag)(mg:Str ->Option Value)(base:Heap):Prop where
 kin:K.In base
 glob:base.Ns mainGlobals mg
 blt:∃mb,base.Ns builtinsNs mb/\∀x:Str,x≠"__name__" ->mb x=bootBuiltins x
 nolimit:base.NoLimit
structure Cx where
 prog:Program
 w:World
 K:PySem.W.Frag
 mg:Str ->Option Value
 base:Heap
 A:Around
 N:List Str
 s₀:Shared
 H₀:Hp
 env:Env
 outer:List Env
 stack:List Env
 ex:List Addr
 fn:Str ->Bool
 calm:Bool
 pn:List (Addr×Obj)
 xe:Value ->Shared ->Prop
noncomputable def frs (l:List Env):List Addr:=l.filterMap (·.frame)
noncomputable abbrev Cx.fs (X:Cx):List Addr:=frs X.outer
def Vis (sc:Scope) (x:Str):Prop:=sc.names.lookup x=some .local\/sc.names.lookup x=some .cell\/sc.names.lookup x=some .free
def Loc (sc:Scope) (x:Str):Prop:=sc.names.lookup x=some .local\/sc.names.lookup x=some .cell
def J0y (env:Env) (h:Heap) (m:Str ->Option Value) (x:Str) (u:Value):Prop:=
 (env.kindOf x=some .local/\m x=some u)\/((env.kindOf x=some .cell\/env.kindOf x=some .free)/\∃c,env.cells.lookup x=some c/\h.IsCell c (some u))
structure Cx.Ok(X:Cx):Prop where
 mod:Mod X.K X.mg X.base
 kind:X.env.scope.kind= .function
 glob:X.env.globals=mainGlobals
 blt:X.env.builtins=builtinsNs
 above:X.s₀.heap.objs.size<=X.env.locals
 inj:∀x y c,X.env.cells.lookup x=some c ->X.env.cells.lookup y=some c ->x=y
 has:∀x,(X.env.kindOf x=some .cell\/X.env.kindOf x=some .free) ->∃c,X.env.cells.lookup x=some c
 cab:∀x c,X.fn x=true ->X.env.cells.lookup x=some c ->X.s₀.heap.objs.size<=c
 hd:X.calm=true ->X.A.handled=none
 frames:X.A.frames=some X.stack
 stk:X.stack=X.outer\/(X.stack=X.env::X.outer/\X.env.frame=some X.env.locals)
 exf:∀b∈X.ex,b≠X.env.locals/\∀x c,X.env.cells.lookup x=some c ->c≠b
 bs:∀b o,X.base.get? b=some o ->X.s₀.heap.get? b=some o/\X.H₀ b=none
 bsz:X.base.objs.size<=X.s₀.heap.objs.size
 noex:∀b o,X.base.get? b=some o ->b ∉ X.ex
 exfs:∀b∈X.ex,b ∉ X.fs
 funs:X.s₀.heap.FunFrames X.base X.outer
 frf:∀b∈X.fs,X.H₀ b=none
structure Inv(X:Cx)(pins:List (Addr×Obj))(σ:List (Option V))(H:Hp)(s:Shared):Prop where
 ok:X.Ok
 os:s.os=X.s₀.os
 bare:AllBare s.gens
 base:Un X.fs X.ex X.H₀ H X.s₀.heap s.heap
 loc:∃m,s.heap.Ns X.env.locals m/\∀(i:Nat) (x:Str) (v:V),X.N[i]?=some x ->σ[i]?=some (some v) ->Vis X.env.scope x ->∃u,V4 v u/\J0y X.env s.heap m x u
 cell:∀x c,X.env.cells.lookup x=some c ->∃v,s.heap.IsCell c v
 free:H X.env.locals=none
 freeC:∀x c,X.env.cells.lookup x=some c ->H c=none
 pin:∀p∈X.pn++pins,s.heap.get? p.1=some p.2/\H p.1=none/\p.1≠X.env.locals/\p.1 ∉ X.fs/\∀v,p.2.data≠ .cell v
 hok:HOk X.prog X.w H s.heap
 len:σ.length=X.N.length
section
variable{X:Cx}{pins:List (Addr×Obj)}{σ:List (Option V)}{H H':Hp}{s:Shared}{h':Heap}
theorem Cx.Ok.nofr(ok:X.Ok){b:Addr}{o:Obj}(e:X.base.get? b=some o):b ∉ X.fs:=fun hb=>by
 have:=(ok.funs.mem hb).1
 rw[e] at this;cases this
theorem Inv.bs(I:Inv X pins σ H s):∀b o,X.base.get? b=some o ->s.heap.get? b=some o/\H b=none:=fun b o e=>
 ⟨I.base.keep b o (I.ok.bs b o e).1 (I.ok.bs b o e).2 (I.ok.nofr e) (I.ok.noex b o e),I.base.free b o (I.ok.bs b o e).1 (I.ok.bs b o e).2 (I.ok.noex b o e)⟩
theorem Inv.bk(I:Inv X pins σ H s):∀b o,X.base.get? b=some o ->s.heap.get? b=some o:=fun b o e=>(I.bs b o e).1
theorem Inv.mod(I:Inv X pins σ H s):Mod X.K X.mg X.base:=I.ok.mod
theorem Inv.kIn(I:Inv X pins σ H s):X.K.In s.heap:=I.ok.mod.kin.keeps I.bk
theorem Inv.lt(I:Inv X pins σ H s):X.env.locals<s.heap.objs.size:=let⟨_,hn,_⟩:=I.loc;hn.lt
theorem Inv.sz(I:Inv X pins σ H s):X.s₀.heap.objs.size<=s.heap.objs.size:=Nat.le_trans I.ok.above (Nat.le_of_lt I.lt)
theorem Inv.nofs(I:Inv X pins σ H s){a:Addr}(h:s.heap.objs.size<=a):a ∉ X.fs:=fun hb=>by
 obtain⟨_,o,ho,_⟩:=I.ok.funs.mem hb
 exact absurd (Nat.lt_of_lt_of_le (Heap.lt_size ho) (Nat.le_trans I.sz h)) (Nat.lt_irrefl _)
theorem Inv.cne(I:Inv X pins σ H s):∀x c,X.env.cells.lookup x=some c ->c≠X.env.locals:=fun x c e z=>by
 obtain⟨v,o,ho,hd⟩:=I.cell x c e
 obtain⟨m,⟨o',es,ep,ho',hd',_⟩,_⟩:=I.loc
 rw[z,ho'] at ho;cases ho;rw[hd'] at hd;cases hd
theorem Inv.funs(I:Inv X pins σ H s):s.heap.FunFrames X.base X.outer:=by
 have all:∀(l:List Env),(∀b∈frs l,b∈X.fs) ->X.s₀.heap.FunFrames X.base l ->s.heap.FunFrames X.base l:=by
   intro l
   induction l with
   |nil=>intro _ _;trivial
   | cons env r ih=>
     intro hs hl
     obtain⟨hk,⟨L,o,hf,hn,ho,hd⟩,hr⟩:=hl
     have hL:L∈X.fs:=hs L (by unfold frs;rw[List.filterMap_cons,hf];exact List.mem_cons_self)
     obtain⟨sl,e⟩:=I.base.slot L o ho (I.ok.frf L hL) hL fun z=>I.ok.exfs L z hL
     exact⟨hk,⟨L,_,hf,hn,e,hd⟩,ih (fun b hb=>hs b (by unfold frs;rw[List.filterMap_cons,hf];exact List.mem_cons_of_mem _ hb)) hr⟩
 exact all X.outer (fun _ hb=>hb) I.ok.funs
theorem Inv.stack(I:Inv X pins σ H s):s.heap.FunFrames X.base X.stack:=by
 rcases I.ok.stk with e|⟨e,hf⟩
 . rw[e];exact I.funs
 rw[e]
 obtain⟨m,hn,_⟩:=I.loc
 refine .cons (by rw[I.ok.kind];decide) hf hn ?_ I.funs
 exact Heap.get?_none_of_le (Nat.le_trans I.ok.bsz I.ok.above)
theorem Inv.stkSub(I:Inv X pins σ H s):∀b∈frs X.stack,b∈X.env.locals::X.fs:=fun b hb=>by
 rcases I.ok.stk with e|⟨e,hf⟩
 . rw[e] at hb;exact List.mem_cons_of_mem _ hb
 . rw[e] at hb
   unfold frs at hb
   rw[List.filterMap_cons,hf] at hb
   exact hb
theorem Inv.stkFree(I:Inv X pins σ H s):∀b∈frs X.stack,H b=none:=fun b hb=>by
 rcases List.mem_cons.mp (I.stkSub b hb) with e|hb
 . rw[e];exact I.free
 . obtain⟨_,o,ho,_⟩:=I.ok.funs.mem hb
   exact I.base.free b o ho (I.ok.frf b hb) fun z=>I.ok.exfs b z hb
theorem Inv.step{g':Array GenState}{t':Nat}{d':Drawn}{ch:List Addr}(I:Inv X pins σ H s)
   (hch:∀b∈ch,(b∈X.ex\/X.s₀.heap.objs.size<=b)/\b≠X.env.locals/\(∀x c,X.env.cells.lookup x=some c ->c≠b)/\∀p∈X.pn++pins,p.1≠b)
   (keep:∀b o,b≠X.env.locals ->b ∉ X.fs ->b ∉ ch ->s.heap.get? b=some o ->H b=none ->h'.get? b=some o)
   (slot:∀b o,b≠X.env.locals ->b∈X.fs ->b ∉ ch ->s.heap.get? b=some o ->H b=none ->∃sl,h'.get? b=some {o with slots:=sl}) (free:∀b o,b ∉ ch ->s.heap.get? b=some o ->H b=none ->H' b=none)
   (there:∀b o,b ∉ ch ->s.heap.get? b=some o ->∃o',h'.get? b=some o')
   (tups:∀b xs,H b=some (.tup xs) ->H' b=some (.tup xs)) (frzs:∀b o u,H b=some (.frz o u) ->H' b=some (.frz o u)) (tbls:∀b ps,H b=some (.tbl ps) ->∃more,H' b=some (.tbl (ps++more)))
   (ns:∀m,s.heap.Ns X.env.locals m ->h'.Ns X.env.locals m) (hok:HOk X.prog X.w H' h') (hg:AllBare g'):
   Inv X pins σ H' {s with heap:=h',gens:=g',drawn:=d',toks:=t'}:=by
 have neL:∀b o,X.s₀.heap.get? b=some o ->b≠X.env.locals:=fun b o e=>Nat.ne_of_lt (Nat.lt_of_lt_of_le (Heap.lt_size e) I.ok.above)
 have neC:∀b o,X.s₀.heap.get? b=some o ->b ∉ X.ex ->b ∉ ch:=fun b o e hx hb=>by
   rcases(hch b hb).1 with z|z
   . exact hx z
   . exact absurd (Nat.lt_of_lt_of_le (Heap.lt_size e) z) (Nat.lt_irrefl _)
 have cellK:∀x c,X.env.cells.lookup x=some c ->∀v,s.heap.IsCell c v ->h'.IsCell c v:=fun x c e v ⟨o,ho,hd⟩=>by
   have nch:c ∉ ch:=fun z=>(hch c z).2.2.1 x c e rfl
   by_cases hc:c∈X.fs
   . obtain⟨sl,q⟩:=slot c o (I.cne x c e) hc nch ho (I.freeC x c e)
     exact⟨_,q,hd⟩
   . exact⟨o,keep c o (I.cne x c e) hc nch ho (I.freeC x c e),hd⟩
 refine⟨I.ok,I.os,hg,⟨fun b o e n hb hx=>?_,fun b o e n hb hx=>?_,fun b o e n hx=>?_,fun b o e hx=>?_,fun b xs e=>tups b xs (I.base.tups b xs e),fun b o xs e=>frzs b o xs (I.base.frzs b o xs e),fun b ps e=>?_⟩,?_,fun x c e=>?_,?_,fun x c e=>?_,fun p hp=>?_,hok,I.len⟩
 . exact keep b o (neL b o e) hb (neC b o e hx) (I.base.keep b o e n hb hx) (I.base.free b o e n hx)
 . obtain⟨sl,e1⟩:=I.base.slot b o e n hb hx
   obtain⟨sl',e2⟩:=slot b _ (neL b o e) hb (neC b o e hx) e1 (I.base.free b o e n hx)
   exact⟨sl',e2⟩
 . obtain⟨o',e1⟩:=I.base.there b o e hx
   exact free b o' (neC b o e hx) e1 (I.base.free b o e n hx)
 . obtain⟨o',e1⟩:=I.base.there b o e hx
   exact there b o' (neC b o e hx) e1
 . obtain⟨m1,e1⟩:=I.base.tbls b ps e
   obtain⟨m2,e2⟩:=tbls b _ e1
   exact⟨m1++m2,by rw[e2,Array.append_assoc]⟩
 . obtain⟨m,hn,hl⟩:=I.loc
   refine⟨m,ns m hn,fun i x v e1 e2 e3=>?_⟩
   obtain⟨u,r,l⟩:=hl i x v e1 e2 e3
   refine⟨u,r,?_⟩
   rcases l with l|⟨k,c,e,z⟩
   . exact .inl l
   . exact .inr ⟨k,c,e,cellK x c e _ z⟩
 . obtain⟨v,z⟩:=I.cell x c e
   exact⟨v,cellK x c e v z⟩
 . obtain⟨m,⟨o,_,_,ho,_⟩,_⟩:=I.loc
   exact free _ o (fun z=>(hch _ z).2.1 rfl) ho I.free
 . obtain⟨v,o,ho,hd⟩:=I.cell x c e
   exact free c o (fun z=>(hch c z).2.2.1 x c e rfl) ho (I.freeC x c e)
 obtain⟨e,n,ne,nf,d⟩:=I.pin p hp
 have nch:p.1 ∉ ch:=fun z=>(hch p.1 z).2.2.2 p hp rfl
 exact⟨keep p.1 p.2 ne nf nch e n,free p.1 p.2 nch e n,ne,nf,d⟩
theorem Inv.un{t':Nat}(I:Inv X pins σ H s)(u:Un X.fs [] H H' s.heap h')(hok:HOk X.prog X.w H' h'):Inv X pins σ H' {s with heap:=h',toks:=t'}:=by
 obtain⟨m,⟨o,es,ep,ho,r⟩,_⟩:=id I.loc
 obtain⟨sl,hL⟩:=u.any ho I.free (by simp)
 exact I.step (g':=s.gens) (d':=s.drawn) (ch:=[]) (fun _ z=>nomatch z) (fun b o _ hb _ e n=>u.keep b o e n hb (by simp)) (fun b o _ hb _ e n=>u.slot b o e n hb (by simp)) (fun b o _ e n=>u.free b o e n (by simp)) (fun b o _ e=>u.there b o e (by simp)) u.tups u.frzs u.tbls (fun m' hm=>by
   obtain⟨o',es',ep',ho',r'⟩:=hm
   rw[ho] at ho';cases ho'
   exact⟨_,es',ep',hL,r'⟩) hok I.bare
theorem Inv.call{g':Array GenState}{t':Nat}{d':Drawn}{ch:List Addr}(I:Inv X pins σ H s)(u:Un (frs X.stack) ch H H' s.heap h')(hok:HOk X.prog X.w H' h')(hg:AllBare g')
   (hch:∀b∈ch,(b∈X.ex\/X.s₀.heap.objs.size<=b)/\b≠X.env.locals/\(∀x c,X.env.cells.lookup x=some c ->c≠b)/\∀p∈X.pn++pins,p.1≠b):
   Inv X pins σ H' {s with heap:=h',gens:=g',drawn:=d',toks:=t'}:=by
 obtain⟨m,⟨o,es,ep,ho,r⟩,_⟩:=id I.loc
 obtain⟨sl,hL⟩:=u.any ho I.free fun z=>(hch _ z).2.1 rfl
 exact I.step (ch:=ch) hch (fun b o hL hb hc e n=>u.keep b o e n (fun z=>(List.mem_cons.mp (I.stkSub b z)).elim hL hb) hc) (fun b o _ _ hc e n=>u.any e n hc) (fun b o hc e n=>u.free b o e n hc) (fun b o hc e=>u.there b o e hc) u.tups u.frzs u.tbls (fun m' hm=>by
   obtain⟨o',es',ep',ho',r'⟩:=hm
   rw[ho] at ho';cases ho'
   exact⟨_,es',ep',hL,r'⟩) hok hg
theorem Inv.turned{t':Nat}{it:Addr}(I:Inv X pins σ H s)(k:∀b o,b≠it ->s.heap.get? b=some o ->h'.get? b=some o)(hn:H it=none)(hL:it≠X.env.locals)
   (h1:it∈X.ex\/X.s₀.heap.objs.size<=it) (h2:∀x c,X.env.cells.lookup x=some c ->c≠it) (h3:∀p∈X.pn++pins,p.1≠it):Inv X pins σ H {s with heap:=h',toks:=t'}:=by
 have nit:∀b u,H b=some u ->b≠it:=fun b u e z=>by rw[z,hn] at e;cases e
 refine I.step (g':=s.gens) (d':=s.drawn) (ch:=[it]) (fun b hb=>?_) (fun b o _ _ hc e _=>k b o (fun z=>hc (by simp[z])) e) (fun b o _ _ hc e _=>⟨o.slots,k b o (fun z=>hc (by simp[z])) e⟩) (fun _ _ _ _ n=>n)
   (fun b o hc e=>⟨o,k b o (fun z=>hc (by simp[z])) e⟩) (fun _ _ e=>e) (fun _ _ _ e=>e) (fun b ps e=>⟨#[],by rw[e];simp⟩) (fun m hm=>?_) (fun b u e=>?_) I.bare
 . have e:b=it:=by simpa using hb
   subst e
   exact⟨h1,hL,h2,h3⟩
 . obtain⟨o,es,ep,ho,r⟩:=hm
   exact⟨o,es,ep,k _ o (Ne.symm hL) ho,r⟩
 refine(I.hok b u e).stay (fun c v hc q=>k c v ?_ q) (fun _ q=>q) fun _ _ q=>q
 rcases hc with z|z
 . rw[z];exact nit b u e
 exact nit c _ z
theorem Inv.tok(I:Inv X pins σ H s)(t:Nat):Inv X pins σ H {s with toks:=t}:=I.un (h':=s.heap) (t':=t) Un.refl I.hok
theorem Inv.kept{t':Nat}(I:Inv X pins σ H s)(k:∀b u,s.heap.get? b=some u ->h'.get? b=some u):Inv X pins σ H {s with heap:=h',toks:=t'}:=I.un (Un.kept k) (I.hok.kept k)
theorem Inv.laid{a:Addr}{o:HO}{t':Nat}(I:Inv X pins σ H s)(k:∀b u,s.heap.get? b=some u ->h'.get? b=some u)(hp:s.heap.objs.size<=a)(new:Z2 X.prog X.w (upd H a o) h' a o):
   Inv X pins σ (upd H a o) {s with heap:=h',toks:=t'}:=I.un (Un.laid k hp (I.hok.fresh hp)) (I.hok.laid k hp new)
theorem Inv.write{x e:Addr}{o:HO}{t':Nat}(I:Inv X pins σ H s)(mu:Mut (H x))(he:e=x\/H e=some (.own x))(k:∀b u,b≠e ->s.heap.get? b=some u ->h'.get? b=some u)(heo:∃u,h'.get? e=some u)
   (new:Z2 X.prog X.w (upd H x o) h' x o):Inv X pins σ (upd H x o) {s with heap:=h',toks:=t'}:=I.un (Un.write mu he k heo) (I.hok.write mu he k heo new)
theorem Inv.weak{σ':List (Option V)}(I:Inv X pins σ H s)(hl:σ'.length=σ.length)(w:∀(i:Nat) v,σ'[i]?=some (some v) ->σ[i]?=some (some v)):Inv X pins σ' H s:=
 ⟨I.ok,I.os,I.bare,I.base,let⟨m,hn,hl'⟩:=I.loc;⟨m,hn,fun i x v e1 e2 e3=>hl' i x v e1 (w i v e2) e3⟩,I.cell,I.free,I.freeC,I.pin,I.hok,hl.trans I.len⟩
theorem Inv.pins_of{pins':List (Addr×Obj)}(I:Inv X pins σ H s)(h:∀p∈pins',s.heap.get? p.1=some p.2/\H p.1=none/\p.1≠X.env.locals/\p.1 ∉ X.fs/\∀v,p.2.data≠ .cell v):Inv X pins' σ H s:=
 ⟨I.ok,I.os,I.bare,I.base,I.loc,I.cell,I.free,I.freeC,fun p hp=>(List.mem_append.mp hp).elim (fun z=>I.pin p (List.mem_append_left _ z)) (h p),I.hok,I.len⟩
theorem B1f{N:List Str}(hN:N.Nodup){i j:Nat}{x:Str}(a:N[i]?=some x)(b:N[j]?=some x):i=j:=by
 obtain⟨h1,e1⟩:=List.getElem?_eq_some_iff.mp a
 obtain⟨h2,e2⟩:=List.getElem?_eq_some_iff.mp b
 exact(List.getElem_inj hN).mp (e1.trans e2.symm)
theorem A5k{M:Model}{A:Around}{E:Value ->Shared ->Prop}{i:Nat}{x:Str}{v:V}{u:Value}{Q:Unit ->Shared ->Prop}(I:Inv X pins σ H s)(hN:X.N.Nodup)(hi:X.N[i]?=some x)(hx:Loc X.env.scope x)(r:V4 v u)
   (h:∀s',Inv X pins (σ.set i (some v)) H s' ->(∃a,Heap.SameBut a s.heap s'.heap/\(a=X.env.locals\/X.env.cells.lookup x=some a)) ->Q () s') (hf:X.fn x=true\/X.env.scope.names.lookup x=some .local:=by first|exact .inl rfl|exact .inr rfl|assumption):wpAny M A (storeName X.env x u) Q E s:=by
 obtain⟨m,hn,hl⟩:=id I.loc
 have hcls:(X.env.scope.kind== .class||(X.env.scope.kind== .module&&X.env.locals !=X.env.globals))=false:=by rw[I.ok.kind];rfl
 have hiσ:i<σ.length:=by rw[I.len];exact(List.getElem?_eq_some_iff.mp hi).1
 have cne:=I.cne
 have tracked:∀{a:Addr} {h':Heap},(∃o,s.heap.get? a=some o/\H a=none) ->Heap.SameBut a s.heap h' ->HOk X.prog X.w H h':=fun{a h'} ha hs b ob e=>by
   obtain⟨_,_,hfree⟩:=ha
   refine(I.hok b ob e).stay (fun c w' hc q=>(hs.2 c ?_).trans q) (fun _ q=>q) fun _ _ q=>q
   rintro rfl
   rcases hc with rfl|hc
   . rw[hfree] at e;cases e
   . rw[hfree] at hc;cases hc
 rcases hx with hk|hk
 . refine wpAny_storeName_local hk hn (fun h' hn' hs=>?_) hcls
   obtain⟨oL,_,_,hoL,_⟩:=id hn
   refine h _ ⟨I.ok,I.os,I.bare,⟨fun b o e n hb hx=>?_,fun b o e n hb hx=>?_,I.base.free,fun b o e hx=>?_,I.base.tups,I.base.frzs,I.base.tbls⟩,⟨_,hn',fun j y v' e1 e2 e3=>?_⟩,fun y c e=>?_,I.free,I.freeC,fun p hp=>?_,tracked ⟨oL,hoL,I.free⟩ hs,by simpa using I.len⟩ ⟨_,hs,.inl rfl⟩
   . exact(hs.2 b (Nat.ne_of_lt (Nat.lt_of_lt_of_le (Heap.lt_size e) I.ok.above))).trans (I.base.keep b o e n hb hx)
   . obtain⟨sl,e1⟩:=I.base.slot b o e n hb hx
     exact⟨sl,(hs.2 b (Nat.ne_of_lt (Nat.lt_of_lt_of_le (Heap.lt_size e) I.ok.above))).trans e1⟩
   . obtain⟨o',e1⟩:=I.base.there b o e hx
     exact⟨o',(hs.2 b (Nat.ne_of_lt (Nat.lt_of_lt_of_le (Heap.lt_size e) I.ok.above))).trans e1⟩
   . by_cases hj:j=i
     . subst hj
       rw[hi] at e1;cases e1
       rw[List.getElem?_set_self hiσ] at e2
       cases e2
       exact⟨u,r,.inl ⟨hk,by simp⟩⟩
     . rw[List.getElem?_set_ne (Ne.symm hj)] at e2
       obtain⟨u',r',q⟩:=hl j y v' e1 e2 e3
       refine⟨u',r',?_⟩
       rcases q with⟨k,e⟩|⟨k,c,e,z⟩
       . refine .inl ⟨k,?_⟩
         have:y≠x:=fun e=>hj (B1f hN e1 (e▸hi))
         simp[this,e]
       . exact .inr ⟨k,c,e,z.sameBut hs (cne y c e)⟩
   . obtain⟨w',z⟩:=I.cell y c e
     exact⟨w',z.sameBut hs (cne y c e)⟩
   . obtain⟨e,n,ne,nf,d⟩:=I.pin p hp
     exact⟨(hs.2 p.1 ne).trans e,n,ne,nf,d⟩
 have hfn:X.fn x=true:=by
   rcases hf with z|z
   . exact z
   . rw[z] at hk;cases hk
 obtain⟨c,hc⟩:=I.ok.has x (.inl hk)
 obtain⟨w',z⟩:=I.cell x c hc
 refine wpAny_storeName_cell I.ok.kind hk hc z (fun h' hc' hs=>?_)
 obtain⟨oc,hoc,hocd⟩:=id z
 refine h {s with heap:=h'} ⟨I.ok,I.os,I.bare,⟨fun b o e n hb hx=>?_,fun b o e n hb hx=>?_,I.base.free,fun b o e hx=>?_,I.base.tups,I.base.frzs,I.base.tbls⟩,⟨m,hn.sameBut hs (Ne.symm (cne x c hc)),fun j y v' e1 e2 e3=>?_⟩,fun y c' e=>?_,I.free,I.freeC,fun p hp=>?_,tracked ⟨oc,hoc,I.freeC x c hc⟩ hs,by simpa using I.len⟩ ⟨c,hs,.inr hc⟩
 . exact(hs.2 b (Nat.ne_of_lt (Nat.lt_of_lt_of_le (Heap.lt_size e) (I.ok.cab x c hfn hc)))).trans (I.base.keep b o e n hb hx)
 . obtain⟨sl,e1⟩:=I.base.slot b o e n hb hx
   exact⟨sl,(hs.2 b (Nat.ne_of_lt (Nat.lt_of_lt_of_le (Heap.lt_size e) (I.ok.cab x c hfn hc)))).trans e1⟩
 . obtain⟨o',e1⟩:=I.base.there b o e hx
   exact⟨o',(hs.2 b (Nat.ne_of_lt (Nat.lt_of_lt_of_le (Heap.lt_size e) (I.ok.cab x c hfn hc)))).trans e1⟩
 . by_cases hj:j=i
   . subst hj
     rw[hi] at e1;cases e1
     rw[List.getElem?_set_self hiσ] at e2
     cases e2
     exact⟨u,r,.inr ⟨.inl hk,c,hc,hc'⟩⟩
   . rw[List.getElem?_set_ne (Ne.symm hj)] at e2
     obtain⟨u',r',q⟩:=hl j y v' e1 e2 e3
     refine⟨u',r',?_⟩
     rcases q with q|⟨k,c',e,z'⟩
     . exact .inl q
     . refine .inr ⟨k,c',e,z'.sameBut hs ?_⟩
       rintro rfl
       exact hj (B1f hN e1 (I.ok.inj _ _ _ e hc▸hi))
 . by_cases hcc:c'=c
   . subst hcc;exact⟨_,hc'⟩
   . obtain⟨w2,z2⟩:=I.cell y c' e
     exact⟨w2,z2.sameBut hs hcc⟩
 obtain⟨e,n,ne,nf,d⟩:=I.pin p hp
 refine⟨(hs.2 p.1 ?_).trans e,n,ne,nf,d⟩
 intro q
 rw[q,hoc] at e
 have q':oc=p.2:=Option.some.inj e
 exact d w' (by rw[<-q'];exact hocd)
theorem A2g{M:Model}{A:Around}{E:Value ->Shared ->Prop}{i:Nat}{x:Str}{v:V}{u:Value}{Q:Unit ->Shared ->Prop}(I:Inv X pins σ H s)(hN:X.N.Nodup)(hi:X.N[i]?=some x)(hx:Loc X.env.scope x)(r:V4 v u)
   (h:∀s',Inv X pins (σ.set i (some v)) H s' ->Q () s') (hf:X.fn x=true\/X.env.scope.names.lookup x=some .local:=by first|exact .inl rfl|exact .inr rfl|assumption):wpAny M A (storeName X.env x u) Q E s:=
 A5k I hN hi hx r (fun s' I' _=>h s' I') hf
theorem Inv.call'{s':Shared}{ch:List Addr}(I:Inv X pins σ H s)(ho:s'.os=s.os)(u:Un (frs X.stack) ch H H' s.heap s'.heap)(hok:HOk X.prog X.w H' s'.heap)(hg:AllBare s'.gens)
   (hch:∀b∈ch,(b∈X.ex\/X.s₀.heap.objs.size<=b)/\b≠X.env.locals/\(∀x c,X.env.cells.lookup x=some c ->c≠b)/\∀p∈X.pn++pins,p.1≠b):Inv X pins σ H' s':=by
 obtain⟨h',g',d',t',o'⟩:=s'
 have e:o'=s.os:=ho
 subst e
 exact I.call (g':=g') (t':=t') (d':=d') u hok hg hch
end
abbrev XK:=Value ->Option Addr ->Hp ->Prop
abbrev St:=List (Option V)
abbrev VK:=V ->Hp ->Prop
abbrev TE:=St ->Hp ->VK ->Prop
abbrev TT:=St ->Hp ->(Bool ->Hp ->Prop) ->Prop
abbrev TA:=St ->Hp ->(List V ->Hp ->Prop) ->Prop
structure B3t where
 nx:St ->Hp ->Prop
 rt:VK
 bk:St ->Hp ->Prop:=fun _ _=>False
 ct:St ->Hp ->Prop:=fun _ _=>False
abbrev TS:=B3t ->St ->Hp ->Prop
def EP (X:Cx) (pins:List (Addr×Obj)) (σ:St) (Q:VK) (u:Value) (s':Shared):Prop:=∃v H',Inv X pins σ H' s'/\V4 v u/\Q v H'
def TP (X:Cx) (pins:List (Addr×Obj)) (σ:St) (Q:Bool ->Hp ->Prop) (b:Bool) (s':Shared):Prop:=∃H',Inv X pins σ H' s'/\Q b H'
def AP (X:Cx) (pins:List (Addr×Obj)) (σ:St) (Q:List V ->Hp ->Prop) (us:List Value) (s':Shared):Prop:=∃vs H',Inv X pins σ H' s'/\G7 vs us/\Q vs H'
def SP (X:Cx) (pins:List (Addr×Obj)) (D:B3t) (f:Flow) (s':Shared):Prop:=
 match f with
 | .next=>∃σ' H',Inv X pins σ' H' s'/\D.nx σ' H'
 | .brk=>∃σ' H',Inv X pins σ' H' s'/\D.bk σ' H'
 | .cont=>∃σ' H',Inv X pins σ' H' s'/\D.ct σ' H'
 | .ret u=>∃v σ' H',Inv X pins σ' H' s'/\V4 v u/\D.rt v H'
def PE (X:Cx) (e:Expr) (t:TE):Prop:=
 ∀(pins:List (Addr×Obj)) (s:Shared) (σ:St) (H:Hp) (Q:VK),Inv X pins σ H s ->t σ H Q ->wpAny (model X.prog X.w) X.A (eval e X.env) (EP X pins σ Q) X.xe s
def PT (X:Cx) (e:Expr) (t:TT):Prop:=
 ∀(pins:List (Addr×Obj)) (s:Shared) (σ:St) (H:Hp) (Q:Bool ->Hp ->Prop),Inv X pins σ H s ->t σ H Q ->wpAny (model X.prog X.w) X.A (isTrue e X.env (eval e X.env)) (TP X pins σ Q) X.xe s
def PW (X:Cx) (e:Expr) (t:TT):Prop:=
 ∀(whole:Sem Value) (pins:List (Addr×Obj)) (s:Shared) (σ:St) (H:Hp) (Q:Bool ->Hp ->Prop),Inv X pins σ H s ->t σ H Q ->wpAny (model X.prog X.w) X.A (isTrue e X.env whole) (TP X pins σ Q) X.xe s
theorem PW.pt{X:Cx}{e:Expr}{t:TT}(h:PW X e t):PT X e t:=h _
def PA (X:Cx) (es:List Expr) (t:TA):Prop:=
 ∀(pos:Pos) (pins:List (Addr×Obj)) (s:Shared) (σ:St) (H:Hp) (Q:List V ->Hp ->Prop),Inv X pins σ H s ->t σ H Q ->wpAny (model X.prog X.w) X.A (spliced (backTo pos (starEach es X.env))) (AP X pins σ Q) X.xe s
def PS (X:Cx) (st:Stmt) (t:TS):Prop:=
 ∀(pins:List (Addr×Obj)) (s:Shared) (σ:St) (H:Hp) (D:B3t),Inv X pins σ H s ->t D σ H ->wpAny (model X.prog X.w) X.A (exec st X.env) (SP X pins D) X.xe s
def PSs (X:Cx) (st:List Stmt) (t:TS):Prop:=
 ∀(pins:List (Addr×Obj)) (s:Shared) (σ:St) (H:Hp) (D:B3t),Inv X pins σ H s ->t D σ H ->wpAny (model X.prog X.w) X.A (execs st X.env) (SP X pins D) X.xe s
theorem thn{α:Type}{t:Sem α}{Q Q':α ->Shared ->Prop}{M:Model}{A:Around}{E:Value ->Shared ->Prop}{s:Shared}(h:wpAny M A t Q E s)(hQ:∀a s,Q a s ->Q' a s):wpAny M A t Q' E s:=wpAny_mono h hQ fun _ _ x=>x
section
variable{X:Cx}
def G8z (i:Nat):TE:=fun σ H Q=>∃v,σ[i]?=some (some v)/\Q v H
def tC (v:V):TE:=fun _ H Q=>Q v H
theorem G4d{i:Nat}{x:Str}{pos:Pos}(hN:X.N[i]?=some x)(hv:Vis X.env.scope x)(hd:(x==("__debug__":Str))=false:=by decide)(hcd:(x==("__classdict__":Str))=false:=by decide):PE X (.Name x pos) (G8z i):=by
 intro pins s σ H Q I h
 obtain⟨v,e,h⟩:=h
 obtain⟨m,hn,hl⟩:=I.loc
 obtain⟨u,r,l⟩:=hl i x v hN e hv
 have fin:EP X pins σ Q u s:=⟨v,H,I,r,h⟩
 rcases l with⟨hk,hm⟩|⟨hk,c,hc,hcell⟩
 . exact wpAny_Name (wpAny_loadName_local I.ok.kind hk hn hm fin) hd
 rcases hk with hk|hk
 . exact wpAny_Name (wpAny_loadName_cell I.ok.kind hk hc hcell fin) hd
 exact wpAny_Name (wpAny_loadName_free I.ok.kind hk hc hcell fin hcd) hd
theorem A2{i j pos}:PE X (.Constant (.int i) j pos) (tC (.int i)):=fun _ _ _ H _ I h=>wpAny_Constant_int ⟨.int i,H,I.tok _,⟨_,rfl⟩,h⟩
theorem A1g{b j pos}:PE X (.Constant (.bool b) j pos) (tC (.bl b)):=fun _ _ _ H _ I h=>Constant_bool ⟨.bl b,H,I,rfl,h⟩
theorem A8r{j pos}:PE X (.Constant .none j pos) (tC .non):=fun _ _ _ H _ I h=>Constant_none ⟨.non,H,I,rfl,h⟩
theorem C7{x j pos}:PE X (.Constant (.str x) j pos) (tC (.str x)):=fun _ _ _ H _ I h=>Calls.Constant_str ⟨.str x,H,I.tok _,⟨_,rfl⟩,h⟩
def Gl (X:Cx) (x:Str):Prop:=X.env.kindOf x=some .globalImplicit
theorem Z9{E:Value ->Shared ->Prop}{pins:List (Addr×Obj)}{s:Shared}{σ:St}{H:Hp}{x:Str}{u:Value}{pos:Pos}{Q:Value ->Shared ->Prop}(I:Inv X pins σ H s)(hg:Gl X x)(hm:X.mg x=some u)(h:Q u s)
   (hd:(x==("__debug__":Str))=false:=by decide):wpAny (model X.prog X.w) X.A (eval (.Name x pos) X.env) Q E s:=
 Calls.Name_function_global I.ok.kind hg (Calls.loadGlobal_global (by rw[I.ok.glob];exact I.mod.glob.keeps I.bk) hm h) hd
theorem A8g{E:Value ->Shared ->Prop}{pins:List (Addr×Obj)}{s:Shared}{σ:St}{H:Hp}{x:Str}{u:Value}{pos:Pos}{Q:Value ->Shared ->Prop}(I:Inv X pins σ H s)(hg:Gl X x)(hm:X.mg x=none)(hv:bootBuiltins x=some u)(h:Q u s)
   (hn:x≠"__name__":=by decide) (hd:(x==("__debug__":Str))=false:=by decide):wpAny (model X.prog X.w) X.A (eval (.Name x pos) X.env) Q E s:=by
 obtain⟨mb,h1,h2⟩:=I.mod.blt
 exact Calls.Name_function_global I.ok.kind hg (Calls.loadGlobal_builtin (by rw[I.ok.glob];exact I.mod.glob.keeps I.bk) hm (by rw[I.ok.blt];exact h1.keeps I.bk) ((h2 x hn).trans hv) h) hd
theorem G0t{x:Str}{v:V}{u:Value}{pos:Pos}(hg:Gl X x)(hm:X.mg x=some u)(r:V4 v u)(hd:(x==("__debug__":Str))=false:=by decide):PE X (.Name x pos) (tC v):=
 fun _ _ _ H _ I h=>Z9 I hg hm ⟨v,H,I,r,h⟩ hd
theorem G0n{x:Str}{v:V}{u:Value}{pos:Pos}(hg:Gl X x)(hm:X.mg x=none)(hv:bootBuiltins x=some u)(r:V4 v u)(hn:x≠"__name__":=by decide)(hd:(x==("__debug__":Str))=false:=by decide):PE X (.Name x pos) (tC v):=
 fun _ _ _ H _ I h=>A8g I hg hm hv ⟨v,H,I,r,h⟩ hn hd
variable{a b:Expr}{ta tb:TE}{pos:Pos}
def PC (X:Cx) (op:CmpOp) (a b:Expr) (t:TE):Prop:=
 ∀ (pins:List (Addr×Obj)) (s:Shared) (σ:St) (H:Hp) (Q:VK),Inv X pins σ H s ->t σ H Q ->
   wpAny (model X.prog X.w) X.A (eval a X.env) (fun v s₁=>wpAny (model X.prog X.w) X.A (eval b X.env) (fun u s₂=>wpAny (model X.prog X.w) X.A (compareOp op v u) (EP X pins σ Q) X.xe s₂) X.xe s₁) X.xe s
def tB (t:TE):TT:=fun σ H Q=>t σ H fun x H1=>∃c,x= .bl c/\Q c H1
theorem C9p{op:CmpOp}{t:TE}(h:PC X op a b t)(h1:behindInMarks op b=false:=by first|exact nobehind _ (by decide) (by decide)|rfl):PT X (.Compare a [op] [b] pos) (tB t):=by
 intro pins s σ H Q I hw
 refine wpAny_isTrue_Compare1 (thn (h pins s σ H _ I hw) fun v s1 h1=>thn h1 fun u s2 h2=>thn h2 fun c s3 hh_=>?_) h1
 obtain⟨x,H1,I1,r1,q1⟩:=hh_
 obtain⟨d,rfl,q⟩:=q1
 cases r1
 exact wpAny_truthy_bool ⟨H1,I1,q⟩
theorem Z7{e:Expr}{t:TE}(h:PE X e t)(he:∀whole,isTrue e X.env whole=(do let v<-whole;standAt e.pos;holding [v] (truthy v)):=by intro _;rfl):PT X e (tB t):=by
 intro pins s σ H Q I hw
 refine isTrue_plain (thn (h pins s σ H _ I hw) fun v s1 hh_=>?_) (he _)
 obtain⟨x,H1,I1,r1,q1⟩:=hh_
 obtain⟨d,rfl,q⟩:=q1
 cases r1
 exact wpAny_truthy_bool ⟨H1,I1,q⟩
variable{tA tB':TT}{rest:List Expr}
def J4b (t u:TT):TT:=fun σ H Q=>t σ H fun c H1=>if c=true then u σ H1 Q else Q false H1
def tOr (t u:TT):TT:=fun σ H Q=>t σ H fun c H1=>if c=true then Q true H1 else u σ H1 Q
def J3q (t:TT):TT:=fun σ H Q=>t σ H fun c H1=>Q (!c) H1
theorem A1q(ha:PT X a tA):PW X (.BoolOp .And [a] pos) tA:=by
 intro wh pins s σ H Q I h
 refine isTrue_and (thn (ha pins s σ H Q I h) fun c s1 e=>?_)
 cases c with
 |true=>exact isTrue_and_nil e
 |false=>exact e
theorem A8f(ha:PT X a tA):PW X (.BoolOp .Or [a] pos) tA:=by
 intro wh pins s σ H Q I h
 refine isTrue_or (thn (ha pins s σ H Q I h) fun c s1 e=>?_)
 cases c with
 |false=>exact isTrue_or_nil e
 |true=>exact e
theorem A2q(ha:PT X a tA)(hb:PW X (.BoolOp .And (b::rest) pos) tB'):PW X (.BoolOp .And (a::b::rest) pos) (J4b tA tB'):=by
 intro wh pins s σ H Q I h
 refine isTrue_and (thn (ha pins s σ H _ I h) fun c s1 ⟨H1,I1,q1⟩=>?_)
 cases c with
 |true=>exact hb wh pins s1 σ H1 Q I1 q1
 |false=>exact⟨H1,I1,q1⟩
theorem A6a(ha:PT X a tA)(hb:PW X (.BoolOp .Or (b::rest) pos) tB'):PW X (.BoolOp .Or (a::b::rest) pos) (tOr tA tB'):=by
 intro wh pins s σ H Q I h
 refine isTrue_or (thn (ha pins s σ H _ I h) fun c s1 ⟨H1,I1,q1⟩=>?_)
 cases c with
 |true=>exact⟨H1,I1,q1⟩
 |false=>exact hb wh pins s1 σ H1 Q I1 q1
theorem A1v(ha:PT X a tA):PT X (.UnaryOp .Not a pos) (J3q tA):=by
 intro pins s σ H Q I h
 exact isTrue_not (ha pins s σ H (fun c H1=>Q (!c) H1) I h)
def J0a (ta tb:TE):TE:=fun σ H Q=>ta σ H fun x H1=>∃c,x= .bl c/\if c=true then tb σ H1 Q else Q (.bl false) H1
def J3w (ta tb:TE):TE:=fun σ H Q=>ta σ H fun x H1=>∃c,x= .bl c/\if c=true then Q (.bl true) H1 else tb σ H1 Q
def G9n (ta:TE):TE:=fun σ H Q=>ta σ H fun x H1=>∃c,x= .bl c/\Q (.bl (!c)) H1
theorem Z6{op}{t:TE}(h:PE X a t):PE X (.BoolOp op [a] pos) t:=fun pins s σ H Q I hw=>BoolOp_one (h pins s σ H Q I hw)
theorem A0e(ha:PE X a ta)(hb:PE X (.BoolOp .And (b::rest) pos) tb):PE X (.BoolOp .And (a::b::rest) pos) (J0a ta tb):=by
 intro pins s σ H Q I h
 refine BoolOp_and (thn (ha pins s σ H _ I h) fun v s1 hh_=>?_)
 obtain⟨x,H1,I1,r1,q1⟩:=hh_
 obtain⟨c,rfl,q1⟩:=q1
 cases r1
 refine wpAny_truthy_bool ?_
 cases c with
 |true=>exact hb pins s1 σ H1 Q I1 q1
 |false=>exact⟨.bl false,H1,I1,rfl,q1⟩
theorem B1h(ha:PE X a ta)(hb:PE X (.BoolOp .Or (b::rest) pos) tb):PE X (.BoolOp .Or (a::b::rest) pos) (J3w ta tb):=by
 intro pins s σ H Q I h
 refine BoolOp_or (thn (ha pins s σ H _ I h) fun v s1 hh_=>?_)
 obtain⟨x,H1,I1,r1,q1⟩:=hh_
 obtain⟨c,rfl,q1⟩:=q1
 cases r1
 refine wpAny_truthy_bool ?_
 cases c with
 |false=>exact hb pins s1 σ H1 Q I1 q1
 |true=>exact⟨.bl true,H1,I1,rfl,q1⟩
theorem G4f(ha:PE X a ta):PE X (.UnaryOp .Not a pos) (G9n ta):=by
 intro pins s σ H Q I h
 refine UnaryOp_ (thn (ha pins s σ H _ I h) fun v s1 hh_=>?_)
 obtain⟨x,H1,I1,r1,q1⟩:=hh_
 obtain⟨c,rfl,q1⟩:=q1
 cases r1
 exact not_of (wpAny_truthy_bool ⟨.bl (!c),H1,I1,rfl,q1⟩)
def tIf (t:TT) (ta tb:TE):TE:=fun σ H Q=>t σ H fun c H1=>if c=true then ta σ H1 Q else tb σ H1 Q
theorem A0p{c:Expr}(hc:PT X c tA)(ha:PE X a ta)(hb:PE X b tb):PE X (.IfExp c a b pos) (tIf tA ta tb):=by
 intro pins s σ H Q I h
 refine wpAny_IfExp (thn (hc pins s σ H _ I h) fun d s1 ⟨H1,I1,q1⟩=>?_)
 cases d with
 |true=>exact ha pins s1 σ H1 Q I1 q1
 |false=>exact hb pins s1 σ H1 Q I1 q1
end
def SqL (K:PySem.W.Frag) (H:Hp) (a:Addr) (xs:List V):Prop:=
 Rd H a (.lst xs)\/
   ∃(o:Obj) (its:Array Value) (n:Nat),K.lookup a=some o/\o.cls= .type "list"/\o.dict=none/\o.data= .seq its n/\its.size<=sizeLine/\G7 xs its.toList
def SqT (K:PySem.W.Frag) (H:Hp) (a:Addr) (xs:List V):Prop:=
 Rd H a (.tup xs)\/
   ∃(o:Obj) (its:Array Value) (n:Nat),K.lookup a=some o/\o.cls= .type "tuple"/\o.data= .seq its n/\its.size<=sizeLine/\G7 xs its.toList
noncomputable def J4r:Value ->Option V
 | .none=>some .non
 | .bool b=>some (.bl b)
 | .int i _=>some (.int i)
 | .str x _=>some (.str x)
 | .bytes b _=>some (.byt b)
 | .float b _=>some (.flt b)
 | .ref a=>some (.ref a)
 | .type n=>some (.ty n)
 |_=>none
theorem V4.abs{x:V}{u:Value}(r:V4 x u):J4r u=some x:=by
 cases x with
 |non=>cases r;rfl
 |bl _=>cases r;rfl
 |int _=>obtain⟨t,rfl⟩:=r;rfl
 |str _=>obtain⟨t,rfl⟩:=r;rfl
 |byt _=>obtain⟨t,rfl⟩:=r;rfl
 |flt _=>obtain⟨t,rfl⟩:=r;rfl
 |ref _=>cases r;rfl
 |ty _=>cases r;rfl
theorem V4.inj{x y:V}{u:Value}(r:V4 x u)(q:V4 y u):x=y:=Option.some.inj (r.abs.symm.trans q.abs)
theorem G7.inj:∀{xs ys:List V} {us:List Value},G7 xs us ->G7 ys us ->xs=ys
 |_,_,_,.nil,.nil=>rfl
 |_,_,_,.cons r t,.cons r' t'=>by rw[r.inj r',G7.inj t t']
section
variable{X:Cx}{pins:List (Addr×Obj)}{σ:St}{H:Hp}{s:Shared}{a:Addr}{xs ys:List V}
theorem SqL.of{K:PySem.W.Frag}(h:H a=some (.lst xs)):SqL K H a xs:= .inl (.inl h)
theorem SqT.of{K:PySem.W.Frag}(h:H a=some (.tup xs)):SqT K H a xs:= .inl (.inl h)
theorem Inv.list(I:Inv X pins σ H s)(h:SqL X.K H a xs):∃its:List Value,G7 xs its/\PlainL s.heap a its.toArray/\xs.length<=sizeLine:=by
 rcases h with h|⟨o,its,n,hk,hc,hd,hs,hz,r⟩
 . obtain⟨z,its,n,r,e⟩:=h.ok I.hok
   exact⟨its,r,⟨_,n,e,rfl,rfl,rfl⟩,z⟩
 refine⟨its.toList,r,⟨o,n,I.kIn a o hk,hc,hd,by simpa using hs⟩,?_⟩
 have e:=r.length
 simp only[Array.length_toList] at e
 omega
theorem Inv.tuple(I:Inv X pins σ H s)(h:SqT X.K H a xs):∃its:List Value,G7 xs its/\IsTup s.heap a its.toArray/\xs.length<=sizeLine:=by
 rcases h with h|⟨o,its,n,hk,hc,hs,hz,r⟩
 . obtain⟨z,its,r,p⟩:=h.ok I.hok
   exact⟨its,r,p,z⟩
 refine⟨its.toList,r,⟨o,I.kIn a o hk,hc,n,by simpa using hs⟩,?_⟩
 have e:=r.length
 simp only[Array.length_toList] at e
 omega
theorem Inv.list_inj(I:Inv X pins σ H s)(h:SqL X.K H a xs)(h':SqL X.K H a ys):xs=ys:=by
 obtain⟨its,r,⟨o,n,e,_,_,d⟩,_⟩:=I.list h
 obtain⟨its',r',⟨o',n',e',_,_,d'⟩,_⟩:=I.list h'
 rw[e] at e';cases e'
 rw[d] at d'
 injection d' with d1 _
 have:its=its':=by simpa using congrArg Array.toList d1
 subst this
 exact r.inj r'
theorem Inv.tuple_inj(I:Inv X pins σ H s)(h:SqT X.K H a xs)(h':SqT X.K H a ys):xs=ys:=by
 obtain⟨its,r,⟨o,e,_,n,d⟩,_⟩:=I.tuple h
 obtain⟨its',r',⟨o',e',_,n',d'⟩,_⟩:=I.tuple h'
 rw[e] at e';cases e'
 rw[d] at d'
 injection d' with d1 _
 have:its=its':=by simpa using congrArg Array.toList d1
 subst this
 exact r.inj r'
end
noncomputable abbrev Cx.wish (X:Cx) (E:Value ->Shared ->Prop):Cx:={X with xe:=E}
noncomputable abbrev Cx.nox (X:Cx):Cx:=X.wish fun _ _=>False
theorem Cx.Ok.wish{X:Cx}(ok:X.Ok)(E:Value ->Shared ->Prop):(X.wish E).Ok:=
 ⟨ok.mod,ok.kind,ok.glob,ok.blt,ok.above,ok.inj,ok.has,ok.cab,ok.hd,ok.frames,ok.stk,ok.exf,ok.bs,ok.bsz,ok.noex,ok.exfs,ok.funs,ok.frf⟩
theorem Cx.Ok.unwish{X:Cx}{E:Value ->Shared ->Prop}(ok:(X.wish E).Ok):X.Ok:=
 ⟨ok.mod,ok.kind,ok.glob,ok.blt,ok.above,ok.inj,ok.has,ok.cab,ok.hd,ok.frames,ok.stk,ok.exf,ok.bs,ok.bsz,ok.noex,ok.exfs,ok.funs,ok.frf⟩
section
variable{X:Cx}{pins:List (Addr×Obj)}{σ:St}{H:Hp}{s:Shared}{E:Value ->Shared ->Prop}
theorem Inv.wish(I:Inv X pins σ H s)(E:Value ->Shared ->Prop):Inv (X.wish E) pins σ H s:=⟨I.ok.wish E,I.os,I.bare,I.base,I.loc,I.cell,I.free,I.freeC,I.pin,I.hok,I.len⟩
theorem Inv.unwish(I:Inv (X.wish E) pins σ H s):Inv X pins σ H s:=⟨I.ok.unwish,I.os,I.bare,I.base,I.loc,I.cell,I.free,I.freeC,I.pin,I.hok,I.len⟩
theorem SP.unwish{D:B3t}{f:Flow}{s':Shared}(h:SP (X.wish E) pins D f s'):SP X pins D f s':=by
 cases f with
 |next=>obtain⟨σ',H',I,q⟩:=h;exact⟨σ',H',I.unwish,q⟩
 |brk=>obtain⟨σ',H',I,q⟩:=h;exact⟨σ',H',I.unwish,q⟩
 |cont=>obtain⟨σ',H',I,q⟩:=h;exact⟨σ',H',I.unwish,q⟩
 |ret u=>obtain⟨v,σ',H',I,r,q⟩:=h;exact⟨v,σ',H',I.unwish,r,q⟩
theorem PSs.nox{st:List Stmt}{t:TS}(h:PSs X.nox st t):PSs X st t:=fun pins s σ H D I hw=>
 wpAny_mono (h pins s σ H D (I.wish _) hw) (fun _ _ q=>q.unwish) fun _ _ z=>False.elim z
end
section
variable{X:Cx}{st:Stmt}{rest:List Stmt}{t u:TS}{e:Expr}{te:TE}{pos:Pos}
def G8w:TS:=fun D σ H=>D.nx σ H
def G0h (t u:TS):TS:=fun D σ H=>t {D with nx:=u D} σ H
theorem D6:PSs X [] G8w:=fun _ _ σ H _ I h=>wpAny_execs_nil ⟨σ,H,I,h⟩
theorem A5(h1:PS X st t)(h2:PSs X rest u):PSs X (st::rest) (G0h t u):=by
 intro pins s σ H D I h
 refine wpAny_execs_cons (thn (h1 pins s σ H {D with nx:=u D} I h) fun f s1 q=>?_)
 cases f with
 | next=>
   obtain⟨σ',H',I',q⟩:=q
   exact h2 pins s1 σ' H' D I' q
 |ret v=>exact q
 |brk=>exact q
 |cont=>exact q
theorem A7(h1:PS X st t):PSs X [st] t:=by
 intro pins s σ H D I h
 refine wpAny_execs_cons (thn (h1 pins s σ H D I h) fun f s1 q=>?_)
 cases f with
 |next=>exact wpAny_execs_nil q
 |ret v=>exact q
 |brk=>exact q
 |cont=>exact q
theorem Inv.quiet{pins:List (Addr×Obj)}{σ:St}{H:Hp}{s:Shared}(I:Inv X pins σ H s):interactive X.env=false:=by simp[interactive,I.ok.kind]
def G9c (te:TE):TS:=fun D σ H=>te σ H fun _ H1=>D.nx σ H1
theorem Z3(he:PE X e te)(hs:swapsWith e none pos.line X.env=pure false:=by rfl):PS X (.Expr e pos) (G9c te):=by
 intro pins s σ H D I h
 exact wpAny_Expr_any (thn (he pins s σ H _ I h) fun v s1 ⟨x,H1,I1,r1,q1⟩=>⟨σ,H1,I1,q1⟩) I.quiet hs
def J3h (te:TE):TS:=fun D σ H=>te σ H D.rt
theorem B5(he:PE X e te):PS X (.Return (some e) pos) (J3h te):=by
 intro pins s σ H D I h
 exact wpAny_Return_some (thn (he pins s σ H _ I h) fun v s1 ⟨x,H1,I1,r1,q1⟩=>⟨x,σ,H1,I1,r1,q1⟩)
def J3m (c:TT) (t u:TS):TS:=fun D σ H=>c σ H fun b H1=>if b=true then t D σ H1 else u D σ H1
theorem J1{c:Expr}{a b:List Stmt}{tc:TT}(hc:PT X c tc)(ha:PSs X a t)(hb:PSs X b u):PS X (.If c a b pos) (J3m tc t u):=by
 intro pins s σ H D I h
 refine wpAny_If (thn (hc pins s σ H _ I h) fun d s1 ⟨H1,I1,q1⟩=>?_)
 cases d with
 |true=>exact ha pins s1 σ H1 D I1 q1
 |false=>exact hb pins s1 σ H1 D I1 q1
end
abbrev TG:=V ->St ->Hp ->(St ->Hp ->Prop) ->Prop
abbrev TGs:=List V ->St ->Hp ->(St ->Hp ->Prop) ->Prop
def PG (X:Cx) (target:Expr) (t:TG):Prop:=
 ∀ (pins:List (Addr×Obj)) (s:Shared) (σ:St) (H:Hp) (v:V) (u:Value) (Q:St ->Hp ->Prop),Inv X pins σ H s ->V4 v u ->t v σ H Q ->
   wpAny (model X.prog X.w) X.A (assign target X.env u) (fun _ s'=>∃σ' H',Inv X pins σ' H' s'/\Q σ' H') X.xe s
def PGs (X:Cx) (ts:List Expr) (t:TGs):Prop:=
 ∀ (pins:List (Addr×Obj)) (s:Shared) (σ:St) (H:Hp) (vs:List V) (us:List Value) (Q:St ->Hp ->Prop),Inv X pins σ H s ->G7 vs us ->t vs σ H Q ->
   wpAny (model X.prog X.w) X.A (assignInOrder ((assignEach ts X.env).map (·.2)) us) (fun _ s'=>∃σ' H',Inv X pins σ' H' s'/\Q σ' H') X.xe s
abbrev G5c:=V ->V ->V ->Hp ->(Hp ->Prop) ->Prop
def J1j (X:Cx) (t:G5c):Prop:=
 ∀ (pins:List (Addr×Obj)) (s:Shared) (σ:St) (H:Hp) (o i v:V) (ov iv u:Value) (Q:Hp ->Prop),Inv X pins σ H s ->V4 o ov ->V4 i iv ->V4 v u ->t o i v H Q ->
   wpAny (model X.prog X.w) X.A (setItem ov iv u) (fun _ s'=>∃H',Inv X pins σ H' s'/\Q H') X.xe s
abbrev TIp:=V ->V ->Hp ->VK ->Prop
def PIp (X:Cx) (op:Operator) (t:TIp):Prop:=
 ∀ (pins:List (Addr×Obj)) (s:Shared) (σ:St) (H:Hp) (x y:V) (v u:Value) (Q:VK),Inv X pins σ H s ->V4 x v ->V4 y u ->t x y H Q ->
   wpAny (model X.prog X.w) X.A (inplaceOp op v u) (EP X pins σ Q) X.xe s
section
variable{X:Cx}{pos:Pos}
def B5f (i:Nat):TG:=fun v σ H Q=>Q (σ.set i (some v)) H
theorem D4{i:Nat}{x:Str}(hN:X.N.Nodup)(hi:X.N[i]?=some x)(hx:Loc X.env.scope x)(hf:X.fn x=true\/X.env.scope.names.lookup x=some .local:=by first|exact .inl rfl|exact .inr rfl|assumption):PG X (.Name x pos) (B5f i):=by
 intro pins s σ H v u Q I r h
 exact wpAny_assign_Name (A2g I hN hi hx r (fun s' I'=>⟨_,H,I',h⟩) hf)
def J4t:TGs:=fun vs σ H Q=>vs=[]/\Q σ H
def G8r (t:TG) (u:TGs):TGs:=fun vs σ H Q=>∃v r,vs=v::r/\t v σ H fun σ' H'=>u r σ' H' Q
theorem A0d:PGs X [] J4t:=by
 intro pins s σ H vs us Q I r h
 obtain⟨e,h⟩:=h
 subst e
 cases r
 exact assignInOrder_nil ⟨σ,H,I,h⟩
theorem D9{e:Expr}{es:List Expr}{t:TG}{u:TGs}(h1:PG X e t)(h2:PGs X es u)
   (hs:(assignEach (e::es) X.env).map (·.2)=assign e X.env::(assignEach es X.env).map (·.2):=by rfl):PGs X (e::es) (G8r t u):=by
 intro pins s σ H vs us Q I r h
 obtain⟨v,vr,e1,h⟩:=h
 subst e1
 cases r with
 | cons r rr=>
   rw[hs]
   refine assignInOrder_cons (thn (h1 pins s σ H _ _ _ I r h) fun _ s1 hh_=>?_)
   obtain⟨σ1,H1,I1,q1⟩:=hh_
   exact h2 pins s1 σ1 H1 _ _ Q I1 rr q1
def G3x (K:PySem.W.Frag) (n:Nat) (t:TGs):TG:=fun v σ H Q=>∃a xs,v= .ref a/\SqT K H a xs/\xs.length=n/\t xs σ H Q
theorem A1w{es:List Expr}{k:Nat}{t:TGs}{n:Nat}(hc:X.calm=true)(h:PGs X es t)
   (hn:(assignEach es X.env).length=n:=by rfl) (hst:(assignEach es X.env).findIdx? (·.1)=none:=by rfl):PG X (.Tuple es k pos) (G3x X.K n t):=by
 intro pins s σ H v u Q I r hw
 obtain⟨a,xs,e1,hq,hl,hw⟩:=hw
 subst e1
 cases r
 obtain⟨its,rv,ht,hz⟩:=I.tuple hq
 refine assign_Tuple_tuple (I.ok.hd hc) ht (by simp[hn, <-hl,rv.length]) hst fun h' hx=>?_
 have I1:Inv X pins σ H {s with heap:=h'}:=I.kept (t':=s.toks) fun b o e=>hx b o (Nat.ne_of_lt (Heap.lt_size e)) e
 exact h pins _ σ H xs _ Q I1 (by simpa using rv) hw
def J5a (to ti:TE) (t:G5c):TG:=fun v σ H Q=>to σ H fun o H1=>ti σ H1 fun i H2=>t o i v H2 fun H3=>Q σ H3
theorem G5y{o i:Expr}{to ti:TE}{t:G5c}(ho:PE X o to)(hi:PE X i ti)(hs:J1j X t)
   (ha:∀v,assign (.Subscript o i pos) X.env v=(do
     let ov<-holding [v] (eval o X.env)
     let iv<-holding [v,ov] (eval i X.env)
     standAt pos
     holding [v,ov,iv] (setItem ov iv v)
     release [v,ov,iv] []):=by intro _;rfl):PG X (.Subscript o i pos) (J5a to ti t):=by
 intro pins s σ H v u Q I r h
 rw[ha]
 refine wpAny_bind (wpAny_holding (thn (ho pins s σ H _ I h) fun ov s1 hh_=>?_))
 obtain⟨x,H1,I1,r1,q1⟩:=hh_
 refine wpAny_bind (wpAny_holding (thn (hi pins s1 σ H1 _ I1 q1) fun iv s2 hh_=>?_))
 obtain⟨y,H2,I2,r2,q2⟩:=hh_
 refine wpAny_bind (wpAny_standAt (wpAny_bind (wpAny_holding (thn (hs pins s2 σ H2 x y v ov iv u _ I2 r1 r2 r q2) fun _ s3 ⟨H3,I3,q3⟩=>?_))))
 exact wpAny_release ⟨σ,H3,I3,q3⟩
def C9e (te:TE) (g:TG):TS:=fun D σ H=>te σ H fun x H1=>g x σ H1 D.nx
theorem A2m{tg e:Expr}{te:TE}{g:TG}(he:PE X e te)(hg:PG X tg g)(hs:swapsWithSole [tg] e pos.line X.env=pure false:=by rfl)(hw:swappedStores [tg] e X.env=pure none:=by rfl)
   (h1:(assignEach [tg] X.env).map (·.2)=[assign tg X.env]:=by rfl):PS X (.Assign [tg] e pos) (C9e te g):=by
 intro pins s σ H D I h
 refine wpAny_Assign_stores (thn (he pins s σ H _ I h) fun v s1 hh_=>?_) hs hw
 obtain⟨x,H1,I1,r1,q1⟩:=hh_
 rw[h1]
 exact thn (hg pins s1 σ H1 x v _ I1 r1 q1) fun _ s2 q=>q
theorem D5{i:Nat}{x:Str}{e:Expr}{te:TE}{pos':Pos}(hN:X.N.Nodup)(hi:X.N[i]?=some x)(hx:Loc X.env.scope x)(he:PE X e te)(hs:swapsWith e (some (.Name x pos')) pos.line X.env=pure false:=by rfl)(hf:X.fn x=true\/X.env.scope.names.lookup x=some .local:=by first|exact .inl rfl|exact .inr rfl|assumption):
   PS X (.Assign [.Name x pos'] e pos) (C9e te (B5f i)):=by
 intro pins s σ H D I h
 refine wpAny_Assign_Name (thn (he pins s σ H _ I h) fun v s1 hh_=>?_) hs
 obtain⟨y,H1,I1,r1,q1⟩:=hh_
 exact A2g I1 hN hi hx r1 (fun s2 I2=>⟨_,H1,I2,q1⟩) hf
def J3a (i:Nat) (te:TE) (ti:TIp):TS:=fun D σ H=>∃x,σ[i]?=some (some x)/\te σ H fun y H1=>ti x y H1 fun z H2=>D.nx (σ.set i (some z)) H2
theorem G5w{i:Nat}{x:Str}{e:Expr}{te:TE}{op:Operator}{ti:TIp}{pos':Pos}(hN:X.N.Nodup)(hi:X.N[i]?=some x)(hx:Loc X.env.scope x)(he:PE X e te)(ho:PIp X op ti)(hf:X.fn x=true\/X.env.scope.names.lookup x=some .local:=by first|exact .inl rfl|exact .inr rfl|assumption):
   PS X (.AugAssign (.Name x pos') op e pos) (J3a i te ti):=by
 intro pins s σ H D I h
 obtain⟨v,e1,h⟩:=h
 obtain⟨m,hn,hl⟩:=I.loc
 have vis:Vis X.env.scope x:=by rcases hx with k|k;exact .inl k;exact .inr (.inl k)
 obtain⟨u,r,l⟩:=hl i x v hi e1 vis
 refine wpAny_AugAssign_Name ?_
 have go:wpAny (model X.prog X.w) X.A (eval e X.env) (fun w s₂=>wpAny (model X.prog X.w) X.A (inplaceOp op u w) (fun r s₃=>wpAny (model X.prog X.w) X.A (storeName X.env x r) (fun _=>SP X pins D .next) X.xe s₃) X.xe s₂) X.xe s:=by
   refine thn (he pins s σ H _ I h) fun w s1 hh_=>?_
   obtain⟨y,H1,I1,r1,q1⟩:=hh_
   refine thn (ho pins s1 σ H1 v y u w _ I1 r r1 q1) fun z s2 hh_=>?_
   obtain⟨zv,H2,I2,r2,q2⟩:=hh_
   exact A2g I2 hN hi hx r2 (fun s3 I3=>⟨_,H2,I3,q2⟩) hf
 rcases l with⟨hk,hm⟩|⟨hk,c,hc,hcell⟩
 . exact wpAny_loadName_local I.ok.kind hk hn hm go
 rcases hk with hk|hk
 . exact wpAny_loadName_cell I.ok.kind hk hc hcell go
 rcases hx with k|k
 . have:X.env.scope.names.lookup x=some .free:=hk
   rw[k] at this;cases this
 have:X.env.scope.names.lookup x=some .free:=hk
 rw[k] at this;cases this
def ipI (f:Int ->Int ->Int):TIp:=fun x y H Q=>∃i j,x= .int i/\y= .int j/\Q (.int (f i j)) H
theorem G4u:PIp X .Add (ipI fun i j=>i+j):=by
 intro pins s σ H x y v u Q I r1 r2 h
 obtain⟨i,j,e1,e2,q⟩:=h
 subst e1;subst e2
 obtain⟨t,rfl⟩:=r1
 obtain⟨t',rfl⟩:=r2
 exact iadd_int ⟨.int _,H,I.tok _,⟨_,rfl⟩,q⟩
end
section
variable{X:Cx}{pos:Pos}
def D3j (c:TT) (tb:TS):TS:=fun D σ H=>∃W:Nat ->St ->Hp ->Prop,(∃m,W m σ H)/\∀m σ H,W m σ H ->
 c σ H fun b H1=>if b=true then∃N:St ->Hp ->Prop,(∀σ' H',N σ' H' ->∃m',m'<m/\W m' σ' H')/\tb {D with nx:=N,ct:=N,bk:=D.nx} σ H1 else D.nx σ H1
theorem A7r{c:Expr}{body:List Stmt}{tc:TT}{tb:TS}(hp:PassesOwn (model X.prog X.w) X.A X.env X.xe)(hc:PT X c tc)(hb:PSs X body tb):PS X (.While c body [] pos) (D3j tc tb):=by
 intro pins s σ H D I h
 obtain⟨W,⟨m0,w0⟩,turn⟩:=h
 refine wpAny_While (codeAny_whileLoop (fun n s'=>∃σ' H',Inv X pins σ' H' s'/\W n σ' H') ?_ m0 ⟨σ,H,I,w0⟩)
 rintro n s1 ⟨σ1,H1,I1,w1⟩
 refine wpAny_passesOwn hp (thn (hc pins s1 σ1 H1 _ I1 (turn n σ1 H1 w1)) fun b s2 ⟨H2,I2,q2⟩=>?_)
 cases b with
 | true=>
   obtain⟨N,hN,q2⟩:=q2
   rw[if_pos rfl]
   refine wpAny_passesOwn hp (thn (hb pins s2 σ1 H2 _ I2 q2) fun f s3 q3=>?_)
   cases f with
   | next=>
     obtain⟨σ3,H3,I3,n3⟩:=q3
     obtain⟨m',hm,w3⟩:=hN σ3 H3 n3
     exact⟨m',hm,σ3,H3,I3,w3⟩
   | cont=>
     obtain⟨σ3,H3,I3,n3⟩:=q3
     obtain⟨m',hm,w3⟩:=hN σ3 H3 n3
     exact⟨m',hm,σ3,H3,I3,w3⟩
   |brk=>exact q3
   |ret v=>exact q3
 | false=>
   rw[if_neg Bool.false_ne_true]
   exact wpAny_execs_nil ⟨σ1,H2,I2,q2⟩
end
structure It where
 go:Nat ->Hp ->Prop
 yld:Nat ->Hp ->V ->Hp ->Prop
 stop:Nat ->Hp ->Prop
def A0t (X:Cx) (pins:List (Addr×Obj)) (H:Hp) (b:Addr):Prop:=
 H b=none/\b≠X.env.locals/\b ∉ X.fs/\(b∈X.ex\/X.s₀.heap.objs.size<=b)/\(∀x c,X.env.cells.lookup x=some c ->c≠b)/\∀p∈X.pn++pins,p.1≠b
theorem Inv.fpOk{X:Cx}{pins:List (Addr×Obj)}{σ:St}{H H':Hp}{s:Shared}{b:Addr}(I:Inv X pins σ H s)(hb:s.heap.objs.size<=b)(hn:H' b=none):A0t X pins H' b:=by
 refine⟨hn,Nat.ne_of_gt (Nat.lt_of_lt_of_le I.lt hb),I.nofs hb,.inr (Nat.le_trans I.sz hb),fun x c e z=>?_,fun p hp z=>?_⟩
 . obtain⟨v,q⟩:=I.cell x c e
   exact absurd (Nat.lt_of_lt_of_le q.lt (by rw[z];exact hb)) (Nat.lt_irrefl _)
 exact absurd (Nat.lt_of_lt_of_le (Heap.lt_size (I.pin p hp).1) (by rw[z];exact hb)) (Nat.lt_irrefl _)
structure C8v(P:Program)(w:World)(K:PySem.W.Frag)(tg:Expr)(J:It)(fp:List Addr)(it:Addr)(tn:Nat ->Heap ->Prop):Prop where
 mem:it∈fp
 obj:∀i h,tn i h ->∀b∈fp,∃o,h.get? b=some o/\∀v,o.data≠ .cell v
 keep:∀i h h',tn i h ->(∀b∈fp,∀o,h.get? b=some o ->h'.get? b=some o) ->tn i h'
 item:∀(X:Cx),X.prog=P ->X.w=w ->X.K=K ->X.calm=true ->∀(i:Nat) (pins:List (Addr×Obj)) (s:Shared) (σ:St) (H:Hp) (E:Value ->Shared ->Prop),Inv X pins σ H s ->(∀b∈fp,A0t X pins H b) ->tn i s.heap ->J.go i H ->
   wpAny (model P w) X.A (pyNext (.ref it)) (fun r s1=>∃u,r=some u/\
     wpAny (model P w) X.A (letOwnedTupleGo tg (.ref it) u) (fun _ s2=>∃x H',Inv X pins σ H' s2/\V4 x u/\J.yld i H x H'/\tn (i+1) s2.heap/\∀b∈fp,H' b=none) E s1) E s
 done:∀(X:Cx),X.prog=P ->X.w=w ->X.K=K ->X.calm=true ->∀(i:Nat) (pins:List (Addr×Obj)) (s:Shared) (σ:St) (H:Hp) (E:Value ->Shared ->Prop),Inv X pins σ H s ->(∀b∈fp,A0t X pins H b) ->tn i s.heap ->J.stop i H ->
   wpAny (model P w) X.A (pyNext (.ref it)) (fun r s1=>r=none/\Inv X pins σ H s1) E s
 self:∀(A:Around) (i:Nat) (s:Shared) (Q:Value ->Shared ->Prop) (E:Value ->Shared ->Prop),tn i s.heap ->Q (.ref it) s ->wpAny (model P w) A (pyIter (.ref it)) Q E s
abbrev TI:=St ->Hp ->(It ->Hp ->Prop) ->Prop
def PIE (X:Cx) (pins:List (Addr×Obj)) (σ:St) (tg:Expr) (R:It ->Hp ->Prop) (itv:Value) (s2:Shared):Prop:=
 ∃(it:Addr) (fp:List Addr) (tn:Nat ->Heap ->Prop) (J:It) (H':Hp),itv= .ref it/\Inv X pins σ H' s2/\C8v X.prog X.w X.K tg J fp it tn/\tn 0 s2.heap/\(∀b∈fp,A0t X pins H' b)/\R J H'
def PI (X:Cx) (tg iter:Expr) (wi:TI):Prop:=
 ∀ (pins:List (Addr×Obj)) (s:Shared) (σ:St) (H:Hp) (R:It ->Hp ->Prop),Inv X pins σ H s ->wi σ H R ->
   wpAny (model X.prog X.w) X.A (eval iter X.env) (fun v s1=>wpAny (model X.prog X.w) X.A (pyIter v) (PIE X pins σ tg R) X.xe s1) X.xe s
theorem C0n{M:Model}{A:Around}{E:Value ->Shared ->Prop}{s:Shared}{tg:Expr}{it:Addr}{u:Value}{o:Obj}{n:String}{vs:Array Value}{Q:Unit ->Shared ->Prop}(ho:s.heap.get? it=some o)(hc:o.cls= .type n)(hd:o.data= .fields vs)
   (hn: ["enumerate","zip","dict_itemiterator","dict_reverseitemiterator","odict_iterator","itertools.zip_longest","itertools.pairwise"].contains n=false) (hQ:Q () s):wpAny M A (letOwnedTupleGo tg (.ref it) u) Q E s:=by
 unfold letOwnedTupleGo
 cases tg <;>first
   |exact wpAny_pure hQ
   |(cases u<;>first
       |exact wpAny_pure hQ
       | (refine wpAny_bind (wpAny_load ho ?_)
          rw[hc,hd]
          show wpAny M A (if(["enumerate","zip","dict_itemiterator","dict_reverseitemiterator","odict_iterator","itertools.zip_longest","itertools.pairwise"].contains n&&vs[0]?==some (rawInt _))=true then _ else _) Q E s
          rw[if_neg (by intro h;rw[hn,Bool.false_and] at h;cases h)]
          exact wpAny_pure hQ))
noncomputable def Itl (K:PySem.W.Frag) (a:Addr):It:=
 ⟨fun i H=>∃xs x,SqL K H a xs/\xs[i]?=some x,fun i H x H'=>H'=H/\∀xs,SqL K H a xs ->xs[i]?=some x,fun i H=>∃xs,SqL K H a xs/\xs.length<=i⟩
noncomputable def Itt (K:PySem.W.Frag) (a:Addr):It:=
 ⟨fun i H=>∃xs x,SqT K H a xs/\xs[i]?=some x,fun i H x H'=>H'=H/\∀xs,SqT K H a xs ->xs[i]?=some x,fun i H=>∃xs,SqT K H a xs/\xs.length<=i⟩
noncomputable def Itr (lo:Int) (n:Nat):It:=⟨fun i _=>i<n,fun i H x H'=>H'=H/\x= .int (lo+i),fun i _=>n<=i⟩
theorem C8e{P:Program}{w:World}{K:PySem.W.Frag}{tg:Expr}(a it:Addr):C8v P w K tg (Itl K a) [it] it (fun i h=>h.IsListIter it a i) where
 mem:=by simp
 obj:=fun i h st b hb=>by
   have e:b=it:=by simpa using hb
   subst e
   obtain⟨o,e,c,d⟩:=st
   exact⟨o,e,fun v z=>by rw[d] at z;cases z⟩
 keep:=fun i h h' st k=>st.at fun o e=>k it (by simp) o e
 item:=by
   intro X hP hw hK hc i pins s σ H E I hf st hg
   subst hP hw hK
   obtain⟨xs,x,hq,hx⟩:=hg
   obtain⟨its,rv,p,hz⟩:=I.list hq
   obtain⟨u,hu,ru⟩:=rv.get hx
   obtain⟨f0,f1,f2,f3,f4,f5⟩:=hf it (by simp)
   refine wpAny_pyNext_list_item st p.isList (x:=u) (by simpa using hu) fun h' st' sb=>?_
   have I1:Inv X pins σ H {s with heap:=h'}:=I.turned (t':=s.toks) (fun b o hb e=>(sb.2 b hb).trans e) f0 f1 f3 f4 f5
   obtain⟨o,e,c,d⟩:=id st'
   exact⟨u,rfl,C0n (s:={s with heap:=h'}) e c d (by decide) ⟨x,H,I1,ru,⟨rfl,fun ys hy=>by rw[I.list_inj hy hq];exact hx⟩,st',fun b hb=>(hf b hb).1⟩⟩
 done:=by
   intro X hP hw hK hc i pins s σ H E I hf st hg
   subst hP hw hK
   obtain⟨xs,hq,hx⟩:=hg
   obtain⟨its,rv,p,hz⟩:=I.list hq
   obtain⟨f0,f1,f2,f3,f4,f5⟩:=hf it (by simp)
   have hl:=rv.length
   exact wpAny_pyNext_list_end (I.ok.hd hc) st p.isList (by simp;omega) fun h' eb=>⟨rfl,I.turned (t':=s.toks) (fun b o hb e=>eb b o hb e) f0 f1 f3 f4 f5⟩
 self:=fun _ _ _ _ _ st h=>wpAny_pyIter_listiter st h
theorem C1k{P:Program}{w:World}{K:PySem.W.Frag}{tg:Expr}(a it:Addr):C8v P w K tg (Itt K a) [it] it (fun i h=>h.IsTupleIter it a i) where
 mem:=by simp
 obj:=fun i h st b hb=>by
   have e:b=it:=by simpa using hb
   subst e
   obtain⟨o,e,c,d⟩:=st
   exact⟨o,e,fun v z=>by rw[d] at z;cases z⟩
 keep:=fun i h h' st k=>st.at fun o e=>k it (by simp) o e
 item:=by
   intro X hP hw hK hc i pins s σ H E I hf st hg
   subst hP hw hK
   obtain⟨xs,x,hq,hx⟩:=hg
   obtain⟨its,rv,p,hz⟩:=I.tuple hq
   obtain⟨u,hu,ru⟩:=rv.get hx
   obtain⟨f0,f1,f2,f3,f4,f5⟩:=hf it (by simp)
   refine wpAny_pyNext_tuple_item st (show s.heap.IsTuple a its.toArray from p) (x:=u) (by simpa using hu) fun h' st' sb=>?_
   have I1:Inv X pins σ H {s with heap:=h'}:=I.turned (t':=s.toks) (fun b o hb e=>(sb.2 b hb).trans e) f0 f1 f3 f4 f5
   obtain⟨o,e,c,d⟩:=id st'
   exact⟨u,rfl,C0n (s:={s with heap:=h'}) e c d (by decide) ⟨x,H,I1,ru,⟨rfl,fun ys hy=>by rw[I.tuple_inj hy hq];exact hx⟩,st',fun b hb=>(hf b hb).1⟩⟩
 done:=by
   intro X hP hw hK hc i pins s σ H E I hf st hg
   subst hP hw hK
   obtain⟨xs,hq,hx⟩:=hg
   obtain⟨its,rv,p,hz⟩:=I.tuple hq
   obtain⟨f0,f1,f2,f3,f4,f5⟩:=hf it (by simp)
   have hl:=rv.length
   exact wpAny_pyNext_tuple_end (I.ok.hd hc) st (show s.heap.IsTuple a its.toArray from p) (by simp;omega) fun h' eb=>⟨rfl,I.turned (t':=s.toks) (fun b o hb e=>eb b o hb e) f0 f1 f3 f4 f5⟩
 self:=fun _ _ _ _ _ st h=>wpAny_pyIter_tupleiter st h
theorem C3b{P:Program}{w:World}{K:PySem.W.Frag}{tg:Expr}(it:Addr)(lo:Int)(n:Nat):C8v P w K tg (Itr lo n) [it] it (fun i h=>IsRangeIter h it (lo+(i:Nat)*1) ((n:Int)- (i:Nat)) 1) where
 mem:=by simp
 obj :=fun i h st b hb=>by
   have e:b=it:=by simpa using hb
   subst e
   exact⟨_,st,fun v z=>by
     have z':Data.fields _=Data.cell v:=z
     cases z'⟩
 keep:=fun i h h' st k=>k it (by simp) _ st
 item:=by
   intro X hP hw hK hc i pins s σ H E I hf st hg
   subst hP hw hK
   obtain⟨f0,f1,f2,f3,f4,f5⟩:=hf it (by simp)
   have W:=Walks.range (prog:=X.prog) (w:=X.w) (I.ok.hd hc) it lo 1 n
   refine W.item i s _ _ hg st fun v h' tk hv st' kk=>?_
   obtain⟨t,rfl⟩:=hv
   have I1:Inv X pins σ H {s with heap:=h',toks:=tk}:=I.turned (fun b o hb e=>kk b o (by simpa using hb) e) f0 f1 f3 f4 f5
   refine⟨_,rfl,C0n (s:={s with heap:=h',toks:=tk}) (n:="range_iterator") st' rfl rfl (by decide) ⟨.int (lo+i),H,I1,⟨t,?_⟩,⟨rfl,rfl⟩,st',fun b hb=>(hf b hb).1⟩⟩
   rw[Int.mul_one]
 done:=by
   intro X hP hw hK hc i pins s σ H E I hf st hg
   subst hP hw hK
   obtain⟨f0,f1,f2,f3,f4,f5⟩:=hf it (by simp)
   exact wpAny_pyNext_range_end (I.ok.hd hc) st (by have:n<=i:=hg;omega) fun h' eb=>⟨rfl,I.turned (t':=s.toks) (fun b o hb e=>eb b o hb e) f0 f1 f3 f4 f5⟩
 self:=fun _ _ _ _ _ st h=>wpAny_pyIter_rangeiter st h
section
variable{X:Cx}{tg:Expr}
def G2t (K:PySem.W.Frag) (tl:TE):TI:=fun σ H R=>tl σ H fun x H1=>∃a,x= .ref a/\(∃xs,SqL K H1 a xs)/\R (Itl K a) H1
def G5e (K:PySem.W.Frag) (tl:TE):TI:=fun σ H R=>tl σ H fun x H1=>∃a,x= .ref a/\(∃xs,SqT K H1 a xs)/\R (Itt K a) H1
theorem B7f{l:Expr}{tl:TE}(hl:PE X l tl):PI X tg l (G2t X.K tl):=by
 intro pins s σ H R I h
 refine thn (hl pins s σ H _ I h) fun v s1 hh_=>?_
 obtain⟨x,H1,I1,r1,q1⟩:=hh_
 obtain⟨a,e,⟨xs,hq⟩,q⟩:=q1
 subst e
 cases r1
 obtain⟨its,rv,p,hz⟩:=I1.list hq
 refine wpAny_pyIter_list p.isList ?_
 refine⟨s1.heap.objs.size,[s1.heap.objs.size],_,_,H1,rfl,I1.kept (t':=s1.toks) fun b o e=>Heap.get?_push_of_some _ e,C8e a _,⟨_,Heap.get?_push_size _ rfl,rfl,rfl⟩,fun b hb=>?_,q⟩
 have e:b=s1.heap.objs.size:=by simpa using hb
 subst e
 exact I1.fpOk (Nat.le_refl _) (I1.hok.fresh (Nat.le_refl _))
theorem B6t{l:Expr}{tl:TE}(hl:PE X l tl):PI X tg l (G5e X.K tl):=by
 intro pins s σ H R I h
 refine thn (hl pins s σ H _ I h) fun v s1 hh_=>?_
 obtain⟨x,H1,I1,r1,q1⟩:=hh_
 obtain⟨a,e,⟨xs,hq⟩,q⟩:=q1
 subst e
 cases r1
 obtain⟨its,rv,p,hz⟩:=I1.tuple hq
 refine wpAny_pyIter_tuple (show s1.heap.IsTuple a its.toArray from p) ?_
 refine⟨s1.heap.objs.size,[s1.heap.objs.size],_,_,H1,rfl,I1.kept (t':=s1.toks) fun b o e=>Heap.get?_push_of_some _ e,C1k a _,⟨_,Heap.get?_push_size _ rfl,rfl,rfl⟩,fun b hb=>?_,q⟩
 have e:b=s1.heap.objs.size:=by simpa using hb
 subst e
 exact I1.fpOk (Nat.le_refl _) (I1.hok.fresh (Nat.le_refl _))
theorem D0u{pins:List (Addr×Obj)}{σ:St}{H:Hp}{s:Shared}{R:It ->Hp ->Prop}{E:Value ->Shared ->Prop}{lo hi:Int}{t u v:Tok}{tk:Nat}(I:Inv X pins σ H s)(h1: -(2^62)<=lo)(h2:lo<2^62)(h3: -(2^62)<=hi)(h4:hi<2^62)
   (q:R (Itr lo (hi-lo).toNat) H):wpAny (model X.prog X.w) X.A (pyIter (.ref s.heap.objs.size)) (PIE X pins σ tg R) E {s with heap:=s.heap.push {cls:= .type "range",data:= .fields #[.int lo t,.int hi u,.int 1 v]},toks:=tk}:=by
 refine wpAny_pyIter_range (IsRange.new ..) (small_one h1 h2 h3 h4) ?_
 have I1:Inv X pins σ H {s with heap:=s.heap.push {cls:= .type "range",data:= .fields #[.int lo t,.int hi u,.int 1 v]},toks:=tk}:=I.kept fun b o e=>Heap.get?_push_of_some _ e
 refine⟨(s.heap.push {cls:= .type "range",data:= .fields #[.int lo t,.int hi u,.int 1 v]}).objs.size,[(s.heap.push {cls:= .type "range",data:= .fields #[.int lo t,.int hi u,.int 1 v]}).objs.size],_,_,H,rfl,
   I1.kept (t':=tk) fun b o e=>Heap.get?_push_of_some _ e,C3b _ lo (hi-lo).toNat,?_,fun b hb=>?_,q⟩
 . have e1:lo+((0:Nat):Int)*1=lo:=by simp
   have e2:(((hi-lo).toNat:Nat):Int)- ((0:Nat):Int)=Builtin.Range.rangeSize lo hi 1:=by rw[rangeSize_one];split<;>omega
   show IsRangeIter _ _ (lo+((0:Nat):Int)*1) ((((hi-lo).toNat:Nat):Int)- ((0:Nat):Int)) 1
   rw[e1,e2]
   exact Heap.get?_push_size _ rfl
 have e:b=(s.heap.push {cls:= .type "range",data:= .fields #[.int lo t,.int hi u,.int 1 v]}).objs.size:=by simpa using hb
 subst e
 exact I1.fpOk (Nat.le_refl _) (I1.hok.fresh (Nat.le_refl _))
def J0x (ta:TA):TI:=fun σ H R=>ta σ H fun vs H1=>∃j:Int,vs=[.int j]/\ -(2^62)<=j/\j<2^62/\R (Itr 0 j.toNat) H1
theorem A3k{a:Expr}{ta:TA}{p pos:Pos}(hg:Gl X "range")(hm:X.mg "range"=none)(ha:PA X [a] ta)(hs:starEach [a] X.env=[(false,eval a X.env)]:=by rfl):PI X tg (.Call (.Name "range" p) [a] [] pos) (J0x ta):=by
 intro pins s σ H R I h
 refine Call_ (A8g I hg hm boot_range (PyProof.Rows.callWith_type1 (thn (ha pos pins s σ H _ I h) fun us s1 hh_=>?_) hs rfl))
 obtain⟨vs,H1,I1,r1,q1⟩:=hh_
 obtain⟨j,e,q1,q2,q⟩:=q1
 subst e
 cases r1 with
 | cons r rr=>
   cases rr
   obtain⟨t,rfl⟩:=r
   exact call_range_1 (D0u I1 (by omega) (by omega) q1 q2 (by simpa using q))
def G9z (wi:TI) (g:TG) (tb:TS):TS:=fun D σ H=>wi σ H fun J H1=>∃W:Nat ->Nat ->St ->Hp ->Prop,(∃m,W 0 m σ H1)/\∀i m σ H,W i m σ H ->
 (J.stop i H/\D.nx σ H)\/(J.go i H/\∃N:St ->Hp ->Prop,(∀σ' H',N σ' H' ->∃m',m'<m/\W (i+1) m' σ' H')/\∀x H',J.yld i H x H' ->g x σ H' fun σ2 H2=>tb {D with nx:=N,ct:=N,bk:=D.nx} σ2 H2)
noncomputable def A0w (fp:List Addr) (h:Heap):List (Addr×Obj):=fp.filterMap fun b=>(h.get? b).map fun o=>(b,o)
theorem A0m{fp:List Addr}{h:Heap}{b:Addr}{o:Obj}(hb:b∈fp)(e:h.get? b=some o):(b,o)∈A0w fp h:=List.mem_filterMap.mpr ⟨b,hb,by rw[e];rfl⟩
theorem C7f{fp:List Addr}{h:Heap}{p:Addr×Obj}(hp:p∈A0w fp h):p.1∈fp/\h.get? p.1=some p.2:=by
 obtain⟨b,hb,e⟩:=List.mem_filterMap.mp hp
 cases q:h.get? b with
 |none=>rw[q] at e;cases e
 | some o=>
   rw[q] at e
   have e':(b,o)=p:=Option.some.inj e
   subst e'
   exact⟨hb,q⟩
theorem Inv.pinned{pins:List (Addr×Obj)}{σ:St}{H:Hp}{s:Shared}{fp:List Addr}(I:Inv X pins σ H s)(hf:∀b∈fp,A0t X pins H b)(ho:∀b∈fp,∃o,s.heap.get? b=some o/\∀v,o.data≠ .cell v):Inv X (pins++A0w fp s.heap) σ H s:=
 I.pins_of fun p hp=>(List.mem_append.mp hp).elim (fun z=>I.pin p (List.mem_append_right _ z)) fun z=>by
   obtain⟨hb,e⟩:=C7f z
   obtain⟨f0,f1,f2,_⟩:=hf p.1 hb
   obtain⟨o,e',d⟩:=ho p.1 hb
   rw[e] at e';cases e'
   exact⟨e,f0,f1,f2,d⟩
theorem Inv.unpinned{pins pl:List (Addr×Obj)}{σ:St}{H:Hp}{s:Shared}(I:Inv X (pins++pl) σ H s):Inv X pins σ H s:=I.pins_of fun p hp=>I.pin p (List.mem_append_right _ (List.mem_append_left _ hp))
theorem B2q{iter:Expr}{body:List Stmt}{wi:TI}{g:TG}{tb:TS}{pos:Pos}(hp:PassesOwn (model X.prog X.w) X.A X.env X.xe)(hc:X.calm=true)(hi:PI X tg iter wi)(hg:PG X tg g)(hb:PSs X body tb)
   (hs:∀x,foldedSetIterable iter X.env x=pure x:=by intro _;rfl):PS X (.For tg iter body [] pos) (G9z wi g tb):=by
 intro pins s σ H D I h
 refine wpAny_For (thn (hi pins s σ H _ I h) fun v s1 h1=>thn h1 fun itv s2 h2=>?_) hs
 obtain⟨it,fp,tn,J,H2,e,I2,T,st2,f2,W,⟨m0,w0⟩,turn⟩:=h2
 subst e
 have stat:∀{H':Hp},(∀b∈fp,H' b=none) ->∀b∈fp,A0t X pins H' b:=fun hn b hb=>⟨hn b hb,(f2 b hb).2⟩
 refine codeAny_forLoop_any (fun n s'=>∃i σ' H',Inv X pins σ' H' s'/\tn i s'.heap/\(∀b∈fp,H' b=none)/\W i n σ' H') ?_ m0 ⟨0,σ,H2,I2,st2,fun b hb=>(f2 b hb).1,w0⟩
 rintro n s3 ⟨i,σ3,H3,I3,st3,fr3,w3⟩
 rcases turn i n σ3 H3 w3 with⟨stop,qn⟩|⟨go,N,hN,step⟩
 . refine wpAny_passesOwn hp (thn (T.done X rfl rfl rfl hc i pins s3 σ3 H3 X.xe I3 (stat fr3) st3 stop) fun r s4 ⟨hr,I4⟩=>?_)
   subst hr
   exact wpAny_execs_nil ⟨σ3,H3,I4,qn⟩
 refine wpAny_passesOwn hp (thn (T.item X rfl rfl rfl hc i pins s3 σ3 H3 X.xe I3 (stat fr3) st3 go) fun r s4 ⟨u,hr,h4⟩=>?_)
 subst hr
 refine wpAny_passesOwn hp (thn h4 fun _ s5 hh_=>?_)
 obtain⟨x,H5,I5,r5,y5,st5,fr5⟩:=hh_
 have I5':=I5.pinned (stat fr5) (T.obj _ _ st5)
 refine wpAny_passesOwn hp (thn (hg _ s5 σ3 H5 x u _ I5' r5 (step x H5 y5)) fun _ s6 hh_=>?_)
 obtain⟨σ6,H6,I6,q6⟩:=hh_
 refine wpAny_passesOwn hp (thn (hb _ s6 σ6 H6 _ I6 q6) fun f s7 q7=>?_)
 have again:∀{σ7:St} {H7:Hp},Inv X (pins++A0w fp s5.heap) σ7 H7 s7 ->N σ7 H7 ->∃m,m<n/\∃i σ' H',Inv X pins σ' H' s7/\tn i s7.heap/\(∀b∈fp,H' b=none)/\W i m σ' H':=fun{σ7 H7} I7 n7=>by
   obtain⟨m',hm,w7⟩:=hN σ7 H7 n7
   refine⟨m',hm,i+1,σ7,H7,I7.unpinned,T.keep _ _ _ st5 fun b hb o e=>(I7.pin (b,o) (List.mem_append_right _ (List.mem_append_right _ (A0m hb e)))).1,fun b hb=>?_,w7⟩
   obtain⟨o,e,d⟩:=T.obj _ _ st5 b hb
   exact(I7.pin (b,o) (List.mem_append_right _ (List.mem_append_right _ (A0m hb e)))).2.1
 cases f with
 |next=>obtain⟨σ7,H7,I7,n7⟩:=q7;exact again I7 n7
 |cont=>obtain⟨σ7,H7,I7,n7⟩:=q7;exact again I7 n7
 |brk=>obtain⟨σ7,H7,I7,q7⟩:=q7;exact⟨σ7,H7,I7.unpinned,q7⟩
 |ret v=>obtain⟨x7,σ7,H7,I7,r7,q7⟩:=q7;exact⟨x7,σ7,H7,I7.unpinned,r7,q7⟩
end
theorem A3g{K:PySem.W.Frag}{a:Addr}{xs:List V}{g:TG}{tb:TS}{D:B3t}{σ:St}{H:Hp}(Pv:Nat ->St ->Hp ->Prop)(h0:Pv 0 σ H)(hl:∀i σ H,i<=xs.length ->Pv i σ H ->SqL K H a xs)
   (hs:∀i x σ H,xs[i]?=some x ->Pv i σ H ->g x σ H fun σ2 H2=>tb {D with nx:=Pv (i+1),ct:=Pv (i+1),bk:=D.nx} σ2 H2) (hd:∀σ H,Pv xs.length σ H ->D.nx σ H):
   ∃ W:Nat ->Nat ->St ->Hp ->Prop,(∃m,W 0 m σ H)/\∀i m σ H,W i m σ H ->
     ((Itl K a).stop i H/\D.nx σ H)\/((Itl K a).go i H/\∃N:St ->Hp ->Prop,(∀σ' H',N σ' H' ->∃m',m'<m/\W (i+1) m' σ' H')/\∀x H',(Itl K a).yld i H x H' ->g x σ H' fun σ2 H2=>tb {D with nx:=N,ct:=N,bk:=D.nx} σ2 H2):=by
 refine⟨fun i m σ H=>m=xs.length-i/\i<=xs.length/\Pv i σ H,⟨xs.length,by simp,Nat.zero_le _,h0⟩,?_⟩
 rintro i m σ H ⟨rfl,hi,p⟩
 have q:=hl i σ H hi p
 by_cases hlt:i<xs.length
 . refine .inr ⟨⟨xs,xs[i],q,by simp[hlt]⟩,Pv (i+1),fun σ' H' p'=>⟨xs.length-(i+1),by omega,rfl,hlt,p'⟩,fun x H' y=>?_⟩
   obtain⟨e,y⟩:=y
   subst e
   exact hs i x σ _ (y xs q) p
 have e:i=xs.length:=by omega
 subst e
 exact .inl ⟨⟨xs,q,Nat.le_refl _⟩,hd σ H p⟩
theorem G0k{K:PySem.W.Frag}{a:Addr}{xs:List V}{g:TG}{tb:TS}{D:B3t}{σ:St}{H:Hp}(Pv:Nat ->St ->Hp ->Prop)(h0:Pv 0 σ H)(hl:∀i σ H,i<=xs.length ->Pv i σ H ->SqT K H a xs)
   (hs:∀i x σ H,xs[i]?=some x ->Pv i σ H ->g x σ H fun σ2 H2=>tb {D with nx:=Pv (i+1),ct:=Pv (i+1),bk:=D.nx} σ2 H2) (hd:∀σ H,Pv xs.length σ H ->D.nx σ H):
   ∃ W:Nat ->Nat ->St ->Hp ->Prop,(∃m,W 0 m σ H)/\∀i m σ H,W i m σ H ->
     ((Itt K a).stop i H/\D.nx σ H)\/((Itt K a).go i H/\∃N:St ->Hp ->Prop,(∀σ' H',N σ' H' ->∃m',m'<m/\W (i+1) m' σ' H')/\∀x H',(Itt K a).yld i H x H' ->g x σ H' fun σ2 H2=>tb {D with nx:=N,ct:=N,bk:=D.nx} σ2 H2):=by
 refine⟨fun i m σ H=>m=xs.length-i/\i<=xs.length/\Pv i σ H,⟨xs.length,by simp,Nat.zero_le _,h0⟩,?_⟩
 rintro i m σ H ⟨rfl,hi,p⟩
 have q:=hl i σ H hi p
 by_cases hlt:i<xs.length
 . refine .inr ⟨⟨xs,xs[i],q,by simp[hlt]⟩,Pv (i+1),fun σ' H' p'=>⟨xs.length-(i+1),by omega,rfl,hlt,p'⟩,fun x H' y=>?_⟩
   obtain⟨e,y⟩:=y
   subst e
   exact hs i x σ _ (y xs q) p
 have e:i=xs.length:=by omega
 subst e
 exact .inl ⟨⟨xs,q,Nat.le_refl _⟩,hd σ H p⟩
theorem B4n{lo:Int}{n:Nat}{g:TG}{tb:TS}{D:B3t}{σ:St}{H:Hp}(Pv:Nat ->St ->Hp ->Prop)(h0:Pv 0 σ H)
   (hs:∀i σ H,i<n ->Pv i σ H ->g (.int (lo+i)) σ H fun σ2 H2=>tb {D with nx:=Pv (i+1),ct:=Pv (i+1),bk:=D.nx} σ2 H2) (hd:∀σ H,Pv n σ H ->D.nx σ H):
   ∃ W:Nat ->Nat ->St ->Hp ->Prop,(∃m,W 0 m σ H)/\∀i m σ H,W i m σ H ->
     ((Itr lo n).stop i H/\D.nx σ H)\/((Itr lo n).go i H/\∃N:St ->Hp ->Prop,(∀σ' H',N σ' H' ->∃m',m'<m/\W (i+1) m' σ' H')/\∀x H',(Itr lo n).yld i H x H' ->g x σ H' fun σ2 H2=>tb {D with nx:=N,ct:=N,bk:=D.nx} σ2 H2):=by
 refine⟨fun i m σ H=>m=n-i/\i<=n/\Pv i σ H,⟨n,by simp,Nat.zero_le _,h0⟩,?_⟩
 rintro i m σ H ⟨rfl,hi,p⟩
 by_cases hlt:i<n
 . refine .inr ⟨hlt,Pv (i+1),fun σ' H' p'=>⟨n-(i+1),by omega,rfl,hlt,p'⟩,fun x H' y=>?_⟩
   obtain⟨e,y⟩:=y
   subst e y
   exact hs i σ _ hlt p
 have e:i=n:=by omega
 subst e
 exact .inl ⟨Nat.le_refl _,hd σ H p⟩
theorem A7p{c:TT}{tb:TS}{D:B3t}{σ:St}{H:Hp}(Pv:St ->Hp ->Prop)(μ:St ->Hp ->Nat)(h0:Pv σ H)
   (hs:∀σ H,Pv σ H ->c σ H fun b H1=>if b=true then tb {D with nx:=fun σ' H'=>Pv σ' H'/\μ σ' H'<μ σ H,ct:=fun σ' H'=>Pv σ' H'/\μ σ' H'<μ σ H,bk:=D.nx} σ H1 else D.nx σ H1)
   (mono:∀σ H Q Q',(∀b H1,Q b H1 ->Q' b H1) ->c σ H Q ->c σ H Q'):D3j c tb D σ H:=by
 refine⟨fun m σ H=>m=μ σ H/\Pv σ H,⟨_,rfl,h0⟩,?_⟩
 rintro m σ H ⟨rfl,p⟩
 refine mono σ H _ _ (fun b H1 q=>?_) (hs σ H p)
 cases b with
 |true=>exact⟨_,fun σ' H' ⟨p',l⟩=>⟨_,l,rfl,p'⟩,q⟩
 |false=>exact q
abbrev R2:=V ->V ->Hp ->VK ->Prop
def OpR (X:Cx) (f:Value ->Value ->Sem Value) (r:R2):Prop:=
 ∀ (pins:List (Addr×Obj)) (s:Shared) (σ:St) (H:Hp) (x y:V) (v u:Value) (Q:VK),Inv X pins σ H s ->V4 x v ->V4 y u ->r x y H Q ->
   wpAny (model X.prog X.w) X.A (f v u) (EP X pins σ Q) X.xe s
def UnR (X:Cx) (f:Value ->Sem Value) (r:V ->Hp ->VK ->Prop):Prop:=
 ∀ (pins:List (Addr×Obj)) (s:Shared) (σ:St) (H:Hp) (x:V) (v:Value) (Q:VK),Inv X pins σ H s ->V4 x v ->r x H Q ->
   wpAny (model X.prog X.w) X.A (f v) (EP X pins σ Q) X.xe s
def A0y (X:Cx) (f:Value) (r:List V ->Hp ->VK ->Prop):Prop:=
 ∀ (pins:List (Addr×Obj)) (s:Shared) (σ:St) (H:Hp) (xs:List V) (us:List Value) (Q:VK),Inv X pins σ H s ->G7 xs us ->r xs H Q ->
   wpAny (model X.prog X.w) X.A (call f us) (EP X pins σ Q) X.xe s
def tOp (r:R2) (ta tb:TE):TE:=fun σ H Q=>ta σ H fun x H1=>tb σ H1 fun y H2=>r x y H2 Q
def tUn (r:V ->Hp ->VK ->Prop) (ta:TE):TE:=fun σ H Q=>ta σ H fun x H1=>r x H1 Q
def rI (C:Int ->Int ->Prop) (g:Int ->Int ->V):R2:=fun x y H Q=>∃i j,x= .int i/\y= .int j/\C i j/\Q (g i j) H
def rI0 (g:Int ->Int ->V):R2:=fun x y H Q=>∃i j,x= .int i/\y= .int j/\Q (g i j) H
def rU (g:Int ->V):V ->Hp ->VK ->Prop:=fun x H Q=>∃i,x= .int i/\Q (g i) H
section
variable{X:Cx}{a b c:Expr}{ta tb tc:TE}{pos:Pos}
theorem G6d(ha:PE X a ta)(hb:PE X b tb){pins:List (Addr×Obj)}{s:Shared}{σ:St}{H:Hp}{R:V ->V ->Hp ->Prop}(I:Inv X pins σ H s)
   (h:ta σ H fun x H1=>tb σ H1 fun y H2=>R x y H2) {Q:Value ->Shared ->Prop} {f:Value ->Value ->Sem Value}
   (hf:∀v u s2 x y H2,Inv X pins σ H2 s2 ->V4 x v ->V4 y u ->R x y H2 ->wpAny (model X.prog X.w) X.A (f v u) Q X.xe s2):
   wpAny (model X.prog X.w) X.A (eval a X.env) (fun v s₁=>wpAny (model X.prog X.w) X.A (eval b X.env) (fun u s₂=>wpAny (model X.prog X.w) X.A (f v u) Q X.xe s₂) X.xe s₁) X.xe s:=by
 refine thn (ha pins s σ H _ I h) fun v s1 hh_=>?_
 obtain⟨x,H1,I1,r1,q1⟩:=hh_
 refine thn (hb pins s1 σ H1 _ I1 q1) fun u s2 hh_=>?_
 obtain⟨y,H2,I2,r2,q2⟩:=hh_
 exact hf v u s2 x y H2 I2 r1 r2 q2
theorem B7{op:Operator}{r:R2}(ho:OpR X (binaryOp op) r)(ha:PE X a ta)(hb:PE X b tb):PE X (.BinOp a op b pos) (tOp r ta tb):=by
 intro pins s σ H Q I h
 exact wpAny_BinOp (G6d ha hb I h fun v u s2 x y H2 I2 rx ry q=>ho pins s2 σ H2 x y v u Q I2 rx ry q)
theorem A2k{op:UnaryOp}{r:V ->Hp ->VK ->Prop}(ho:UnR X (unaryOp op) r)(ha:PE X a ta):PE X (.UnaryOp op a pos) (tUn r ta):=by
 intro pins s σ H Q I h
 exact UnaryOp_ (thn (ha pins s σ H _ I h) fun v s1 ⟨x,H1,I1,r1,q1⟩=>ho pins s1 σ H1 x v Q I1 r1 q1)
theorem opI{f:Value ->Value ->Sem Value}{C:Int ->Int ->Prop}{g:Int ->Int ->Int}
   (rule:∀(i j:Int) (t u:Tok) (s:Shared) (Q:Value ->Shared ->Prop) (E:Value ->Shared ->Prop),C i j ->Q (.int (g i j) s.toks) {s with toks:=s.toks+1} ->wpAny (model X.prog X.w) X.A (f (.int i t) (.int j u)) Q E s):
   OpR X f (rI C fun i j=> .int (g i j)):=by
 intro pins s σ H x y v u Q I rx ry h
 obtain⟨i,j,rfl,rfl,hc,q⟩:=h
 obtain⟨t,rfl⟩:=rx
 obtain⟨t',rfl⟩:=ry
 exact rule i j t t' s _ _ hc ⟨.int (g i j),H,I.tok _,⟨_,rfl⟩,q⟩
theorem G6c{f:Value ->Value ->Sem Value}{g:Int ->Int ->Int}
   (rule:∀(i j:Int) (t u:Tok) (s:Shared) (Q:Value ->Shared ->Prop) (E:Value ->Shared ->Prop),Q (.int (g i j) s.toks) {s with toks:=s.toks+1} ->wpAny (model X.prog X.w) X.A (f (.int i t) (.int j u)) Q E s):
   OpR X f (rI0 fun i j=> .int (g i j)):=by
 intro pins s σ H x y v u Q I rx ry h
 obtain⟨i,j,rfl,rfl,q⟩:=h
 obtain⟨t,rfl⟩:=rx
 obtain⟨t',rfl⟩:=ry
 exact rule i j t t' s _ _ ⟨.int (g i j),H,I.tok _,⟨_,rfl⟩,q⟩
theorem D9a{f:Value ->Value ->Sem Value}{g:Int ->Int ->Bool}
   (rule:∀(i j:Int) (t u:Tok) (s:Shared) (Q:Value ->Shared ->Prop) (E:Value ->Shared ->Prop),Q (.bool (g i j)) s ->wpAny (model X.prog X.w) X.A (f (.int i t) (.int j u)) Q E s):
   OpR X f (rI0 fun i j=> .bl (g i j)):=by
 intro pins s σ H x y v u Q I rx ry h
 obtain⟨i,j,rfl,rfl,q⟩:=h
 obtain⟨t,rfl⟩:=rx
 obtain⟨t',rfl⟩:=ry
 exact rule i j t t' s _ _ ⟨.bl (g i j),H,I,rfl,q⟩
def G5q (i j:Int):Prop:=0<=j/\j<=1000000/\i.natAbs<2^64
def A3m (i j:Int):Prop:=(-(2^64)<i/\i<2^64)\/(-(2^64)<j/\j<2^64)
theorem A3m.ok{i j:Int}(h:A3m i j):IntMulOk i j:=by
 rcases h with⟨h1,h2⟩|⟨h1,h2⟩
 . exact .of_left (intBits_le_64 h1 h2)
 exact .of_right (intBits_le_64 h1 h2)
theorem V1:OpR X (binaryOp .Add) (rI0 fun i j=> .int (i+j)):=G6c fun _ _ _ _ _ _ _ q=>add_int q
theorem Y2:OpR X (binaryOp .Sub) (rI0 fun i j=> .int (i-j)):=G6c fun _ _ _ _ _ _ _ q=>sub_int q
theorem V2:OpR X (binaryOp .Mod) (rI (fun _ j=>0<j) fun i j=> .int (i % j)):=opI fun i j _ _ _ _ _ hc q=>by
 have h1:(0:Int)<j:=hc
 exact mod_int' (by omega) (by rw[Int.fmod_eq_emod_of_nonneg i (by omega)];exact q)
theorem C9y:OpR X (binaryOp .Pow) (rI G5q fun i j=> .int (i^j.toNat)):=opI fun _ _ _ _ _ _ _ hc q=>pow_int_small hc.1 hc.2.1 hc.2.2 q
theorem G6j:OpR X (binaryOp .BitXor) (rI0 fun i j=> .int (Builtin.bitXor i j)):=G6c fun _ _ _ _ _ _ _ q=>xor_int q
theorem unI{f:Value ->Sem Value}{g:Int ->Int}
   (rule:∀(i:Int) (t:Tok) (s:Shared) (Q:Value ->Shared ->Prop) (E:Value ->Shared ->Prop),Q (.int (g i) s.toks) {s with toks:=s.toks+1} ->wpAny (model X.prog X.w) X.A (f (.int i t)) Q E s):
   UnR X f (rU fun i=> .int (g i)):=by
 intro pins s σ H x v Q I rx h
 obtain⟨i,rfl,q⟩:=h
 obtain⟨t,rfl⟩:=rx
 exact rule i t s _ _ ⟨.int (g i),H,I.tok _,⟨_,rfl⟩,q⟩
theorem A1b:UnR X (unaryOp .USub) (rU fun i=> .int (-i)):=unI fun _ _ _ _ _ q=>neg_int q
end
noncomputable def G8u:V ->V ->Bool
 | .non,.non=>true| .non,.int _=>true| .int _,.non=>true| .non,.bl _=>true| .bl _,.non=>true| .non,.str _=>true| .str _,.non=>true
 | .int _,.int _=>true| .bl _,.bl _=>true| .str _,.str _=>true| .byt _,.byt _=>true
 | .int _,.str _=>true| .str _,.int _=>true| .bl _,.str _=>true| .str _,.bl _=>true
 |_,_=>false
def rEq:R2:=fun x y H Q=>G8u x y=true/\Q (.bl (decide (x=y))) H
def rNe:R2:=fun x y H Q=>G8u x y=true/\Q (.bl (!decide (x=y))) H
theorem C4m{i j:Int}:decide (V.int i=V.int j)=(i==j):=by
 rw[Bool.eq_iff_iff]
 simp
theorem D2j{i j:Bool}:decide (V.bl i=V.bl j)=(i==j):=by
 rw[Bool.eq_iff_iff]
 simp
theorem dec_str{i j:Str}:decide (V.str i=V.str j)=(i==j):=by
 rw[Bool.eq_iff_iff]
 simp
theorem C4d{i j:Array UInt8}:decide (V.byt i=V.byt j)=(i.toList==j.toList):=by
 rw[Bool.eq_iff_iff]
 cases i
 cases j
 simp
section
variable{X:Cx}{a b c:Expr}{ta tb tc:TE}{pos:Pos}
theorem V9{pins:List (Addr×Obj)}{σ:St}{H:Hp}{s:Shared}{Q:VK}{k k':Bool}(I:Inv X pins σ H s)(q:Q (.bl k) H)(e:k=k'):EP X pins σ Q (.bool k') s:=by
 subst e
 exact⟨.bl k,H,I,rfl,q⟩
theorem G8:OpR X (compareOp .Eq) rEq:=by
 intro pins s σ H x y v u Q I rx ry h
 obtain⟨hs,q⟩:=h
 cases x with
 | non=>
   cases rx
   cases y with
   |non=>cases ry;exact PySem.EqNone.eq_none_none (V9 I q (by simp))
   |bl j=>cases ry;exact PySem.EqNone.eq_none_bool (V9 I q (by simp))
   |int j=>obtain⟨t',rfl⟩:=ry;exact PySem.EqNone.eq_none_int (V9 I q (by simp))
   |str j=>obtain⟨t',rfl⟩:=ry;exact PySem.EqNone.eq_none_str (V9 I q (by simp))
   |_=>exact absurd (show false=true from hs) Bool.false_ne_true
 | bl i=>
   cases rx
   cases y with
   |non=>cases ry;exact PySem.EqNone.eq_bool_none (V9 I q (by simp))
   |bl j=>cases ry;exact eq_bool (V9 I q D2j)
   |str j=>obtain⟨t',rfl⟩:=ry;exact PySem.EqMixed.eq_bool_str (V9 I q (by simp))
   |_=>exact absurd (show false=true from hs) Bool.false_ne_true
 | int i=>
   obtain⟨t,rfl⟩:=rx
   cases y with
   |non=>cases ry;exact PySem.EqNone.eq_int_none (V9 I q (by simp))
   |int j=>obtain⟨t',rfl⟩:=ry;exact eq_int (V9 I q C4m)
   |str j=>obtain⟨t',rfl⟩:=ry;exact PySem.EqMixed.eq_int_str (V9 I q (by simp))
   |_=>exact absurd (show false=true from hs) Bool.false_ne_true
 | str i=>
   obtain⟨t,rfl⟩:=rx
   cases y with
   |non=>cases ry;exact PySem.EqNone.eq_str_none (V9 I q (by simp))
   |bl j=>cases ry;exact PySem.EqMixed.eq_str_bool (V9 I q (by simp))
   |int j=>obtain⟨t',rfl⟩:=ry;exact PySem.EqMixed.eq_str_int (V9 I q (by simp))
   |str j=>obtain⟨t',rfl⟩:=ry;exact eq_str (V9 I q dec_str)
   |_=>exact absurd (show false=true from hs) Bool.false_ne_true
 | byt i=>
   obtain⟨t,rfl⟩:=rx
   cases y with
   |byt j=>obtain⟨t',rfl⟩:=ry;exact PySem.W.eq_bytes (V9 I q C4d)
   |_=>exact absurd (show false=true from hs) Bool.false_ne_true
 |_=>cases y<;>exact absurd (show false=true from hs) Bool.false_ne_true
theorem B1c:OpR X (compareOp .NotEq) rNe:=by
 intro pins s σ H x y v u Q I rx ry h
 obtain⟨hs,q⟩:=h
 cases x with
 | non=>
   cases rx
   cases y with
   |non=>cases ry;exact PySem.EqNone.ne_none_none (V9 I q (by simp))
   |bl j=>cases ry;exact PySem.EqNone.ne_none_bool (V9 I q (by simp))
   |int j=>obtain⟨t',rfl⟩:=ry;exact PySem.EqNone.ne_none_int (V9 I q (by simp))
   |str j=>obtain⟨t',rfl⟩:=ry;exact PySem.EqNone.ne_none_str (V9 I q (by simp))
   |_=>exact absurd (show false=true from hs) Bool.false_ne_true
 | bl i=>
   cases rx
   cases y with
   |non=>cases ry;exact PySem.EqNone.ne_bool_none (V9 I q (by simp))
   |bl j=>cases ry;exact ne_bool (V9 I q (congrArg not D2j))
   |str j=>obtain⟨t',rfl⟩:=ry;exact PySem.EqMixed.ne_bool_str (V9 I q (by simp))
   |_=>exact absurd (show false=true from hs) Bool.false_ne_true
 | int i=>
   obtain⟨t,rfl⟩:=rx
   cases y with
   |non=>cases ry;exact PySem.EqNone.ne_int_none (V9 I q (by simp))
   |int j=>obtain⟨t',rfl⟩:=ry;exact ne_int (V9 I q (congrArg not C4m))
   |str j=>obtain⟨t',rfl⟩:=ry;exact PySem.EqMixed.ne_int_str (V9 I q (by simp))
   |_=>exact absurd (show false=true from hs) Bool.false_ne_true
 | str i=>
   obtain⟨t,rfl⟩:=rx
   cases y with
   |non=>cases ry;exact PySem.EqNone.ne_str_none (V9 I q (by simp))
   |bl j=>cases ry;exact PySem.EqMixed.ne_str_bool (V9 I q (by simp))
   |int j=>obtain⟨t',rfl⟩:=ry;exact PySem.EqMixed.ne_str_int (V9 I q (by simp))
   |str j=>obtain⟨t',rfl⟩:=ry;exact ne_str (V9 I q (congrArg not dec_str))
   |_=>exact absurd (show false=true from hs) Bool.false_ne_true
 | byt i=>
   obtain⟨t,rfl⟩:=rx
   cases y with
   |byt j=>obtain⟨t',rfl⟩:=ry;exact PySem.W.ne_bytes (V9 I q (congrArg not C4d))
   |_=>exact absurd (show false=true from hs) Bool.false_ne_true
 |_=>cases y<;>exact absurd (show false=true from hs) Bool.false_ne_true
theorem A2t:OpR X (compareOp .Lt) (rI0 fun i j=> .bl (decide (i<j))):=D9a fun _ _ _ _ _ _ _ q=>lt_int q
theorem C3v:OpR X (compareOp .LtE) (rI0 fun i j=> .bl (decide (i<=j))):=D9a fun _ _ _ _ _ _ _ q=>le_int q
theorem A5y:OpR X (compareOp .Gt) (rI0 fun i j=> .bl (decide (j<i))):=D9a fun _ _ _ _ _ _ _ q=>gt_int q
theorem C5r:OpR X (compareOp .GtE) (rI0 fun i j=> .bl (decide (j<=i))):=D9a fun _ _ _ _ _ _ _ q=>ge_int q
theorem D2w:OpR X (compareOp .Is) (fun x y H Q=>y= .non/\Q (.bl (decide (x= .non))) H):=by
 intro pins s σ H x y v u Q I rx ry h
 obtain⟨rfl,q⟩:=h
 cases ry
 refine is_none_gen (V9 I q ?_)
 cases x<;>first
   |(cases rx;rfl)
   |(obtain⟨t,rfl⟩:=rx;rfl)
theorem G2b:OpR X (compareOp .IsNot) (fun x y H Q=>y= .non/\Q (.bl (!decide (x= .non))) H):=by
 intro pins s σ H x y v u Q I rx ry h
 obtain⟨rfl,q⟩:=h
 cases ry
 refine isnot_none_gen (V9 I q ?_)
 cases x<;>first
   |(cases rx;rfl)
   |(obtain⟨t,rfl⟩:=rx;rfl)
theorem C6(b:Expr){op:CmpOp}(h:op≠ .In:=by decide)(h2:op≠ .NotIn:=by decide):behindInMarks op b=false:=by
 have e1:(op==CmpOp.In)=false:=by cases op<;>first|rfl|exact absurd rfl h
 have e2:(op==CmpOp.NotIn)=false:=by cases op<;>first|rfl|exact absurd rfl h2
 cases b<;>simp[behindInMarks,e1,e2]
theorem G5{op:CmpOp}{r:R2}(ho:OpR X (compareOp op) r)(ha:PE X a ta)(hb:PE X b tb)(hm:behindInMarks op b=false):PE X (.Compare a [op] [b] pos) (tOp r ta tb):=by
 intro pins s σ H Q I h
 exact wpAny_Compare1 (G6d ha hb I h fun v u s2 x y H2 I2 rx ry q=>ho pins s2 σ H2 x y v u Q I2 rx ry q) hm
def G3a (t:TE):TT:=fun σ H Q=>t σ H fun x H'=>∃k,x= .bl k/\Q k H'
theorem C8{op:CmpOp}{r:R2}(ho:OpR X (compareOp op) r)(ha:PE X a ta)(hb:PE X b tb)(hm:behindInMarks op b=false):PT X (.Compare a [op] [b] pos) (G3a (tOp r ta tb)):=by
 intro pins s σ H Q I h
 refine wpAny_isTrue_Compare1 (thn (ha pins s σ H _ I h) fun v s1 ⟨x,H1,I1,r1,q1⟩=>thn (hb pins s1 σ H1 _ I1 q1) fun u s2 ⟨y,H2,I2,r2,q2⟩=>
   thn (ho pins s2 σ H2 x y v u _ I2 r1 r2 q2) fun c s3 ⟨z,H3,I3,r3,k,e,q3⟩=>?_) hm
 subst e
 cases r3
 exact wpAny_truthy_bool ⟨H3,I3,q3⟩
def G6a (r r':R2) (ta tb tc:TE):TE:=fun σ H Q=>ta σ H fun x H1=>tb σ H1 fun y H2=>r x y H2 fun z H3=>∃k,z= .bl k/\
 (if k=true then tc σ H3 fun w' H4=>r' y w' H4 Q else Q (.bl false) H3)
theorem D0q{op op':CmpOp}{r r':R2}(ho:OpR X (compareOp op) r)(ho':OpR X (compareOp op') r')(ha:PE X a ta)(hb:PE X b tb)(hc:PE X c tc)
   (hm:lastMarks [op,op'] [b,c]=false:=by with_unfolding_all rfl):PT X (.Compare a [op,op'] [b,c] pos) (G3a (G6a r r' ta tb tc)):=by
 intro pins s σ H Q I h
 refine isTrue_chain (thn (ha pins s σ H _ I h) fun v s1 ⟨x,H1,I1,r1,q1⟩=>test_link (thn (hb pins s1 σ H1 _ I1 q1) fun u s2 ⟨y,H2,I2,r2,q2⟩=>
   thn (ho pins s2 σ H2 x y v u _ I2 r1 r2 q2) fun d s3 ⟨z,H3,I3,r3,k,e,q3⟩=>?_)) hm
 subst e
 cases r3
 refine wpAny_truthy_bool ?_
 cases k with
 | false=>
   obtain⟨k',e',q'⟩:=q3
   cases e'
   exact ite_ff ⟨H3,I3,q'⟩
 | true=>
   refine ite_tt (test_last (thn (hc pins s3 σ H3 _ I3 q3) fun w' s4 ⟨z',H4,I4,r4,q4⟩=>thn (ho' pins s4 σ H4 y z' u w' _ I4 r2 r4 q4) fun d' s5 hh_=>?_))
   obtain⟨z2,H5,I5,r5,k2,e2,q5⟩:=hh_
   subst e2
   cases r5
   exact wpAny_truthy_bool ⟨H5,I5,q5⟩
theorem B2d:(sizeLine:Nat)<2^63:=by rw[sizeLine_eq];decide
theorem C3a:OpR X (binaryOp .Add) (fun x y H Q=>∃i j,x= .str i/\y= .str j/\i.length+j.length<=sizeLine/\Q (.str (i++j)) H):=by
 intro pins s σ H x y v u Q I rx ry h
 obtain⟨i,j,rfl,rfl,hz,q⟩:=h
 obtain⟨t,rfl⟩:=rx
 obtain⟨t',rfl⟩:=ry
 exact add_str (fun t' tk=>⟨.str (i++j),H,I.tok _,⟨_,rfl⟩,q⟩) hz
theorem A7q{x:V}{us:List Value}(r:G7 [x] us):∃u,us=[u]/\V4 x u:=by
 cases r with
 |cons r1 r2=>cases r2;exact⟨_,rfl,r1⟩
theorem B9j{x y:V}{us:List Value}(r:G7 [x,y] us):∃u w',us=[u,w']/\V4 x u/\V4 y w':=by
 cases r with
 | cons r1 r2=>
   cases r2 with
   |cons r3 r4=>cases r4;exact⟨_,_,rfl,r1,r3⟩
theorem B9n:A0y X (.builtin "abs") (fun xs H Q=>∃i,xs=[.int i]/\Q (.int (if i<0 then -i else i)) H):=by
 intro pins s σ H xs us Q I r h
 obtain⟨i,rfl,q⟩:=h
 obtain⟨u,rfl,t,rfl⟩:=A7q r
 exact call_abs_int fun u tk=>⟨.int (if i<0 then -i else i),H,I.tok _,⟨_,rfl⟩,q⟩
theorem B5c(hc:X.calm=true):A0y X (.builtin "max") (fun xs H Q=>∃i j,xs=[.int i,.int j]/\Q (.int (if j>i then j else i)) H):=by
 intro pins s σ H xs us Q I r h
 obtain⟨i,j,rfl,q⟩:=h
 obtain⟨u,w',rfl,⟨t,rfl⟩,⟨t',rfl⟩⟩:=B9j r
 refine max_two_ints (I.ok.hd hc) fun h' tk k=>⟨_,H,I.kept k,?_,q⟩
 by_cases hj:j>i
 . rw[if_pos hj,if_pos hj];exact⟨_,rfl⟩
 rw[if_neg hj,if_neg hj];exact⟨_,rfl⟩
theorem B4k(hc:X.calm=true):A0y X (.builtin "min") (fun xs H Q=>∃i j,xs=[.int i,.int j]/\Q (.int (if j<i then j else i)) H):=by
 intro pins s σ H xs us Q I r h
 obtain⟨i,j,rfl,q⟩:=h
 obtain⟨u,w',rfl,⟨t,rfl⟩,⟨t',rfl⟩⟩:=B9j r
 refine min_two_ints (I.ok.hd hc) fun h' tk k=>⟨_,H,I.kept k,?_,q⟩
 by_cases hj:j<i
 . rw[if_pos hj,if_pos hj];exact⟨_,rfl⟩
 rw[if_neg hj,if_neg hj];exact⟨_,rfl⟩
theorem A0a:A0y X (.type "int") (fun xs H Q=>(∃i,xs=[.int i]/\Q (.int i) H)\/∃k,xs=[.bl k]/\Q (.int (if k then 1 else 0)) H):=by
 intro pins s σ H xs us Q I r h
 rcases h with⟨i,rfl,q⟩|⟨k,rfl,q⟩
 . obtain⟨u,rfl,t,rfl⟩:=A7q r
   exact call_int_int ⟨.int i,H,I,⟨_,rfl⟩,q⟩
 obtain⟨u,rfl,r1⟩:=A7q r
 cases r1
 exact call_int_bool ⟨.int (if k then 1 else 0),H,I.tok _,⟨_,rfl⟩,q⟩
theorem A7c:A0y X (.type "str") (fun xs H Q=>∃i,xs=[.int i]/\i.natAbs.log2<1920/\Q (.str (toString i)) H):=by
 intro pins s σ H xs us Q I r h
 obtain⟨i,rfl,hz,q⟩:=h
 obtain⟨u,rfl,t,rfl⟩:=A7q r
 exact PySem.P.str_of_int hz ⟨.str _,H,I.tok _,⟨_,rfl⟩,q⟩
end
structure C3g(h:Heap)(x dx C:Addr)(mA:Str ->Option Value):Prop where
 obj:h.get? x=some (PySem.W.instObj C dx)
 ns:h.Ns1 dx mA
 ne:dx≠x
theorem A8m{h:Heap}{dx:Addr}{mA:Str ->Option Value}(n:h.Ns1 dx mA):∃od,h.get? dx=some od/\∀name,PySem.W.lookIn name od=some (mA name):=by
 obtain⟨o,es,ep,ho,hd,hk,_,hm⟩:=n
 refine⟨o,ho,fun name=>?_⟩
 have e:=hm name
 unfold nsFind findBy at e
 rw[<-Array.find?_toList] at e
 unfold PySem.W.lookIn
 rw[hd]
 dsimp only
 split
 . rename_i y q
   rw[q] at e
   exact congrArg some e
 rename_i q
 rw[q] at e
 have a:es.toList.any (·.refKey)=false:=by
   rw[List.any_eq_false]
   intro y hy
   obtain⟨z,t,hkey⟩:=hk y (Array.mem_toList_iff.mp hy)
   simp[DictEntry.refKey,hkey]
 have a':¬es.toList.any (·.refKey)=true:=by rw[a];exact Bool.false_ne_true
 rw[if_neg a']
 exact congrArg some e
theorem C3g.look{h:Heap}{x dx C:Addr}{mA:Str ->Option Value}(I:C3g h x dx C mA):∃od,PySem.W.InstAt h x (PySem.W.instObj C dx) C (some od)/\∀name,PySem.W.lookIn name od=some (mA name):=
 let⟨od,ho,hl⟩:=A8m I.ns
 ⟨od,⟨I.obj,rfl,rfl,ho⟩,hl⟩
section
variable{prog:Program}{w:World}{A:Around}{E:Value ->Shared ->Prop}{s:Shared}{K:PySem.W.Frag}{x dx C f:Addr}{mA:Str ->Option Value}{name:Str}{v:Value}
theorem G0d{expr:Bool}{Q:Value ->Shared ->Prop}(X:K.In s.heap)(I:C3g s.heap x dx C mA)(hg:PySem.W.plainGet K C name=true)(hh:PySem.W.hasDictIn K C=true)
   (ha:PySem.W.findIn K (.ref C) name=some none) (hv:mA name=some v) (hv':PySem.W.handedIn v=true) (h:Q v {s with toks:=s.toks+1}):
   wpAny (model prog w) A (getAttr (.ref x) name expr) Q E s:=by
 obtain⟨od,J,hl⟩:=I.look
 exact PySem.W.get_value X J (PySem.W.plainGet_of hg).1 (PySem.W.findObj_own hh ha rfl (by rw[hl,hv])) hv' h
theorem D1k{pl:Sem Bool}{Q:Value×List Value ->Shared ->Prop}(X:K.In s.heap)(I:C3g s.heap x dx C mA)(hg:PySem.W.plainGet K C name=true)
   (hf:PySem.W.findIn K (.ref C) name=some (some (.ref f))) (ht:PySem.W.isFn K (.ref f)=true) (hv:mA name=none) (h:Q (.ref f,[.ref x]) s):
   wpAny (model prog w) A (getMethod (.ref x) name pl) Q E s:=by
 obtain⟨od,J,hl⟩:=I.look
 exact PySem.W.method_fn X J (PySem.W.plainGet_of hg).1 (PySem.W.plainGet_of hg).2 hf (beq_iff_eq.mp ht) (by show(PySem.W.lookIn name od).map (·.isSome)=some false;rw[hl,hv];rfl) h
theorem D9h{ns:List Str}{Q:Unit ->Shared ->Prop}(X:K.In s.heap)(I:C3g s.heap x dx C mA)
   (hs:PySem.W.findIn K (.ref C) "__setattr__"=some (some (.builtin "object.__setattr__"))) (hp:PySem.W.plainOver K C=true) (ht:PySem.W.takerIn K C name=some none) (hh:PySem.W.hasDictIn K C=true)
   (hw:PySem.Within mA ns) (hsz:ns.length<=sizeLine)
   (h:∀h',C3g h' x dx C (fun y=>if y=name then some v else mA y) ->Heap.SameBut dx s.heap h' ->Q () {s with heap:=h',toks:=s.toks+2}):
   wpAny (model prog w) A (setAttr (.ref x) name v) Q E s:=by
 obtain⟨od,J,hl⟩:=I.look
 refine PySem.W.set_plain X J hs (PySem.W.osa_open (s:={s with toks:=s.toks+1}) (r:=none) X J hp ht fun b=>?_)
 obtain⟨cd,hc,hd'⟩:=PySem.W.any_some hh
 have hx:s.heap.get? x=some ⟨.ref C,some dx,.plain, #[]⟩:=I.obj
 refine wpAny_bind (wpAny_pure (wpAny_bind (wpAny_bind (wpAny_loadPart hx (wpAny_bind (PySem.W.Looks.here (s:={s with toks:=s.toks+1}) (PySem.W.looks_clsIn X hc) ?_))))))
 rw[hd']
 refine wpAny_pure (a:=some dx) (wpAny_bind (wpAny_pure (wpAny_bind ?_)))
 refine wpAny_nsSet1 (s:={s with toks:=s.toks+1}) I.ns fun h' hn2 hs2=>?_
 obtain⟨oD,esD,epD,hoD,hdD,hcD⟩:=hn2.count (PySem.Within.cons name v hw)
 refine wpAny_bind (wpAny_lookBehind hoD (by rw[hdD];exact pastItsLine_dict (Nat.le_trans hcD (by rw[List.length_cons];omega))) ?_)
 exact wpAny_pure (h _ ⟨(hs2.2 _ (Ne.symm I.ne)).trans I.obj,hn2,I.ne⟩ hs2)
theorem B8e{R:Result ->Shared ->Prop}{vs:List Value}{kw:List (Str×Value)}(X:K.In s.heap)(hm:PySem.W.makesIn K C=true)
   (hi:PySem.W.findIn K (.ref C) "__init__"=some (some (.ref f))) (hf:PySem.W.typeIn K (.ref f)=some (.type "function"))
   (h:codeAny (model prog w) (A.under (.builtin "type.__call__" ⟨.ref C::vs,kw⟩)) (.call (.ref f) ⟨.ref (s.heap.objs.size+1)::vs,kw⟩) (PySem.W.InitBack (s.heap.objs.size+1) R)
     {s with heap:=(s.heap.push PySem.W.emptyDict).push (PySem.W.instObj C s.heap.objs.size)}):
   codeAny (model prog w) A (.call (.ref C) ⟨vs,kw⟩) R s:=by
 obtain⟨hh,g,d,t,os⟩:=s
 exact PySem.W.make_core (PySem.W.makes_of X hm) (PySem.W.looks_findIn X hi) (fun self=>PySem.W.bind_fn X self hf) (.inl rfl) h
theorem C7v{R:Result ->Shared ->Prop}(X:K.In s.heap)(hm:PySem.W.makesIn K C=true)
   (hi:PySem.W.findIn K (.ref C) "__init__"=some (some (.builtin "object.__init__")))
   (hb:∀self,PySem.W.Looks (model prog w) s.heap (bindSpecial (.builtin "object.__init__") self) (.builtin "object.__init__",[self]))
   (h:codeAny (model prog w) (A.under (.builtin "type.__call__" ⟨[.ref C],[]⟩)) (.call (.builtin "object.__init__") ⟨[.ref (s.heap.objs.size+1)],[]⟩) (PySem.W.InitBack (s.heap.objs.size+1) R)
     {s with heap:=(s.heap.push PySem.W.emptyDict).push (PySem.W.instObj C s.heap.objs.size)}):
   codeAny (model prog w) A (.call (.ref C) ⟨[],[]⟩) R s:=by
 obtain⟨hh,g,d,t,os⟩:=s
 exact PySem.W.make_core (PySem.W.makes_of X hm) (PySem.W.looks_findIn X hi) hb (.inr ⟨rfl,rfl⟩) h
end
noncomputable def Y9 (f:Str) (v:V):List (Str×V) ->List (Str×V)
 | []=>[(f,v)]
 |(g,x)::r=>if g=f then(g,v)::r else(g,x)::Y9 f v r
theorem J9(f g:Str)(v:V):∀fs:List (Str×V),(Y9 f v fs).lookup g=if g=f then some v else fs.lookup g
 | []=>by
   show List.lookup g [(f,v)]=_
   by_cases h:g=f
   . have hb:(g==f)=true:=beq_iff_eq.mpr h
     simp only[List.lookup,hb,if_pos h]
   . have hb:(g==f)=false:=beq_eq_false_iff_ne.mpr h
     simp only[List.lookup,hb,if_neg h]
 | (k, x)::r=>by
   have ih:=J9 f g v r
   rw[show Y9 f v ((k,x)::r)=(if k=f then(k,v)::r else(k,x)::Y9 f v r) from rfl]
   by_cases hk:k=f
   . rw[if_pos hk]
     by_cases h:g=k
     . have hb:(g==k)=true:=beq_iff_eq.mpr h
       simp only[List.lookup,hb,if_pos (h.trans hk)]
     . have hb:(g==k)=false:=beq_eq_false_iff_ne.mpr h
       simp only[List.lookup,hb,if_neg (fun e:g=f=>h (e.trans hk.symm))]
   . rw[if_neg hk]
     by_cases h:g=k
     . have hb:(g==k)=true:=beq_iff_eq.mpr h
       simp only[List.lookup,hb,if_neg (fun e:g=f=>hk (h.symm.trans e))]
     . have hb:(g==k)=false:=beq_eq_false_iff_ne.mpr h
       simp only[List.lookup,hb]
       exact ih
theorem A8p(f:Str)(v:V):∀fs:List (Str×V),f∈(Y9 f v fs).map (·.1)/\∀g,g∈fs.map (·.1) ->g∈(Y9 f v fs).map (·.1)
 | []=>⟨by simp[Y9],fun g h=>by simp at h⟩
 | (k, x)::r=>by
   obtain⟨i1,i2⟩:=A8p f v r
   rw[show Y9 f v ((k,x)::r)=(if k=f then(k,v)::r else(k,x)::Y9 f v r) from rfl]
   by_cases hk:k=f
   . rw[if_pos hk]
     subst hk
     exact⟨by simp,fun g h=>by simpa using h⟩
   . rw[if_neg hk]
     refine⟨?_,fun g h=>?_⟩
     . rw[List.map_cons]
       exact List.mem_cons_of_mem _ i1
     . rw[List.map_cons] at h ⊢
       rcases List.mem_cons.mp h with e|e
       . exact List.mem_cons.mpr (.inl e)
       . exact List.mem_cons_of_mem _ (i2 g e)
theorem A1r(f:Str)(v:V):∀fs:List (Str×V),(Y9 f v fs).length<=fs.length+1
 | []=>by simp[Y9]
 | (k,x)::r=>by
   have ih:=A1r f v r
   rw[show Y9 f v ((k,x)::r)=(if k=f then(k,v)::r else(k,x)::Y9 f v r) from rfl]
   by_cases hk:k=f
   . rw[if_pos hk,List.length_cons,List.length_cons];omega
   . rw[if_neg hk,List.length_cons,List.length_cons];omega
theorem A4g.some_of{v:V}{o:Option Value}(r:A4g (some v) o):∃u,o=some u/\V4 v u:=by
 cases o with
 |none=>exact(show False from r).elim
 |some u=>exact⟨u,rfl,r⟩
theorem A4g.none_of{o:Option Value}(r:A4g none o):o=none:=by
 cases o with
 |none=>rfl
 |some u=>exact(show False from r).elim
theorem B4q{v:V}{u:Value}(r:V4 v u):PySem.W.handedIn u=true:=by
 cases v with
 |non=>cases(show u=Value.none from r);rfl
 |bl b=>cases(show u=Value.bool b from r);rfl
 |int i=>obtain⟨t,e⟩:=(show∃t,u=Value.int i t from r);cases e;rfl
 |str x=>obtain⟨t,e⟩:=(show∃t,u=Value.str x t from r);cases e;rfl
 |byt b=>obtain⟨t,e⟩:=(show∃t,u=Value.bytes b t from r);cases e;rfl
 |flt b=>obtain⟨t,e⟩:=(show∃t,u=Value.float b t from r);cases e;rfl
 |ref a=>cases(show u=Value.ref a from r);rfl
 |ty n=>cases(show u=Value.type n from r);rfl
section
variable{P:Program}{w:World}{H H':Hp}{h h':Heap}{a C dx:Addr}{fs fs':List (Str×V)}
theorem B0u(hok:HOk P w H h)(e:H a=some (.ins C dx fs)):∃mA,C3g h a dx C mA/\(∀f,A4g (fs.lookup f) (mA f))/\PySem.Within mA (fs.map (·.1))/\fs.length<=1000/\H dx=some (.own a):=by
 obtain⟨d,z,ne,ob,mA,n,r,q⟩:=(show Z2 P w H h a (.ins C dx fs) from hok a _ e)
 exact⟨mA,⟨ob,n,ne⟩,r,q,z,d⟩
end
structure Cls(K:PySem.W.Frag)(C:Addr):Prop where
 pg:PySem.W.plainGet K C Str.empty=true
 hd:PySem.W.hasDictIn K C=true
 po:PySem.W.plainOver K C=true
 sa:PySem.W.findIn K (.ref C) "__setattr__"=some (some (.builtin "object.__setattr__"))
theorem Cls.get{K:PySem.W.Frag}{C:Addr}(c:Cls K C)(f:Str):PySem.W.plainGet K C f=true:=c.pg
def A0f (K:PySem.W.Frag) (C:Addr) (f:Str):Prop:=PySem.W.findIn K (.ref C) f=some none
theorem A0f.taker{K:PySem.W.Frag}{C:Addr}{f:Str}(n:A0f K C f):PySem.W.takerIn K C f=some none:=by
 unfold PySem.W.takerIn
 rw[show PySem.W.findIn K (.ref C) f=some none from n]
 rfl
structure A8b(K:PySem.W.Frag)(C:Addr)(m:Str)(f:Addr):Prop where
 at_:PySem.W.findIn K (.ref C) m=some (some (.ref f))
 fn:PySem.W.isFn K (.ref f)=true
 kp:PySem.W.keepIn K (.ref f)=true
section
variable{X:Cx}{pins:List (Addr×Obj)}{σ:St}{H:Hp}{s:Shared}{a C dx:Addr}{fs:List (Str×V)}{f:Str}{v:V}{A:Around}{E:Value ->Shared ->Prop}
theorem C2x{b:Bool}{Q:Value ->Shared ->Prop}(I:Inv X pins σ H s)(e:H a=some (.ins C dx fs))(c:Cls X.K C)(n:A0f X.K C f)(l:fs.lookup f=some v)
   (h:∀u s',Inv X pins σ H s' ->V4 v u ->Q u s'):wpAny (model X.prog X.w) A (getAttr (.ref a) f b) Q E s:=by
 obtain⟨mA,O,r,_,_,_⟩:=B0u I.hok e
 obtain⟨u,hu,ru⟩:=A4g.some_of (v:=v) (o:=mA f) (by rw[<-l];exact r f)
 exact G0d I.kIn O (c.get f) c.hd n hu (B4q ru) (h u _ (I.tok _) ru)
theorem A2f{m:Str}{g:Addr}{pl:Sem Bool}{Q:Value×List Value ->Shared ->Prop}(I:Inv X pins σ H s)(e:H a=some (.ins C dx fs))(c:Cls X.K C)(k:A8b X.K C m g)(l:fs.lookup m=none)
   (h:Q (.ref g,[.ref a]) s):wpAny (model X.prog X.w) A (getMethod (.ref a) m pl) Q E s:=by
 obtain⟨mA,O,r,_,_,_⟩:=B0u I.hok e
 have hn:mA m=none:=A4g.none_of (by rw[<-l];exact r m)
 exact D1k I.kIn O (c.get m) k.at_ k.fn hn h
theorem C2q{y:V}{u:Value}{Q:Unit ->Shared ->Prop}(I:Inv X pins σ H s)(e:H a=some (.ins C dx fs))(c:Cls X.K C)(n:A0f X.K C f)(hl:fs.length<1000)(ry:V4 y u)
   (h:∀s',Inv X pins σ (upd H a (.ins C dx (Y9 f y fs))) s' ->Q () s'):wpAny (model X.prog X.w) A (setAttr (.ref a) f u) Q E s:=by
 obtain⟨mA,O,r,wi,_,ho⟩:=B0u I.hok e
 have hz:(fs.map (·.1)).length<=sizeLine:=by rw[List.length_map,sizeLine_eq];omega
 refine D9h I.kIn O c.sa c.po n.taker c.hd wi hz fun h' O' sb=>h _ ?_
 have hd:∃o,h'.get? dx=some o:=let⟨o,_,_,e',_⟩:=O'.ns;⟨o,e'⟩
 refine I.write (x:=a) (e:=dx) (by rw[e];exact True.intro) (.inr ho) (fun b q hb z=>(sb.2 b hb).trans z) hd ?_
 refine⟨by rw[D0 O.ne];exact ho,?_,O.ne,O'.obj,_,O'.ns,fun g=>?_,fun g hg=>?_⟩
 . have:=A1r f y fs;omega
 . show A4g ((Y9 f y fs).lookup g) (if g=f then some u else mA g)
   rw[J9]
   by_cases q:g=f
   . rw[if_pos q,if_pos q];exact ry
   . rw[if_neg q,if_neg q];exact r g
 by_cases q:g=f
 . rw[q];exact(A8p f y fs).1
 refine(A8p f y fs).2 g (wi g fun z=>hg ?_)
 show(if g=f then some u else mA g)=none
 rw[if_neg q];exact z
theorem Inv.made(I:Inv X pins σ H s):Inv X pins σ (upd (upd H s.heap.objs.size (.own (s.heap.objs.size+1))) (s.heap.objs.size+1) (.ins C s.heap.objs.size []))
   {s with heap:=(s.heap.push PySem.W.emptyDict).push (PySem.W.instObj C s.heap.objs.size)}:=by
 have e1:(s.heap.push PySem.W.emptyDict).get? s.heap.objs.size=some PySem.W.emptyDict:=Heap.get?_push_size s.heap rfl
 have e2:((s.heap.push PySem.W.emptyDict).push (PySem.W.instObj C s.heap.objs.size)).get? (s.heap.objs.size+1)=some (PySem.W.instObj C s.heap.objs.size):=by
   have:=Heap.get?_push_size (s.heap.push PySem.W.emptyDict) (o:=PySem.W.instObj C s.heap.objs.size) rfl
   rwa[Heap.size_push] at this
 have e3:(s.heap.push PySem.W.emptyDict).Ns s.heap.objs.size (fun _=>none):=⟨PySem.W.emptyDict, #[],_,e1,rfl,(fun e he=>absurd he (by simp)),fun _=>rfl⟩
 have I1:=I.laid (a:=s.heap.objs.size) (o:= .own (s.heap.objs.size+1)) (h':=s.heap.push PySem.W.emptyDict) (t':=s.toks) (fun b u q=>Heap.get?_push_of_some _ q) (Nat.le_refl _) ⟨_,e1⟩
 refine I1.laid (a:=s.heap.objs.size+1) (o:= .ins C s.heap.objs.size []) (t':=s.toks) (fun b u q=>Heap.get?_push_of_some _ q) (Nat.le_of_eq (Heap.size_push _ _)) ?_
 have ne:s.heap.objs.size≠s.heap.objs.size+1:=Nat.ne_of_lt (Nat.lt_succ_self _)
 refine⟨by rw[D0 ne,A4],Nat.zero_le _,ne,e2,fun _=>none,(Heap.Ns1.of_empty e3).at fun o q=>Heap.get?_push_of_some _ q,fun _=>True.intro,fun y hy=>absurd rfl hy⟩
theorem C4h{prog:Program}{w:World}{env:Env}{e:Expr}{f:Str}{pos:Pos}{s:Shared}{Q:Value ->Shared ->Prop}(hb:attributeBase e f env (eval e env)=eval e env)
   (h:wpAny (model prog w) A (eval e env) (fun o s₁=>wpAny (model prog w) A (getAttr o f true) Q E s₁) E s):wpAny (model prog w) A (eval (.Attribute e f pos) env) Q E s:=
 Attribute_any_ h (by rw[arm_eval_Attribute,hb])
end
def G9u (K:PySem.W.Frag) (ta:TE) (f:Str):TE:=fun σ H Q=>ta σ H fun x H1=>∃a C dx fs v,x= .ref a/\H1 a=some (.ins C dx fs)/\Cls K C/\A0f K C f/\fs.lookup f=some v/\Q v H1
def J3r (K:PySem.W.Frag) (ta tv:TE) (f:Str):TS:=fun D σ H=>tv σ H fun y H1=>ta σ H1 fun x H2=>∃a C dx fs,x= .ref a/\H2 a=some (.ins C dx fs)/\Cls K C/\A0f K C f/\fs.length<1000/\
 D.nx σ (upd H2 a (.ins C dx (Y9 f y fs)))
section
variable{X:Cx}{o e value:Expr}{f:Str}{pos pos' tpos:Pos}{ta tv:TE}
theorem J0(he:PE X e ta)(hb:attributeBase e f X.env (eval e X.env)=eval e X.env):PE X (.Attribute e f pos) (G9u X.K ta f):=by
 intro pins s σ H Q I h
 refine C4h hb (thn (he pins s σ H _ I h) fun u s1 hh_=>?_)
 obtain⟨x,H1,I1,rx,a,C,dx,fs,v,ex,ea,c,n,l,q⟩:=hh_
 subst ex
 obtain rfl:u=Value.ref a:=rx
 exact C2x I1 ea c n l fun u' s2 I2 ru=>⟨v,H1,I2,ru,q⟩
theorem A0x(ha:PE X o ta)(hv:PE X value tv)(hs:swapsWith value (some (.Attribute o f pos')) pos.line X.env=pure false):PS X (.Assign [.Attribute o f pos'] value pos) (J3r X.K ta tv f):=by
 intro pins s σ H D I h
 refine plainObj_wpAny_Assign_Attribute (thn (hv pins s σ H _ I h) fun u s1 ⟨y,H1,I1,ry,q⟩=>thn (ha pins s1 σ H1 _ I1 q) fun ov s2 hh_=>?_) hs
 obtain⟨x,H2,I2,rx,a,C,dx,fs,ex,ea,c,n,l,q2⟩:=hh_
 subst ex
 obtain rfl:ov=Value.ref a:=rx
 exact C2q I2 ea c n l ry fun s3 I3=>⟨σ,_,I3,q2⟩
end
section
variable{X:Cx}{pins:List (Addr×Obj)}{σ:St}{H:Hp}{s:Shared}{A:Around}{E:Value ->Shared ->Prop}{Q:Value ->Shared ->Prop}{c:Value}{b:Bool}
inductive A5c(K:PySem.W.Frag)(H:Hp):V ->Value ->Prop where
 |non:A5c K H .non (.type "NoneType")
 |bl (x:Bool):A5c K H (.bl x) (.type "bool")
 |int (i:Int):A5c K H (.int i) (.type "int")
 |str (x:Str):A5c K H (.str x) (.type "str")
 |flt (x:UInt64):A5c K H (.flt x) (.type "float")
 |lst {a:Addr} {xs:List V} (e:H a=some (.lst xs)):A5c K H (.ref a) (.type "list")
 |frz {a:Addr} {o:Obj} {xs:List V} (e:H a=some (.frz o (.lst xs))):A5c K H (.ref a) (.type "list")
 |tup {a:Addr} {xs:List V} (e:H a=some (.tup xs)):A5c K H (.ref a) (.type "tuple")
 |dK {a:Addr} {kvs:List (Key×V)} (e:H a=some (.dK kvs)):A5c K H (.ref a) (.type "dict")
 |dT {a:Addr} {kvs:List (List Key×V)} (e:H a=some (.dT kvs)):A5c K H (.ref a) (.type "dict")
 |ins {a C dx:Addr} {fs:List (Str×V)} (e:H a=some (.ins C dx fs)) (cl:Cls K C) (ha:PySem.W.findIn K (.ref C) "__class__"=some (some (.builtin "object.__class__")))
     (hn:PySem.W.specialIn K (.builtin "object.__class__") "__get__"=some (some (.builtin "getset_descriptor.__get__"))) (htk:PySem.W.takesIn K (.builtin "object.__class__")=some true)
     (hm:PySem.W.mroIn K C (.type "object")=some true):A5c K H (.ref a) (.ref C)
theorem C7w{x:V}{u t:Value}(I:Inv X pins σ H s)(rx:V4 x u)(ty:A5c X.K H x t)(e:PySem.W.kitOne X.K t c=some b)(h:∀tk,Q (.bool b) {s with toks:=tk}):
   wpAny (model X.prog X.w) A (call (.builtin "isinstance") [u,c]) Q E s:=by
 cases ty with
 |non=>cases(show u=Value.none from rx);exact PySem.W.kia_one PySem.W.kitx_none I.kIn True.intro e (fun z=>nomatch z) h
 |bl y=>cases(show u=Value.bool y from rx);exact PySem.W.kia_one PySem.W.kitx_bool I.kIn True.intro e (fun z=>nomatch z) h
 |int i=>obtain⟨t,q⟩:=(show∃t,u=Value.int i t from rx);cases q;exact PySem.W.kia_one PySem.W.kitx_int I.kIn True.intro e (fun z=>nomatch z) h
 |str y=>obtain⟨t,q⟩:=(show∃t,u=Value.str y t from rx);cases q;exact PySem.W.kia_one PySem.W.kitx_str I.kIn True.intro e (fun z=>nomatch z) h
 |flt y=>obtain⟨t,q⟩:=(show∃t,u=Value.float y t from rx);cases q;exact PySem.W.kia_one PySem.W.kitx_float I.kIn True.intro e (fun z=>nomatch z) h
 | @lst a xs ea=>
   cases(show u=Value.ref a from rx)
   obtain⟨_,_,n,_,h1⟩:=(show Z2 X.prog X.w H s.heap a (.lst xs) from I.hok a _ ea)
   exact PySem.W.kia_one PySem.W.kitx_list I.kIn ⟨_,h1,rfl⟩ e (fun z=>nomatch z) h
 | @frz a ob xs ea=>
   cases(show u=Value.ref a from rx)
   obtain⟨_,_,_,n,_,h1⟩:=(show Z2 X.prog X.w H s.heap a (.frz ob (.lst xs)) from I.hok a _ ea)
   exact PySem.W.kia_one PySem.W.kitx_list I.kIn ⟨_,h1,rfl⟩ e (fun z=>nomatch z) h
 | @tup a xs ea=>
   cases(show u=Value.ref a from rx)
   obtain⟨_,_,_,p⟩:=(show Z2 X.prog X.w H s.heap a (.tup xs) from I.hok a _ ea)
   obtain⟨o,h1,h2,_⟩:=p
   exact PySem.W.kia_one PySem.W.kitx_tuple I.kIn ⟨o,h1,h2⟩ e (fun z=>nomatch z) h
 | @dK a kvs ea=>
   cases(show u=Value.ref a from rx)
   obtain⟨_,_,vs,_,p⟩:=(show Z2 X.prog X.w H s.heap a (.dK kvs) from I.hok a _ ea)
   obtain⟨o,es,ep,h1,h2,_⟩:=p
   exact PySem.W.kia_one PySem.W.kitx_dict I.kIn ⟨o,h1,h2.1⟩ e (fun z=>nomatch z) h
 | @dT a kvs ea=>
   cases(show u=Value.ref a from rx)
   obtain⟨_,_,xs,_,o,es,ep,h1,h2,_⟩:=(show Z2 X.prog X.w H s.heap a (.dT kvs) from I.hok a _ ea)
   exact PySem.W.kia_one PySem.W.kitx_dict I.kIn ⟨o,h1,h2.1⟩ e (fun z=>nomatch z) h
 | @ins a C dx fs ea cl ha hn htk hm=>
   cases(show u=Value.ref a from rx)
   obtain⟨mA,O,_⟩:=B0u I.hok ea
   obtain⟨od,J,_⟩:=O.look
   exact PySem.W.kia_one (PySem.W.kitx_own (cl.get _) cl.hd ha hn htk hm) I.kIn J e (fun z=>nomatch z) h
end
structure A0r(k:Nat)(A:Around):Prop where
 hd:A.handled=none
 dp:A.depth+3*k+5<recursionLimit
 un:A.units+16*k+200<cLine
theorem A0r.mono{j k:Nat}{A:Around}(r:A0r k A)(h:j<=k):A0r j A:=⟨r.hd,by have:=r.dp;omega,by have:=r.un;omega⟩
theorem A0r.deeper{k:Nat}{A:Around}(r:A0r (k+1) A)(env:Env):A0r k (A.deeper env):=
 ⟨r.hd,by have:=r.dp;show A.depth+1+3*k+5<_;omega,by have:=r.un;show A.units+3+16*k+200<_;omega⟩
theorem B1r{A:Around}{C:Addr}{us:List Value}{kw:List (Str×Value)}:(A.under (.builtin "type.__call__" ⟨.ref C::us,kw⟩)).depth=A.depth+1:=by
 first|rfl|simp[Around.under,Code.weight,Code.isCreation,Code.isGuard,Code.isCaller,Code.frames,Code.isFrame,guardIds]
theorem B1b{A:Around}{C:Addr}{us:List Value}{kw:List (Str×Value)}:(A.under (.builtin "type.__call__" ⟨.ref C::us,kw⟩)).units=A.units+1:=by
 first|rfl|simp[Around.under,Code.cUnits,Code.frames,Code.isFrame]
theorem A0r.make{k:Nat}{A:Around}(r:A0r (k+1) A)(C:Addr)(us:List Value)(kw:List (Str×Value)):A0r k (A.under (.builtin "type.__call__" ⟨.ref C::us,kw⟩)):=
 ⟨r.hd,by have:=r.dp;rw[B1r];omega,by have:=r.un;rw[B1b];omega⟩
theorem A0r.depth{k:Nat}{A:Around}(r:A0r k A):A.depth<recursionLimit:=by have:=r.dp;omega
theorem A0r.units{k:Nat}{A:Around}(r:A0r k A):A.units+64<cLine:=by have:=r.un;omega
def B6y:TA:=fun _ H Q=>Q [] H
def B8t (ta:TE) (tr:TA):TA:=fun σ H Q=>ta σ H fun x H1=>tr σ H1 fun xs H2=>Q (x::xs) H2
section
variable{X:Cx}{e:Expr}{es:List Expr}{te:TE}{t:TA}{pos:Pos}
theorem A3:PA X [] B6y:=fun _ _ _ _ H Q I h=>Calls.spliced_nil ⟨[],H,I,.nil,h⟩
theorem A0(ha:PE X e te)(hr:PA X es t)(hs:starEach (e::es) X.env=(false,eval e X.env)::starEach es X.env:=by rfl):PA X (e::es) (B8t te t):=by
 intro pos pins s σ H Q I h
 rw[hs]
 show wpAny _ _ (spliced ((false,eval e X.env)::backTo pos (starEach es X.env))) _ _ s
 refine Calls.spliced_cons (thn (ha pins s σ H _ I h) fun u s1 hh_=>?_)
 obtain⟨x,H1,I1,r1,q1⟩:=hh_
 exact thn (hr pos pins s1 σ H1 _ I1 q1) fun us s2 ⟨xs,H2,I2,r2,q2⟩=>⟨x::xs,H2,I2,.cons r1 r2,q2⟩
def J4s (t:TA):TE:=fun σ H Q=>t σ H fun xs H1=>xs.length<=sizeLine/\∀p,H1 p=none ->Q (.ref p) (upd H1 p (.tup xs))
def J3b (t:TA):TE:=fun σ H Q=>t σ H fun xs H1=>xs.length<=sizeLine/\∀p,H1 p=none ->Q (.ref p) (upd H1 p (.lst xs))
theorem U7{x1}(h:PA X es t):PE X (.Tuple es x1 pos) (J4s t):=by
 intro pins s σ H Q I hq
 refine wpAny_Tuple_spliced (thn (h pos pins s σ H _ I hq) fun us s1 ⟨xs,H1,I1,r,z,q⟩=>⟨by rw[<-r.length];exact z,?_⟩)
 have hf:H1 s1.heap.objs.size=none:=I1.hok.fresh (Nat.le_refl _)
 refine⟨.ref s1.heap.objs.size,upd H1 s1.heap.objs.size (.tup xs),I1.laid (t':=s1.toks) (fun b u e=>Heap.get?_push_of_some _ e) (Nat.le_refl _) ?_,rfl,q _ hf⟩
 exact⟨z,us,r,⟨_,Heap.get?_push_size _ rfl,rfl,_,rfl⟩⟩
theorem U0(h:PA X es t):PE X (.List es pos) (J3b t):=by
 intro pins s σ H Q I hq
 refine wpAny_List_spliced (thn (h pos pins s σ H _ I hq) fun us s1 ⟨xs,H1,I1,r,z,q⟩=>⟨by rw[<-r.length];exact z,?_⟩)
 have hf:H1 s1.heap.objs.size=none:=I1.hok.fresh (Nat.le_refl _)
 refine⟨.ref s1.heap.objs.size,upd H1 s1.heap.objs.size (.lst xs),I1.laid (t':=s1.toks) (fun b u e=>Heap.get?_push_of_some _ e) (Nat.le_refl _) ?_,rfl,q _ hf⟩
 exact⟨z,us,0,r,Heap.get?_push_size _ rfl⟩
end
abbrev Sp:=List V ->Hp ->VK ->XK ->Prop
abbrev CXT:=List Env ->Hp ->Shared ->XK ->Value ->Shared ->Prop
structure B0d(P:Program)(w:World)(K:PySem.W.Frag)(mg:Str ->Option Value)(base:Heap)(A:Around)(outer:List Env)(s:Shared)(H:Hp):Prop where
 frames:A.frames=some outer
 mod:Mod K mg base
 bs:∀b o,base.get? b=some o ->s.heap.get? b=some o/\H b=none
 bsz:base.objs.size<=s.heap.objs.size
 funs:s.heap.FunFrames base outer
 frf:∀b∈frs outer,H b=none
 hok:HOk P w H s.heap
 bare:AllBare s.gens
def CE (outer:List Env) (P:Program) (w:World) (H:Hp) (s:Shared) (Q:VK) (u:Value) (s':Shared):Prop:=
 ∃v H',s'.os=s.os/\AllBare s'.gens/\Un (frs outer) [] H H' s.heap s'.heap/\HOk P w H' s'.heap/\V4 v u/\Q v H'
def CR (CX:CXT) (outer:List Env) (P:Program) (w:World) (H:Hp) (s:Shared) (Q:VK) (E:XK) (r:Result) (s':Shared):Prop:=
 match r with
 | .ok (.ret u)=>CE outer P w H s Q u s'
 | .ok _=>False
 | .error e=>CX outer H s E e s'
structure G6(P:Program)(w:World)(K:PySem.W.Frag)(mg:Str ->Option Value)(base:Heap)(CX:CXT)(k:Nat)(f:Addr)(fd:FuncData)(ps:List Str)(sp:Sp):Prop where
 len:∀vs H Q E,sp vs H Q E ->vs.length=ps.length
 run:∀(A:Around) (outer:List Env) (s:Shared) (H:Hp) (args:Args) (us:List Value) (vs:List V) (Q:VK) (E:XK),A0r k A ->B0d P w K mg base A outer s H ->BindsTo s fd args (ps.zip us) ->G7 vs us ->sp vs H Q E ->
   codeAny (model P w) A (.call (.ref f) args) (CR CX outer P w H s Q E) s
theorem G6.mono{P:Program}{w:World}{K:PySem.W.Frag}{mg:Str ->Option Value}{base:Heap}{CX:CXT}{j k:Nat}{f:Addr}{fd:FuncData}{ps:List Str}{sp:Sp}(F:G6 P w K mg base CX j f fd ps sp)(h:j<=k):
   G6 P w K mg base CX k f fd ps sp:=⟨F.len,fun A outer s H args us vs Q E hr=>F.run A outer s H args us vs Q E (hr.mono h)⟩
theorem B0d.make{P:Program}{w:World}{K:PySem.W.Frag}{mg:Str ->Option Value}{base:Heap}{A:Around}{outer:List Env}{s:Shared}{H:Hp}(e:B0d P w K mg base A outer s H)(C:Addr)(us:List Value)(kw:List (Str×Value)):
   B0d P w K mg base (A.under (.builtin "type.__call__" ⟨.ref C::us,kw⟩)) outer s H:=⟨by first|exact e.frames|(simpa[Around.under,Code.envs,Code.isFrame,pushEnvs] using e.frames),e.mod,e.bs,e.bsz,e.funs,e.frf,e.hok,e.bare⟩
section
variable{X:Cx}{pins:List (Addr×Obj)}{σ:St}{H:Hp}{s s':Shared}
theorem Inv.env0(I:Inv X pins σ H s):B0d X.prog X.w X.K X.mg X.base X.A X.stack s H:=
 ⟨I.ok.frames,I.ok.mod,I.bs,Nat.le_trans I.ok.bsz I.sz,I.stack,I.stkFree,I.hok,I.bare⟩
theorem Inv.after{Q:VK}{u:Value}(I:Inv X pins σ H s)(h:CE X.stack X.prog X.w H s Q u s'):EP X pins σ Q u s':=by
 obtain⟨v,H',os,bare,un,hok,r,q⟩:=h
 obtain⟨hh,g,d,t,os'⟩:=s'
 obtain rfl:os'=s.os:=os
 exact⟨v,H',I.call (h':=hh) (g':=g) (d':=d) (t':=t) (ch:=[]) un hok bare (fun b z=>absurd z (by simp)),r,q⟩
end
def Y6 (K:PySem.W.Frag) (fd:FuncData) (ps:List Str) (ds:List Value):Prop:=
 ∀(s:Shared) (us:List Value),K.In s.heap ->(us++ds).length=ps.length ->BindsTo s fd ⟨us,[]⟩ (ps.zip (us++ds))
theorem Y6.all{K:PySem.W.Frag}{fd:FuncData}{ps:List Str}(h:∀us:List Value,us.length=ps.length ->bindArgs fd ⟨us,[]⟩=pure (ps.zip us)):Y6 K fd ps []:=fun s us _ hl=>by
 rw[List.append_nil] at hl ⊢
 exact .of_eq (h us hl)
section
variable{X:Cx}{CX:CXT}{k:Nat}{f C:Addr}{fd:FuncData}{ps:List Str}{sp:Sp}{dvs:List V}{ds:List Value}{E:XK}{x m:Str}{p pos apos:Pos}{e o:Expr}{es:List Expr}{ta:TE}{t:TA}
structure Mk(K:PySem.W.Frag)(C f:Addr):Prop where
 makes:PySem.W.makesIn K C=true
 init:PySem.W.findIn K (.ref C) "__init__"=some (some (.ref f))
 fn:PySem.W.isFn K (.ref f)=true
 kp:PySem.W.keepIn K (.ref C)=true
end
section
variable{X:Cx}{CX:CXT}{k:Nat}{f C:Addr}{fd:FuncData}{ps ks:List Str}{sp:Sp}{E:XK}{x m:Str}{p pos apos kpos:Pos}{e o:Expr}{es:List Expr}{kws:List Keyword}{te ta:TE}{t tk:TA}{nm:Option Str}
structure G6n(K:PySem.W.Frag)(fd:FuncData)(ps ks:List Str)(g:List Value ->List Value ->List Value)(gV:List V ->List V ->List V):Prop where
 to:∀(s:Shared) (us ws:List Value),K.In s.heap ->(g us ws).length=ps.length ->BindsTo s fd ⟨us,ks.zip ws⟩ (ps.zip (g us ws))
 rel:∀{vs:List V} {us:List Value} {zs:List V} {ws:List Value},G7 vs us ->G7 zs ws ->G7 (gV vs zs) (g us ws)
variable{g:List Value ->List Value ->List Value}{gV:List V ->List V ->List V}
end
structure B8(N P:List Str)(sc:Scope):Prop where
 kind:sc.kind= .function
 co:sc.isCoroutine=false
 gen:sc.isGenerator=false
 nd:N.Nodup
 pre:N.take P.length=P
 par:∀x∈P,sc.names.lookup x=some .local\/sc.names.lookup x=some .cell
 nofree:∀y∈sc.names,y.2≠ .free
theorem B5j{kindOf:Str ->Option NameKind}{x:Str}:∀{binds:List (Str×Value)} {m:Str ->Option Value},(∀v,(x,v) ∉ binds) ->bindL kindOf binds m x=m x
 | [],_,_=>rfl
 | (n,v)::r,m,h=>by
   unfold bindL
   rw[B5j fun w hw=>h w (List.mem_cons_of_mem _ hw)]
   split
   . have:x≠n:=by rintro rfl;exact h v List.mem_cons_self
     simp[this]
   . rfl
theorem B4s{kindOf:Str ->Option NameKind}{x:Str}:∀{binds:List (Str×Value)} {m:Str ->Option Value},(∀v,(x,v) ∉ binds) ->bindC kindOf binds m x=m x
 | [],_,_=>rfl
 | (n,v)::r,m,h=>by
   unfold bindC
   rw[B4s fun w hw=>h w (List.mem_cons_of_mem _ hw)]
   split
   . rfl
   . have:x≠n:=by rintro rfl;exact h v List.mem_cons_self
     simp[this]
theorem B5s{kindOf:Str ->Option NameKind}{x:Str}{v:Value}:∀{P:List Str} {vs:List Value} {i:Nat} {m:Str ->Option Value},P.Nodup ->P[i]?=some x ->vs[i]?=some v ->kindOf x=some .local ->
   bindL kindOf (P.zip vs) m x=some v
 | [],_,_,_,_,h,_,_=>by simp at h
 |_::_,[],_,_,_,_,h,_=>by simp at h
 | p::P,w::vs,0,m,nd,h1,h2,hk=>by
   simp at h1 h2;subst h1;subst h2
   show bindL kindOf ((p,w)::P.zip vs) m p=_
   unfold bindL
   rw[B5j fun v hv=>(List.nodup_cons.mp nd).1 (List.of_mem_zip hv).1,if_pos hk]
   simp
 | p::P,w::vs,i+1,m,nd,h1,h2,hk=>by
   show bindL kindOf ((p,w)::P.zip vs) m x=_
   unfold bindL
   exact B5s (i:=i) (List.nodup_cons.mp nd).2 (by simpa using h1) (by simpa using h2) hk
theorem B5q{kindOf:Str ->Option NameKind}{x:Str}{v:Value}:∀{P:List Str} {vs:List Value} {i:Nat} {m:Str ->Option Value},P.Nodup ->P[i]?=some x ->vs[i]?=some v ->kindOf x≠some .local ->
   bindC kindOf (P.zip vs) m x=some v
 | [],_,_,_,_,h,_,_=>by simp at h
 |_::_,[],_,_,_,_,h,_=>by simp at h
 | p::P,w::vs,0,m,nd,h1,h2,hk=>by
   simp at h1 h2;subst h1;subst h2
   show bindC kindOf ((p,w)::P.zip vs) m p=_
   unfold bindC
   rw[B4s fun v hv=>(List.nodup_cons.mp nd).1 (List.of_mem_zip hv).1,if_neg hk]
   simp
 | p::P,w::vs,i+1,m,nd,h1,h2,hk=>by
   show bindC kindOf ((p,w)::P.zip vs) m x=_
   unfold bindC
   exact B5q (i:=i) (List.nodup_cons.mp nd).2 (by simpa using h1) (by simpa using h2) hk
noncomputable def A1t (N:List Str) (vs:List V):St:=vs.map some++List.replicate (N.length-vs.length) none
noncomputable def A2p (CX:CXT) (P:Program) (w:World) (K:PySem.W.Frag) (mg:Str ->Option Value) (base:Heap) (N:List Str) (qual:Str) (scope:Scope) (f:Addr) (cd:Value) (A:Around) (outer:List Env) (s:Shared) (H:Hp) (E:XK):Cx where
 prog:=P
 w:=w
 K:=K
 mg:=mg
 base:=base
 A:=A.deeper (envOfC qual scope s.heap.objs.size f cd)
 N:=N
 s₀:=s
 H₀:=H
 env:=envOfC qual scope s.heap.objs.size f cd
 outer:=outer
 stack:=envOfC qual scope s.heap.objs.size f cd::outer
 ex:=[]
 calm:=true
 fn:=fun _=>true
 pn:=[]
 xe:=fun e s'=>wpAny (model P w) (A.deeper (envOfC qual scope s.heap.objs.size f cd)) (leaving (envOfC qual scope s.heap.objs.size f cd) e) (fun _ s''=>CX outer H s E e s'') (fun e' s''=>CX outer H s E e' s'') s'
theorem C0j{sc:Scope}{n:Nat}{x:Str}(h:sc.names.lookup x=some .cell):∃c,(cellsFrom n sc.names []).lookup x=some c:=by
 have q:=PySem.W.cellsFrom_some sc.names n [] (.inl h)
 exact Option.isSome_iff_exists.mp q
theorem A8t{CX:CXT}{P:Program}{w:World}{K:PySem.W.Frag}{mg:Str ->Option Value}{base:Heap}{N ps:List Str}{qual:Str}{scope:Scope}{f:Addr}{cd:Value}{A:Around}{outer:List Env}{s s1:Shared}{H:Hp}{E:XK}{us:List Value}{vs:List V}
   (S:B8 N ps scope) (hd:A.handled=none) (e0:B0d P w K mg base A outer s H) (hl:vs.length=ps.length) (r:G7 vs us)
   (x:InCallC s s.heap.objs.size (bindL (envOfC qual scope s.heap.objs.size f cd).kindOf (ps.zip us) fun _=>none) (cellsFrom (s.heap.objs.size+1) scope.names []) (bindC (envOfC qual scope s.heap.objs.size f cd).kindOf (ps.zip us) fun _=>none) s1):
   Inv (A2p CX P w K mg base N qual scope f cd A outer s H E) [] (A1t N vs) H s1:=by
 have hpl:ps.length<=N.length:=by have:=congrArg List.length S.pre;rw[List.length_take] at this;omega
 obtain⟨h1,tk,rfl,hk⟩:=x.done
 have noA:∀b:Addr,b ∉ (A2p CX P w K mg base N qual scope f cd A outer s H E).ex:=fun b z=>absurd (show b∈([]:List Addr) from z) (by simp)
 refine⟨⟨e0.mod,S.kind,rfl,rfl,Nat.le_refl _,fun y z c h1 h2=>?_,fun y hy=>?_,fun y c _ h=>?_,fun _=>hd,Around.frames_deeper e0.frames,.inr ⟨rfl,rfl⟩,fun b z=>absurd z (noA b),e0.bs,e0.bsz,fun b _ _=>noA b,fun b z=>absurd z (noA b),e0.funs,e0.frf⟩,
   rfl,e0.bare,Un.kept hk,⟨_,x.toInCall.ns,fun i y v h1 h2 h3=>?_⟩,fun y c h=>⟨_,x.cell y c h⟩,e0.hok.fresh (Nat.le_refl _),fun y c h=>?_,fun p hp=>absurd (show p∈([]:List (Addr×Obj)) from hp) (by simp),e0.hok.kept hk,?_⟩
 . exact name_of_addr x.apart (PySem.mem_of_lookup h1) (PySem.mem_of_lookup h2)
 . have hy:scope.names.lookup y=some .cell\/scope.names.lookup y=some .free:=hy
   rcases hy with hy|hy
   . exact C0j hy
   . exact absurd rfl (S.nofree _ (PySem.mem_of_lookup hy))
 . exact Nat.le_of_lt (x.above y c (PySem.mem_of_lookup h))
 . have hi:i<vs.length:=by
     unfold A1t at h2
     by_cases hi:i<vs.length
     . exact hi
     . rw[List.getElem?_append_right (by simpa using hi)] at h2
       rw[List.getElem?_replicate] at h2
       split at h2<;>cases h2
   have ha:vs[i]?=some v:=by
     unfold A1t at h2
     rw[List.getElem?_append_left (by simpa using hi),List.getElem?_map] at h2
     cases e:vs[i]? with
     |none=>rw[e] at h2;cases h2
     |some a=>rw[e] at h2;cases h2;rfl
   obtain⟨u,hu,rv⟩:=r.get ha
   have hp:ps[i]?=some y:=by
     rw[<-S.pre,List.getElem?_take_of_lt (by omega)];exact h1
   have ndP:ps.Nodup:=by rw[<-S.pre];exact S.nd.sublist (List.take_sublist _ _)
   refine⟨u,rv,?_⟩
   rcases S.par y (List.mem_of_getElem? hp) with k|k
   . exact .inl ⟨k,B5s ndP hp hu k⟩
   . obtain⟨c,e⟩:=C0j (n:=s.heap.objs.size+1) k
     refine .inr ⟨.inl k,c,e,?_⟩
     have q:=x.cell y c e
     rw[B5q ndP hp hu (by show scope.names.lookup y≠_;rw[k];decide)] at q
     exact q
 . exact e0.hok.fresh (Nat.le_of_lt (x.above y c (PySem.mem_of_lookup h)))
 unfold A1t
 show _=N.length
 rw[List.length_append,List.length_map,List.length_replicate]
 omega
theorem G2x{CX:CXT}{P:Program}{w:World}{K:PySem.W.Frag}{mg:Str ->Option Value}{base:Heap}{k:Nat}{f:Addr}{name qual:Str}{params:Arguments}{body:List Stmt}{scope:Scope}{dV kV doc pm cdv ct oc:Value}{an od:Option Addr}
   {osl:Array (Option Value)} {N ps:List Str} {sp:Sp} (lk:K.lookup f=some ⟨oc,od,.func (PySem.W.fnOf name qual params body scope dV kV doc pm an cdv ct),osl⟩) (hcd:PySem.W.codeIn K cdv qual=true) (S:B8 N ps scope)
   (len:∀vs H Q E,sp vs H Q E ->vs.length=ps.length)
   (hbody:∀(A:Around) (outer:List Env) (s:Shared) (H:Hp) (vs:List V) (Q:VK) (E:XK),A0r k (A.deeper (envOfC qual scope s.heap.objs.size f cdv)) ->sp vs H Q E ->
     ∃t,PSs (A2p CX P w K mg base N qual scope f cdv A outer s H E) body t/\t {nx:=fun _ H'=>Q .non H',rt:=Q} (A1t N vs) H):
   G6 P w K mg base CX (k+1) f (PySem.W.fnOf name qual params body scope dV kV doc pm an cdv ct) ps sp:=by
 refine⟨len,fun A outer s H args us vs Q E hr e0 hb r hsp=>?_⟩
 have hl:=len _ _ _ _ hsp
 have KX:K.In s.heap:=e0.mod.kin.keeps fun b o e=>(e0.bs b o e).1
 have lim:s.heap.NoLimit:=e0.mod.nolimit.keeps fun b o e=>(e0.bs b o e).1
 have hkind:∀y∈ps.zip us,scope.names.lookup y.1=some .local\/(scope.names.lookup y.1=some .cell/\((cellsFrom (s.heap.objs.size+1) scope.names []).lookup y.1).isSome=true):=fun⟨n,v⟩ hy=>by
   rcases S.par n (List.of_mem_zip hy).1 with q|q
   . exact .inl q
   . exact .inr ⟨q,PySem.W.cellsFrom_some _ _ _ (.inl q)⟩
 refine codeAny_call_function hr.depth (KX _ _ lk) rfl S.co S.gen rfl (PySem.W.codeRec_of KX hcd) (hb _ _ _ _ ?_)
 refine wpAny_newFunctionEnv_cells S.kind hkind fun env he s1 x=>?_
 subst he
 refine⟨lim.keeps x.toInCall.keep,codeAny_func ?_⟩
 obtain⟨t,ht,hq⟩:=hbody A outer s H vs Q E (hr.deeper _) hsp
 have I:Inv (A2p CX P w K mg base N qual scope f cdv A outer s H E) [] (A1t N vs) H s1:=A8t S hr.hd e0 hl r x
 refine wpAny_mono (ht [] s1 (A1t N vs) H _ I hq) (fun fl s' hs=>?_) fun e s' hs=>hs
 have fin:∀{σ':St} {H':Hp} {v:V} {u:Value},Inv (A2p CX P w K mg base N qual scope f cdv A outer s H E) [] σ' H' s' ->V4 v u ->Q v H' ->CE outer P w H s Q u s':=
   fun{σ' H' v u} J rv q=>⟨v,H',J.os,J.bare,J.base,J.hok,rv,q⟩
 cases fl with
 | ret u=>
   obtain⟨v,σ',H',J,rv,q⟩:=hs
   exact fin J rv q
 | next=>
   obtain⟨σ',H',J,q⟩:=hs
   exact fin (v:=V.non) (u:=Value.none) J rfl q
 | brk=>
   obtain⟨_,_,_,q⟩:=hs
   exact False.elim q
 | cont=>
   obtain⟨_,_,_,q⟩:=hs
   exact False.elim q
section
variable{X:Cx}{x:Str}{p pos:Pos}{e:Expr}{es:List Expr}{t:TA}{id T:String}{r:List V ->Hp ->VK ->Prop}
def tCB (r:List V ->Hp ->VK ->Prop) (t:TA):TE:=fun σ H Q=>t σ H fun vs H1=>r vs H1 Q
theorem V7(hc:A0y X (.builtin id) r)(hg:Gl X x)(hm:X.mg x=none)(hv:bootBuiltins x=some (.builtin id))(ha:PA X (e::es) t)(hn:x≠"__name__":=by decide)(hdb:(x==("__debug__":Str))=false:=by decide)
   (he:starEach (e::es) X.env=(false,eval e X.env)::starEach es X.env:=by rfl) (hpl:(backTo pos (starEach es X.env)).any (·.1)=false:=by rfl):PE X (.Call (.Name x p) (e::es) [] pos) (tCB r t):=by
 intro pins s σ H Q I h
 refine wpAny_Call_Name_kw (A8g I hg hm hv ?_ hn hdb)
 exact PyProof.Rows.callWith_builtin1 (thn (ha pos pins s σ H _ I h) fun us s1 ⟨vs,H1,I1,r1,q1⟩=>hc pins s1 σ H1 vs us Q I1 r1 q1) he hpl
theorem V6(hc:A0y X (.type T) r)(hg:Gl X x)(hm:X.mg x=none)(hv:bootBuiltins x=some (.type T))(ha:PA X (e::es) t)(hn:x≠"__name__":=by decide)(hdb:(x==("__debug__":Str))=false:=by decide)
   (he:starEach (e::es) X.env=(false,eval e X.env)::starEach es X.env:=by rfl) (hpl:(backTo pos (starEach es X.env)).any (·.1)=false:=by rfl):PE X (.Call (.Name x p) (e::es) [] pos) (tCB r t):=by
 intro pins s σ H Q I h
 refine wpAny_Call_Name_kw (A8g I hg hm hv ?_ hn hdb)
 exact PyProof.Rows.callWith_type1 (thn (ha pos pins s σ H _ I h) fun us s1 ⟨vs,H1,I1,r1,q1⟩=>hc pins s1 σ H1 vs us Q I1 r1 q1) he hpl
end
end L2
namespace HT
open PySem PyProof.Rows
section
open PySem.SeqAt
open PySem.AutoSeq1 (wpAny_loadPart')
open PySem.MeetsSeq PySem.MeetsSeq2 PySem.MeetsSeq3
end
section
variable{prog:Program}{w:World}{A:Around}{E:Value ->Shared ->Prop}{s:Shared}
noncomputable def sIx (n d:Nat):Option Int ->Nat
 |none=>d
 |some v=>if v<0 then(v+(n:Int)).toNat else min v.toNat n
theorem G5k(n d:Nat)(hd:d<=n)(o:Option Int):sIx n d o<=n:=by
 cases o with
 |none=>exact hd
 | some v=>
   show(if v<0 then(v+(n:Int)).toNat else min v.toNat n)<=n
   by_cases hv:v<0
   . rw[if_pos hv];omega
   . rw[if_neg hv];exact Nat.min_le_right _ _
theorem C4k(v:Int)(n d:Nat):(if v<0 then max (v+(n:Int)) 0 else min v (n:Int))=((sIx n d (some v):Nat):Int):=by
 show(if v<0 then max (v+(n:Int)) 0 else min v (n:Int))=(((if v<0 then(v+(n:Int)).toNat else min v.toNat n):Nat):Int)
 by_cases hv:v<0
 . simp only[if_pos hv];omega
 simp only[if_neg hv];omega
theorem C0t(lo hi:Option Int)(n:Nat):Builtin.Slice.sliceAdjust lo hi 1 (n:Int)=(((sIx n 0 lo:Nat):Int),((sIx n n hi:Nat):Int)):=by
 have h1:¬((1:Int)<0):=by omega
 unfold Builtin.Slice.sliceAdjust
 simp only[h1,if_false]
 refine Prod.ext ?_ ?_
 . cases lo with
   |none=>rfl
   |some v=>exact C4k v n 0
 cases hi with
 |none=>rfl
 |some v=>exact C4k v n n
theorem C1n(i j:Nat):Builtin.Slice.slicePlaces (i:Int) (j:Int) 1=j-i:=by
 unfold Builtin.Slice.slicePlaces
 have h1:(1:Int)>0:=by omega
 simp only[h1,if_true,Int.ediv_one]
 split<;>omega
theorem B3b{v:Value}{o:Option Int}{Q:Option Int ->Shared ->Prop}(p:IsPart v o)(h:Q o s):wpAny (model prog w) A (Builtin.Slice.slicePartIndex v) Q E s:=by
 cases p with
 |none=>exact slicePart_none h
 |int i t=>exact slicePart_int h
theorem A8u{sl:Addr}{vl vu:Value}{lo hi:Option Int}{n:Nat}{Q:Int×Int×Nat ->Shared ->Prop}(hs:s.heap.IsSliceOf sl vl vu .none)(pl:IsPart vl lo)(pu:IsPart vu hi)
   (h:Q (((sIx n 0 lo:Nat):Int),1,sIx n n hi-sIx n 0 lo) s):wpAny (model prog w) A (Builtin.Slice.sliceApplied (.ref sl) (pure (n:Int))) Q E s:=by
 obtain⟨os,hos,hcs,hds⟩:=id hs
 unfold Builtin.Slice.sliceApplied Builtin.Slice.sliceFields
 refine wpAny_bind (wpAny_bind (wpAny_field hos hds (x:=vl) rfl (wpAny_bind (wpAny_field hos hds (x:=vu) rfl (wpAny_bind (wpAny_field hos hds (x:= .none) rfl (wpAny_pure ?_)))))))
 refine wpAny_bind (slicePart_none ?_)
 show wpAny _ _ (if((1:Int)==0)=true then _ else _) _ _ s
 rw[if_neg (by decide)]
 refine wpAny_bind (B3b pl (wpAny_bind (B3b pu (wpAny_bind (wpAny_pure ?_)))))
 show wpAny _ _ (match Builtin.Slice.sliceAdjust lo hi 1 (n:Int) with|(lo,hi)=>pure (lo,(1:Int),Builtin.Slice.slicePlaces lo hi 1)) _ _ s
 rw[C0t lo hi n]
 show wpAny _ _ (pure (((sIx n 0 lo:Nat):Int),(1:Int),Builtin.Slice.slicePlaces ((sIx n 0 lo:Nat):Int) ((sIx n n hi:Nat):Int) 1)) _ _ s
 rw[C1n]
 exact wpAny_pure h
theorem D3h(xs:Array Value)(i k:Nat):((List.range k).filterMap fun(m:Nat)=>xs[((i:Int)+(m:Int)*1).toNat]?).toArray=((xs.toList.drop i).take k).toArray:=by
 have e:(fun(m:Nat)=>xs[((i:Int)+(m:Int)*1).toNat]?)=fun m=>xs[i+m]?:=by
   funext m
   have:((i:Int)+(m:Int)*1).toNat=i+m:=by omega
   rw[this]
 rw[e]
 have:=pick_run xs i k
 rw[List.filterMap_map] at this
 have e2:((fun x=>xs[x]?)∘fun x=>i+x)=fun m=>xs[i+m]?:=rfl
 rw[e2] at this
 rw[this]
theorem getItem_tuple_cut{t sl:Addr}{items:Array Value}{vl vu:Value}{lo hi:Option Int}{Q:Value ->Shared ->Prop}(ht:IsTup s.heap t items)(hs:s.heap.IsSliceOf sl vl vu .none)(pl:IsPart vl lo)(pu:IsPart vu hi)
   (hw:¬(sIx items.size 0 lo=0/\sIx items.size items.size hi=items.size))
   (h:Q (.ref s.heap.objs.size) {s with heap:=s.heap.push {cls:= .type "tuple",data:= .seq ((items.toList.drop (sIx items.size 0 lo)).take (sIx items.size items.size hi-sIx items.size 0 lo)).toArray}})
   (hsz:items.size<=sizeLine):wpAny (model prog w) A (getItem (.ref t) (.ref sl)) Q E s:=by
 have htake:sizeOk (.seq ((items.toList.drop (sIx items.size 0 lo)).take (sIx items.size items.size hi-sIx items.size 0 lo)).toArray):=by
   show((items.toList.drop (sIx items.size 0 lo)).take (sIx items.size items.size hi-sIx items.size 0 lo)).toArray.size<=sizeLine
   rw[List.size_toArray,List.length_take,List.length_drop,Array.length_toList]
   omega
 have hj:sIx items.size items.size hi<=items.size:=G5k _ _ (Nat.le_refl _) hi
 obtain⟨os,hos,hcs,hds⟩:=id hs
 have hTs:s.TypeIs (.ref sl) "slice":=⟨os,hos,hcs⟩
 unfold getItem
 try with_reducible refine wpAny_holding ?_
 first|refine wpAny_bind (wpAny_pure ?_)|skip
 refine wpAny_bind (wpAny_sequenceKey ht.typeIs (by decide) ?_)
 refine wpAny_bind (wpAny_callSpecial?_slot (name:=Str.ofString "__getitem__") ht.typeIs PyProof.Rows.slot_tuple_getitem
   (wpAny_call_entry PyProof.Rows.slot_tuple_getitem ht.typeIs entry_tuple_getitem ?_ (args_tuple_getitem _ _)))
 show wpAny _ _ (Builtin.Tuple.tupleItemsOf (.ref t)>>=_) _ _ s
 refine wpAny_bind (tupleItemsOf_ ht ?_)
 refine wpAny_bind (wpAny_typeOf hTs ?_)
 rw[if_pos (by decide)]
 refine wpAny_bind (A8u hs pl pu ?_)
 have hno:¬((((sIx items.size 0 lo:Nat):Int)==0&&(1:Int)==1&&(sIx items.size items.size hi-sIx items.size 0 lo)==items.size)=true):=by
   intro q
   rw[Bool.and_eq_true,Bool.and_eq_true] at q
   have q1:((sIx items.size 0 lo:Nat):Int)=0:=eq_of_beq q.1.1
   have q2:sIx items.size items.size hi-sIx items.size 0 lo=items.size:=eq_of_beq q.2
   exact hw ⟨by omega,by omega⟩
 show wpAny _ _ (if(((sIx items.size 0 lo:Nat):Int)==0&&(1:Int)==1&&(sIx items.size items.size hi-sIx items.size 0 lo)==items.size)=true then _ else _) _ _ s
 rw[if_neg hno,D3h]
 first
   |exact wpAny_bind (m:=Builtin.Tuple.tupleExact _) (wpAny_newObj_type (wpAny_pure ⟨_,rfl,wpAny_pure h⟩) htake)
   |exact wpAny_bind (m:=Builtin.Tuple.tupleExact _) (wpAny_newObj_type (wpAny_bind (wpAny_pure (wpAny_pure ⟨_,rfl,wpAny_pure h⟩))) htake)
   |exact wpAny_bind (wpAny_bind (m:=Builtin.Tuple.tupleExact _) (wpAny_newObj_type (wpAny_pure (wpAny_pure ⟨_,rfl,wpAny_pure h⟩)) htake))
   |exact wpAny_bind (wpAny_bind (m:=Builtin.Tuple.tupleExact _) (wpAny_newObj_type (wpAny_pure ⟨_,rfl,wpAny_pure h⟩) htake))
end
end HT
namespace L2
open PySem PySem.Spec PyProof.Rows
abbrev TO:=St ->Hp ->(Option Int ->Hp ->Prop) ->Prop
def PO (X:Cx) (e:Option Expr) (t:TO):Prop:=
 ∀ (pins:List (Addr×Obj)) (s:Shared) (σ:St) (H:Hp) (Q:Option Int ->Hp ->Prop),Inv X pins σ H s ->t σ H Q ->
   wpAny (model X.prog X.w) X.A (evalPart e X.env) (fun u s'=>∃o H',Inv X pins σ H' s'/\IsPart u o/\Q o H') X.xe s
def G1s:TO:=fun _ H Q=>Q none H
def J0m (t:TE):TO:=fun σ H Q=>t σ H fun x H1=>∃i,x= .int i/\Q (some i) H1
section
variable{X:Cx}{e:Expr}{te:TE}{lo hi:Option Expr}{tl th:TO}{pos p2:Pos}
theorem G1t:PO X none G1s:=by
 intro pins s σ H Q I h
 rw[evalPart_none]
 exact wpAny_pure ⟨none,H,I,.none,h⟩
theorem G1n(h:PE X e te):PO X (some e) (J0m te):=by
 intro pins s σ H Q I hw
 rw[evalPart_some]
 refine thn (h pins s σ H _ I hw) fun u s1 hh_=>?_
 obtain⟨x,H1,I1,r1,q1⟩:=hh_
 obtain⟨i,rfl,q⟩:=q1
 obtain⟨t,rfl⟩:=r1
 exact⟨some i,H1,I1,.int i t,q⟩
def SlR (X:Cx) (r:V ->Option Int ->Option Int ->Hp ->VK ->Prop):Prop:=
 ∀ (pins:List (Addr×Obj)) (s:Shared) (σ:St) (H:Hp) (x:V) (v vl vu:Value) (lo hi:Option Int) (sl:Addr) (Q:VK),Inv X pins σ H s ->V4 x v ->s.heap.IsSliceOf sl vl vu .none ->IsPart vl lo ->IsPart vu hi ->r x lo hi H Q ->
   ∃T id,typeLookup (.type T) "__getitem__"=pure (some (.builtin id))/\s.TypeIs v T/\wpAny (model X.prog X.w) X.A (getItem v (.ref sl)) (EP X pins σ Q) X.xe s
def tSl (r:V ->Option Int ->Option Int ->Hp ->VK ->Prop) (te:TE) (tl th:TO):TE:=fun σ H Q=>te σ H fun x H1=>tl σ H1 fun l H2=>th σ H2 fun u H3=>r x l u H3 Q
theorem D0k{r:V ->Option Int ->Option Int ->Hp ->VK ->Prop}(hr:SlR X r)(he:PE X e te)(hl:PO X lo tl)(hu:PO X hi th):PE X (.Subscript e (.Slice lo hi none p2) pos) (tSl r te tl th):=by
 intro pins s σ H Q I h
 refine Subscript_ (thn (he pins s σ H _ I h) fun v s1 hh_=>?_)
 obtain⟨x,H1,I1,r1,q1⟩:=hh_
 refine wpAny_Slice (thn (hl pins s1 σ H1 _ I1 q1) fun vl s2 ⟨l,H2,I2,pl,q2⟩=>thn (hu pins s2 σ H2 _ I2 q2) fun vu s3 hh_=>?_)
 obtain⟨u,H3,I3,pu,q3⟩:=hh_
 rw[evalPart_none]
 refine wpAny_pure ?_
 have I4:Inv X pins σ H3 {s3 with heap:=s3.heap.push {cls:= .type "slice",data:= .fields #[vl,vu,.none]}}:=I3.kept (t':=s3.toks) fun b ob q=>Heap.get?_push_of_some _ q
 obtain⟨T,id,hT,ht,hg⟩:=hr pins {s3 with heap:=s3.heap.push {cls:= .type "slice",data:= .fields #[vl,vu,.none]}} σ H3 x v vl vu l u s3.heap.objs.size Q I4 r1 (Heap.IsSliceOf.new ..) pl pu q3
 show wpAny (model X.prog X.w) X.A (subscriptTail e (.Slice lo hi none p2) v (.ref s3.heap.objs.size)) (EP X pins σ Q) X.xe {s3 with heap:=s3.heap.push {cls:= .type "slice",data:= .fields #[vl,vu,.none]}}
 exact tail_any (ops:=[.ref s3.heap.objs.size,v]) ht hT hg (by with_unfolding_all rfl)
noncomputable def C1p (xs:List V) (lo hi:Option Int):List V:=(xs.drop (HT.sIx xs.length 0 lo)).take (HT.sIx xs.length xs.length hi-HT.sIx xs.length 0 lo)
theorem B8w(xs:List V)(lo hi:Option Int):(C1p xs lo hi).length<=xs.length:=by
 unfold C1p
 rw[List.length_take,List.length_drop]
 omega
def J3f (K:PySem.W.Frag):V ->Option Int ->Option Int ->Hp ->VK ->Prop:=fun x lo hi H Q=>∃a xs,x= .ref a/\SqT K H a xs/\
 ¬(HT.sIx xs.length 0 lo=0/\HT.sIx xs.length xs.length hi=xs.length)/\∀p,H p=none ->Q (.ref p) (upd H p (.tup (C1p xs lo hi)))
theorem G6b:SlR X (J3f X.K):=by
 intro pins s σ H x v vl vu lo hi sl Q I rx hs pl pu h
 obtain⟨a,xs,rfl,hx,hw,q⟩:=h
 cases rx
 obtain⟨its,r,ht,hz⟩:=I.tuple hx
 have hlen:its.toArray.size=xs.length:=by rw[List.size_toArray];exact r.length.symm
 refine⟨"tuple",_,PyProof.Rows.slot_tuple_getitem.lookup,ht.typeIs,?_⟩
 refine HT.getItem_tuple_cut ht hs pl pu (by rw[hlen];exact hw) ?_ (by rw[hlen];exact hz)
 rw[hlen]
 refine⟨.ref s.heap.objs.size,_,I.laid (t':=s.toks) (o:= .tup (C1p xs lo hi)) (fun b ob q=>Heap.get?_push_of_some _ q) (Nat.le_refl _) ?_,rfl,q _ (I.hok.fresh (Nat.le_refl _))⟩
 exact⟨Nat.le_trans (B8w xs lo hi) hz,_,(r.drop (HT.sIx xs.length 0 lo)).take (HT.sIx xs.length xs.length hi-HT.sIx xs.length 0 lo),IsTup.new _ _⟩
end
noncomputable def ixN (n:Nat) (i:Int):Option Nat:=if 0<=i then(if i<n then some i.toNat else none) else if -(n:Int)<=i then some (i+n).toNat else none
noncomputable def atI {α:Type} (xs:List α) (i:Int):Option α:=(ixN xs.length i).bind fun j=>xs[j]?
theorem C5q{n:Nat}{i:Int}{j:Nat}(h:ixN n i=some j):seqIndex? i n=some j/\j<n/\ -(n:Int)<=i/\i<n:=by
 unfold ixN at h
 by_cases h0:0<=i
 . rw[if_pos h0] at h
   by_cases h1:i<n
   . rw[if_pos h1] at h
     have e:i.toNat=j:=Option.some.inj h
     exact⟨by rw[seqIndex_of h0 h1,e],by omega,by omega,h1⟩
   . rw[if_neg h1] at h;cases h
 rw[if_neg h0] at h
 by_cases h1: -(n:Int)<=i
 . rw[if_pos h1] at h
   have e:(i+n).toNat=j:=Option.some.inj h
   exact⟨by rw[seqIndex_neg (by omega) h1,e],by omega,h1,by omega⟩
 rw[if_neg h1] at h;cases h
theorem C5a{α:Type}{xs:List α}{i:Int}{v:α}(h:atI xs i=some v):∃j,seqIndex? i xs.length=some j/\xs[j]?=some v/\j<xs.length/\ -(xs.length:Int)<=i/\i<xs.length:=by
 unfold atI at h
 cases e:ixN xs.length i with
 |none=>rw[e] at h;cases h
 | some j=>
   rw[e] at h
   obtain⟨h1,h2,h3,h4⟩:=C5q e
   exact⟨j,h1,h,h2,h3,h4⟩
theorem D7{α:Type}{xs:List α}{j:Nat}{v:α}(h:xs[j]?=some v):atI xs (j:Int)=some v:=by
 have hj:j<xs.length:=(List.getElem?_eq_some_iff.mp h).1
 have e:ixN xs.length (j:Int)=some j:=by
   unfold ixN
   rw[if_pos (by omega),if_pos (by omega)];simp
 unfold atI;rw[e];exact h
def G1f (b:Expr):Prop:=∀o i,subscripted b false o i=operate [o,i] (getItem o i)
def IxR (X:Cx) (r:R2):Prop:=
 ∀ (value slice:Expr) (pins:List (Addr×Obj)) (s:Shared) (σ:St) (H:Hp) (x y:V) (v u:Value) (Q:VK),Inv X pins σ H s ->V4 x v ->V4 y u ->r x y H Q ->
   subscripted slice false v u=operate [v,u] (getItem v u) ->wpAny (model X.prog X.w) X.A (subscriptTail value slice v u) (EP X pins σ Q) X.xe s
def MtR (X:Cx) (id:String) (r:V ->List V ->Hp ->VK ->Prop):Prop:=
 ∀ (pins:List (Addr×Obj)) (s:Shared) (σ:St) (H:Hp) (x:V) (xs:List V) (v:Value) (us:List Value) (Q:VK),Inv X pins σ H s ->V4 x v ->G7 xs us ->r x xs H Q ->
   wpAny (model X.prog X.w) X.A (call (.builtin id) (v::us)) (EP X pins σ Q) X.xe s
section
variable{X:Cx}{a b:Expr}{ta tb:TE}{pos:Pos}
theorem G4{r:R2}(hr:IxR X r)(ha:PE X a ta)(hb:PE X b tb)(hs:G1f b):PE X (.Subscript a b pos) (tOp r ta tb):=by
 intro pins s σ H Q I h
 exact Subscript_ (G6d ha hb I h fun v u s2 x y H2 I2 rx ry q=>hr a b pins s2 σ H2 x y v u Q I2 rx ry q (hs _ _))
def G8y (K:PySem.W.Frag):R2:=fun x y H Q=>∃p xs i v,x= .ref p/\y= .int i/\SqL K H p xs/\atI xs i=some v/\Q v H
def J0s (K:PySem.W.Frag):R2:=fun x y H Q=>∃p xs i v,x= .ref p/\y= .int i/\SqT K H p xs/\atI xs i=some v/\Q v H
theorem U5:IxR X (G8y X.K):=by
 intro value slice pins s σ H x y v u Q I rx ry h hs
 obtain⟨p,xs,i,z,rfl,rfl,hq,he,q⟩:=h
 cases rx
 obtain⟨t,rfl⟩:=ry
 obtain⟨its,r,pl,hz⟩:=I.list hq
 obtain⟨j,h1,h2,h3,h4,h5⟩:=C5a he
 obtain⟨w,ew,rw'⟩:=r.get h2
 have hl:=r.length
 have hn:=B2d
 have fin:EP X pins σ Q w s:=⟨z,H,I,rw',q⟩
 by_cases h0:0<=i
 . have hj:i.toNat=j:=by
     rw[seqIndex_of h0 h5] at h1
     exact Option.some.inj h1
   exact item_listR pl.isList h0 (by omega) (by rw[hj];simpa using ew) fin hs
 have hj:(i+(its.toArray.size:Int)).toNat=j:=by
   rw[seqIndex_neg (by omega) h4] at h1
   rw[List.size_toArray, <-hl]
   exact Option.some.inj h1
 exact subscriptTail_builtinR (x:=w) pl.isList.typeIs slot_list_getitem.lookup
   (wpAny_getItem_list_neg (Q:=fun r s'=>r=w/\EP X pins σ Q r s') pl.isList (by omega) (by rw[List.size_toArray]<;>omega) (by omega) (by rw[hj];simpa using ew) ⟨rfl,fin⟩) hs
theorem U8:IxR X (J0s X.K):=by
 intro value slice pins s σ H x y v u Q I rx ry h hs
 obtain⟨p,xs,i,z,rfl,rfl,hq,he,q⟩:=h
 cases rx
 obtain⟨t,rfl⟩:=ry
 obtain⟨its,r,pl,hz⟩:=I.tuple hq
 obtain⟨j,h1,h2,h3,h4,h5⟩:=C5a he
 obtain⟨w,ew,rw'⟩:=r.get h2
 have hl:=r.length
 have hn:=B2d
 have fin:EP X pins σ Q w s:=⟨z,H,I,rw',q⟩
 exact subscriptTail_builtinR (x:=w) pl.typeIs slot_tuple_getitem.lookup
   (getItem_tuple (j:=j) (Q:=fun r s'=>r=w/\EP X pins σ Q r s') pl (by omega) (by omega) (by rw[List.size_toArray, <-hl];exact h1) (by simpa using ew) ⟨rfl,fin⟩) hs
theorem C1h(its:List Value)(n j:Nat)(u:Value):Obj.mapSeq (·.setIfInBounds j u) {cls:= .type "list",data:= .seq its.toArray n}={cls:= .type "list",data:= .seq (its.set j u).toArray n}:=by
 simp[Obj.mapSeq]
theorem Inv.lst{pins:List (Addr×Obj)}{σ:St}{H:Hp}{s:Shared}{p:Addr}{xs:List V}(I:Inv X pins σ H s)(h:H p=some (.lst xs)):
   ∃(its:List Value) (n:Nat),G7 xs its/\s.heap.get? p=some {cls:= .type "list",data:= .seq its.toArray n}/\xs.length<=sizeLine:=by
 obtain⟨z,its,n,r,e⟩:=I.hok p _ h
 exact⟨its,n,r,e,z⟩
theorem Inv.lstUpd{pins:List (Addr×Obj)}{σ:St}{H:Hp}{s:Shared}{p:Addr}{xs ys:List V}{its its':List Value}{n n':Nat}{f:Obj ->Obj}(I:Inv X pins σ H s)(h:H p=some (.lst xs))
   (ho:s.heap.get? p=some {cls:= .type "list",data:= .seq its.toArray n}) (hf:f {cls:= .type "list",data:= .seq its.toArray n}={cls:= .type "list",data:= .seq its'.toArray n'}) (r:G7 ys its') (hz:ys.length<=sizeLine) (t:Nat):
   Inv X pins σ (upd H p (.lst ys)) {s with heap:=s.heap.update p f,toks:=t}:=by
 have e:(s.heap.update p f).get? p=some {cls:= .type "list",data:= .seq its'.toArray n'}:=by
   rw[Heap.get?_update_self f ho (by rw[hf]<;>rfl),hf]
 refine I.write (x:=p) (e:=p) (by rw[h];trivial) (.inl rfl) (fun b u hb q=>(Heap.get?_update_other _ _ (Ne.symm hb)).trans q) ⟨_,e⟩ ?_
 exact⟨hz,its',n',r,e⟩
def J0k:V ->V ->V ->Hp ->(Hp ->Prop) ->Prop:=fun o i v H Q=>∃p xs k j,o= .ref p/\i= .int k/\H p=some (.lst xs)/\ixN xs.length k=some j/\Q (upd H p (.lst (xs.set j v)))
theorem D0c:J1j X J0k:=by
 intro pins s σ H o i v ov iv u Q I ro ri rv h
 obtain⟨p,xs,k,j,rfl,rfl,hp,hj,q⟩:=h
 cases ro
 obtain⟨t,rfl⟩:=ri
 obtain⟨its,n,r,ho,hz⟩:=I.lst hp
 obtain⟨h1,h2,h3,h4⟩:=C5q hj
 have hl:=r.length
 have hn:=B2d
 have I':Inv X pins σ (upd H p (.lst (xs.set j v))) {s with heap:=s.heap.update p (Obj.mapSeq (·.setIfInBounds j u))}:=
   I.lstUpd hp ho (C1h its n j u) (r.set rv j) (by rw[List.length_set];exact hz) s.toks
 by_cases h0:0<=k
 . have hk:k.toNat=j:=by
     rw[seqIndex_of h0 h4] at h1
     exact Option.some.inj h1
   exact PySem.W.ki_setAt ho h0 (by omega) (by rw[List.size_toArray, <-hl];exact h4) (by rw[hk];exact⟨_,I',q⟩)
 have hk:(k+(its.toArray.size:Int)).toNat=j:=by
   rw[seqIndex_neg (by omega) h3] at h1
   rw[List.size_toArray, <-hl]
   exact Option.some.inj h1
 exact PySem.W.ki_setBack ho (by omega) (by rw[List.size_toArray, <-hl];exact h3) (by omega) (by rw[hk];exact⟨_,I',q⟩)
noncomputable def A7y:V ->Bool
 | .non=>true
 | .bl _=>true
 | .int _=>true
 | .str _=>true
 |_=>false
noncomputable def eqV:V ->V ->Bool
 | .non,.non=>true
 | .bl a,.bl b=>a==b
 | .bl a,.int b=>(if a then 1 else 0)==b
 | .int a,.bl b=>a==(if b then 1 else 0)
 | .int a,.int b=>a==b
 | .str a,.str b=>a==b
 |_,_=>false
theorem G4t{A:Around}{s:Shared}{y x:V}{u v:Value}(ry:V4 y u)(rx:V4 x v)(fy:A7y y=true)(fx:A7y x=true):SeqAt.EqAt A s u v (eqV y x):=by
 cases y with
 | non=>
   cases ry
   cases x with
   |non=>cases rx;exact SeqAt.EqAt.same _
   |bl b=>cases rx;exact SeqAt.EqAt.none_bool b
   |int b=>obtain⟨t,rfl⟩:=rx;exact SeqAt.EqAt.none_int b t
   |str b=>obtain⟨t,rfl⟩:=rx;exact SeqAt.EqAt.none_str b t
   |_=>exact absurd (show false=true from fx) Bool.false_ne_true
 | bl a=>
   cases ry
   cases x with
   |non=>cases rx;exact SeqAt.EqAt.bool_none a
   |bl b=>cases rx;exact SeqAt.EqAt.bool_bool a b
   |int b=>obtain⟨t,rfl⟩:=rx;exact SeqAt.EqAt.bool_int a b t
   |str b=>obtain⟨t,rfl⟩:=rx;exact SeqAt.EqAt.bool_str a b t
   |_=>exact absurd (show false=true from fx) Bool.false_ne_true
 | int a=>
   obtain⟨t',rfl⟩:=ry
   cases x with
   |non=>cases rx;exact SeqAt.EqAt.int_none a t'
   |bl b=>cases rx;exact SeqAt.EqAt.int_bool a t' b
   |int b=>obtain⟨t,rfl⟩:=rx;exact SeqAt.EqAt.int_int a t' b t
   |str b=>obtain⟨t,rfl⟩:=rx;exact SeqAt.EqAt.int_str a t' b t
   |_=>exact absurd (show false=true from fx) Bool.false_ne_true
 | str a=>
   obtain⟨t',rfl⟩:=ry
   cases x with
   |non=>cases rx;exact SeqAt.EqAt.str_none a t'
   |bl b=>cases rx;exact SeqAt.EqAt.str_bool a t' b
   |int b=>obtain⟨t,rfl⟩:=rx;exact SeqAt.EqAt.str_int a t' b t
   |str b=>obtain⟨t,rfl⟩:=rx;exact SeqAt.EqAt.str_str a t' b t
   |_=>exact absurd (show false=true from fx) Bool.false_ne_true
 |_=>exact absurd (show false=true from fy) Bool.false_ne_true
noncomputable def eqU (x:V) (u:Value):Bool:=match u with
 | .none=>eqV .non x
 | .bool b=>eqV (.bl b) x
 | .int i _=>eqV (.int i) x
 | .str z _=>eqV (.str z) x
 |_=>false
theorem D1w{x y:V}{u:Value}(r:V4 y u)(f:A7y y=true):eqU x u=eqV y x:=by
 cases y with
 |non=>cases r;rfl
 |bl b=>cases r;rfl
 |int i=>obtain⟨t,rfl⟩:=r;rfl
 |str z=>obtain⟨t,rfl⟩:=r;rfl
 |_=>exact absurd (show false=true from f) Bool.false_ne_true
theorem A7e{x:V}:∀{xs:List V} {us:List Value},G7 xs us ->xs.all A7y=true ->us.any (eqU x)=xs.any fun y=>eqV y x
 |_,_,.nil,_=>rfl
 | y::xs,u::us,.cons r t,f=>by
   rw[List.all_cons,Bool.and_eq_true] at f
   rw[List.any_cons,List.any_cons,D1w r f.1,A7e t f.2]
theorem A4p{A:Around}{s:Shared}{x:V}{v:Value}(rx:V4 x v)(fx:A7y x=true):∀{xs:List V} {us:List Value},G7 xs us ->xs.all A7y=true ->∀u∈us,SeqAt.EqAt A s u v (eqU x u)
 |_,_,.nil,_=>fun u hu=>by cases hu
 | y::xs,u::us,.cons r t,f=>fun u' hu=>by
   rw[List.all_cons,Bool.and_eq_true] at f
   rcases List.mem_cons.mp hu with rfl|hu
   . rw[D1w r f.1];exact G4t r rx f.1 fx
   . exact A4p rx fx t f.2 u' hu
noncomputable def inV (x:V) (xs:List V):Bool:=xs.any fun y=>eqV y x
def rIn (K:PySem.W.Frag) (neg:Bool):R2:=fun x y H Q=>∃p xs,y= .ref p/\(SqL K H p xs\/SqT K H p xs)/\A7y x=true/\xs.all A7y=true/\Q (.bl (if neg then !inV x xs else inV x xs)) H
theorem A3j:OpR X (compareOp .In) (rIn X.K false):=by
 intro pins s σ H x y v u Q I rx ry h
 obtain⟨p,xs,rfl,hq,fx,fs,q⟩:=h
 cases ry
 rcases hq with hq|hq
 . obtain⟨its,r,pl,hz⟩:=I.list hq
   refine SeqAt.in_listAt (eqU x) pl.isList (fun w hw=>A4p rx fx r fs w (by simpa using hw)) ⟨.bl _,H,I,rfl,?_⟩
   rw[show its.toArray.any (eqU x)=its.any (eqU x) by simp,A7e r fs]
   exact q
 obtain⟨its,r,pl,hz⟩:=I.tuple hq
 refine SeqAt.in_tupleAt (eqU x) pl (fun w hw=>A4p rx fx r fs w (by simpa using hw)) ⟨.bl _,H,I,rfl,?_⟩
 rw[show its.toArray.any (eqU x)=its.any (eqU x) by simp,A7e r fs]
 exact q
theorem A2b:OpR X (compareOp .NotIn) (rIn X.K true):=by
 intro pins s σ H x y v u Q I rx ry h
 obtain⟨p,xs,rfl,hq,fx,fs,q⟩:=h
 cases ry
 rcases hq with hq|hq
 . obtain⟨its,r,pl,hz⟩:=I.list hq
   refine SeqAt.notIn_listAt (eqU x) pl.isList (fun w hw=>A4p rx fx r fs w (by simpa using hw)) ⟨.bl _,H,I,rfl,?_⟩
   rw[show its.toArray.any (eqU x)=its.any (eqU x) by simp,A7e r fs]
   exact q
 obtain⟨its,r,pl,hz⟩:=I.tuple hq
 refine SeqAt.notIn_tupleAt (eqU x) pl (fun w hw=>A4p rx fx r fs w (by simpa using hw)) ⟨.bl _,H,I,rfl,?_⟩
 rw[show its.toArray.any (eqU x)=its.any (eqU x) by simp,A7e r fs]
 exact q
theorem B6n:A0y X (.builtin "len") (fun xs H Q=>∃p ys,xs=[.ref p]/\(SqL X.K H p ys\/SqT X.K H p ys)/\Q (.int ys.length) H):=by
 intro pins s σ H xs us Q I r h
 obtain⟨p,ys,rfl,hq,q⟩:=h
 obtain⟨u,rfl,rx⟩:=A7q r
 cases rx
 have hn:=B2d
 rcases hq with hq|hq
 . obtain⟨its,r',pl,hz⟩:=I.list hq
   have hlen:=r'.length
   exact Calls.call_len_list pl.isList (by simp only[List.size_toArray]<;>omega) ⟨.int ys.length,H,I.tok _,⟨s.toks+1,by rw[List.size_toArray,hlen]⟩,q⟩
 obtain⟨its,r',pl,hz⟩:=I.tuple hq
 have hlen:=r'.length
 exact len_tuple pl (by simp only[List.size_toArray]<;>omega) ⟨.int ys.length,H,I.tok _,⟨s.toks+1,by rw[List.size_toArray,hlen]⟩,q⟩
theorem A2d:A0y X (.builtin "len") (fun xs H Q=>∃z,xs=[.str z]/\z.length<=sizeLine/\Q (.int z.length) H):=by
 intro pins s σ H xs us Q I r h
 obtain⟨z,rfl,hz,q⟩:=h
 obtain⟨u,rfl,t,rfl⟩:=A7q r
 have hn:=B2d
 exact len_str (by omega) ⟨.int z.length,H,I.tok _,⟨_,rfl⟩,q⟩
theorem A3q:A0y X (.type "list") (fun xs H Q=>∃p ys,xs=[.ref p]/\(SqL X.K H p ys\/SqT X.K H p ys)/\∀l,H l=none ->Q (.ref l) (upd H l (.lst ys))):=by
 intro pins s σ H xs us Q I r h
 obtain⟨p,ys,rfl,hq,q⟩:=h
 obtain⟨u,rfl,rx⟩:=A7q r
 cases rx
 have fin:∀(its:List Value),G7 ys its ->ys.length<=sizeLine ->∀(h':Heap) (c':Nat),(∀b o',s.heap.get? b=some o' ->h'.get? b=some o') ->
     h'.get? s.heap.objs.size=some {cls:= .type "list",dict:=none,data:= .seq its.toArray c',slots:= #[]} ->EP X pins σ Q (.ref s.heap.objs.size) {s with heap:=h'}:=fun its r' hz h' c' kp e=>
   ⟨.ref s.heap.objs.size,_,I.laid (t':=s.toks) kp (Nat.le_refl _) (show Z2 X.prog X.w _ h' _ (.lst ys) from⟨hz,its,c',r',e⟩),rfl,q _ (I.hok.fresh (Nat.le_refl _))⟩
 rcases hq with hq|hq
 . obtain⟨its,r',pl,hz⟩:=I.list hq
   have hlen:=r'.length
   obtain⟨o,ho,hc,n,hd⟩:=pl.isList
   exact call_list_seq p (.inl rfl) ho hc hd (fun h' c' kp e=>fin its r' hz h' c' kp e) (by simp only[List.size_toArray]<;>omega)
 obtain⟨its,r',pl,hz⟩:=I.tuple hq
 have hlen:=r'.length
 obtain⟨o,ho,hc,n,hd⟩:=pl
 exact call_list_seq p (.inr rfl) ho hc hd (fun h' c' kp e=>fin its r' hz h' c' kp e) (by simp only[List.size_toArray]<;>omega)
def tyV (K:PySem.W.Frag) (T:String) (x:V) (H:Hp):Prop:=match x with
 | .str _=>T="str"
 | .int _=>T="int"
 | .ref p=>(T="list"/\∃xs,SqL K H p xs)\/(T="tuple"/\∃o,K.lookup p=some o/\o.cls= .type "tuple"/\o.dict=none)\/
     (T="dict"/\((∃kvs,H p=some (.dK kvs))\/∃kvs,H p=some (.dT kvs)))\/(T="set"/\∃S n,H p=some (.set S n))
 |_=>False
theorem G3v{pins:List (Addr×Obj)}{σ:St}{H:Hp}{s:Shared}{T:String}{x:V}{v:Value}(I:Inv X pins σ H s)(r:V4 x v)(ty:tyV X.K T x H):
   s.TypeIs v T/\∀a,v= .ref a ->∃ob,s.heap.get? a=some ob/\ob.dict=none:=by
 cases x with
 | str z=>
   obtain⟨t,rfl⟩:=r
   cases(show T="str" from ty)
   exact⟨typeIs_str s z t,fun _ e=>nomatch e⟩
 | int i=>
   obtain⟨t,rfl⟩:=r
   cases(show T="int" from ty)
   exact⟨typeIs_int s i t,fun _ e=>nomatch e⟩
 | ref p =>
   cases r
   rcases ty with⟨rfl,xs,hq⟩|⟨rfl,o,hk,hc,hd⟩|⟨rfl,hk⟩|⟨rfl,S,n,hk⟩
   . obtain⟨its,_,pl,_⟩:=I.list hq
     refine⟨pl.isList.typeIs,fun a e=>?_⟩
     cases e
     obtain⟨o,n,e,c,hd,_⟩:=pl
     exact⟨o,e,hd⟩
   . refine⟨⟨o,I.kIn p o hk,hc⟩,fun a e=>?_⟩
     cases e
     exact⟨o,I.kIn _ o hk,hd⟩
   . have z:∃o,s.heap.get? p=some o/\o.ExactDict:=by
       rcases hk with⟨kvs,hk⟩|⟨kvs,hk⟩
       . obtain⟨_,_,_,_,o,_,_,e,ex,_⟩:=I.hok p _ hk
         exact⟨o,e,ex⟩
       . obtain⟨_,_,_,_,o,_,_,e,ex,_⟩:=I.hok p _ hk
         exact⟨o,e,ex⟩
     obtain⟨o,e,ex⟩:=z
     refine⟨⟨o,e,ex.1⟩,fun a e2=>?_⟩
     cases e2
     exact⟨o,e,ex.2.1⟩
   . obtain⟨o,_,_,_,e,ex,_⟩:=I.hok p _ hk
     refine⟨⟨o,e,ex.1⟩,fun a e2=>?_⟩
     cases e2
     exact⟨o,e,ex.2.1⟩
 |_=>exact False.elim ty
def J2z (K:PySem.W.Frag) (T:String) (r:V ->List V ->Hp ->VK ->Prop) (to:TE):TE:=fun σ H Q=>to σ H fun x H1=>tyV K T x H1/\r x [] H1 Q
variable{o e:Expr}{es:List Expr}{to:TE}{t:TA}{name:Str}{apos cpos:Pos}{T id:String}{r:V ->List V ->Hp ->VK ->Prop}
theorem D1b(pa:PlainAttrs T)(slot:Slot T name id)(hty:typeOf (.builtin id)=pure (.type "method_descriptor"))(hm:MtR X id r)(ho:PE X o to)
   (hbase:attributeBase o name X.env (eval o X.env)=eval o X.env:=by rfl) (hline:(apos.endLine==cpos.line)=true:=by rfl):PE X (.Call (.Attribute o name apos) [] [] cpos) (J2z X.K T r to):=by
 intro pins s σ H Q I h
 refine wpAny_Call_method0_late hbase hline (thn (ho pins s σ H _ I h) fun v s1 hh_=>?_)
 obtain⟨x,H1,I1,r1,ty,q1⟩:=hh_
 obtain⟨h1,h2⟩:=G3v I1 r1 ty
 exact⟨T,id,pa,slot,hty,h1,h2,Calls.callWith_builtin rfl (PySem.evalArgs_none (hm pins s1 σ H1 x [] v [] Q I1 r1 .nil q1))⟩
end
def MtM (X:Cx) (id:String) (r:V ->List V ->Hp ->VK ->Prop):Prop:=
 ∀ (pins:List (Addr×Obj)) (s:Shared) (σ:St) (H:Hp) (x:V) (xs:List V) (v:Value) (us:List Value) (Q:VK),Inv X pins σ H s ->V4 x v ->G7 xs us ->r x xs H Q ->
   wpAny (model X.prog X.w) X.A (call (.builtin id) (v::us)) (EP X pins σ Q) X.xe s
theorem G7.one{x:V}{us:List Value}(h:G7 [x] us):∃u,us=[u]/\V4 x u:=by
 cases h with
 |cons r t=>cases t;exact⟨_,rfl,r⟩
theorem G7.two{x y:V}{us:List Value}(h:G7 [x,y] us):∃u v,us=[u,v]/\V4 x u/\V4 y v:=by
 cases h with
 | cons r t=>
   cases t with
   |cons q z=>cases z;exact⟨_,_,rfl,r,q⟩
theorem G7.zero:∀{us:List Value},G7 [] us ->us=[]
 |_,.nil=>rfl
theorem G7.rep{xs:List V}{us:List Value}(h:G7 xs us):∀k:Nat,G7 (List.replicate k xs).flatten (List.replicate k us).flatten
 |0=> .nil
 | k+1=>by
   rw[List.replicate_succ,List.replicate_succ,List.flatten_cons,List.flatten_cons]
   exact G7.append h (G7.rep h k)
theorem B4u(its:List Value):∀(k:Nat) (acc:List Value),
   List.foldl (fun x1 x2=>x1++x2) acc.toArray (List.replicate k its.toArray)=(acc++(List.replicate k its).flatten).toArray
 |0,acc=>by simp
 | k +1,acc=>by
   have e:acc.toArray++its.toArray=(acc++its).toArray:=by simp
   have e2:(acc++its)++(List.replicate k its).flatten=acc++(List.replicate (k+1) its).flatten:=by
     rw[List.replicate_succ,List.flatten_cons,List.append_assoc]
   rw[<-e2, <-B4u its k (acc++its), <-e,List.replicate_succ,List.foldl_cons]
section
variable{X:Cx}{pins:List (Addr×Obj)}{σ:St}{H:Hp}{s:Shared}{l b:Addr}{xs ys zs:List V}
theorem Inv.lset{its its':List Value}{n:Nat}{f:Array Value ->Array Value}{t':Nat}(I:Inv X pins σ H s)(hH:H l=some (.lst xs))
   (e:s.heap.get? l=some {cls:= .type "list",data:= .seq its.toArray n}) (hf:f its.toArray=its'.toArray) (hv:G7 ys its') (hz:ys.length<=sizeLine):
   Inv X pins σ (upd H l (.lst ys)) {s with heap:=s.heap.update l (Obj.mapSeq f),toks:=t'}:=by
 have q:=PySem.IsL.update e f
 rw[hf] at q
 refine I.write (x:=l) (e:=l) (by rw[hH];exact trivial) (.inl rfl) (fun b' u hb hu=>(Heap.get?_update_other s.heap (Obj.mapSeq f) (Ne.symm hb)).trans hu) ⟨_,q⟩ ?_
 exact⟨hz,its',_,hv,q⟩
theorem Inv.lnew{its:List Value}{t':Nat}(I:Inv X pins σ H s)(hv:G7 ys its)(hz:ys.length<=sizeLine):
   Inv X pins σ (upd H s.heap.objs.size (.lst ys)) {s with heap:=s.heap.push {cls:= .type "list",data:= .seq its.toArray},toks:=t'}:=
 I.laid (fun _ _ q=>Heap.get?_push_of_some _ q) (Nat.le_refl _) ⟨hz,its,0,hv,Heap.get?_push_size _ rfl⟩
theorem Inv.fresh(I:Inv X pins σ H s):H s.heap.objs.size=none:=I.hok.fresh (Nat.le_refl _)
theorem Inv.lstM(I:Inv X pins σ H s)(hH:H l=some (.lst xs)):xs.length<=sizeLine/\∃(its:List Value) (n:Nat),G7 xs its/\xs.length=its.length/\s.heap.get? l=some {cls:= .type "list",data:= .seq its.toArray n}:=by
 obtain⟨z,its,n,r,e⟩:=I.hok l _ hH
 exact⟨z,its,n,r,r.length,e⟩
theorem D3k{n:Nat}(h:n<=sizeLine):Builtin.List.listTooLong n=false:=by
 unfold Builtin.List.listTooLong
 exact decide_eq_false (by omega)
end
section
variable{X:Cx}
def G0j:V ->List V ->Hp ->VK ->Prop:=fun x vs H Q=>∃l xs y,x= .ref l/\vs=[y]/\H l=some (.lst xs)/\xs.length<sizeLine/\Q .non (upd H l (.lst (xs++ [y])))
theorem A3d:MtM X "list.append" G0j:=by
 intro pins s σ H x vs v us Q I rx rv h
 obtain⟨l,xs,y,rfl,rfl,hH,hz,q⟩:=h
 cases rx
 obtain⟨u,rfl,ru⟩:=rv.one
 obtain⟨z,its,n,r,hl,e⟩:=I.lstM hH
 refine call_meets F.slot_list_append ⟨_,e,rfl⟩ F.entry_list_append (F.args_list_append_2 _ _) (PySem.list_append l its.toArray n u (by rw[List.size_toArray];omega)) ⟨e,?_⟩
 refine⟨.non,_,I.lset (its':=its++ [u]) hH e (by simp) (r.append (.cons ru .nil)) ?_,rfl,q⟩
 rw[List.length_append,List.length_singleton]
 omega
def J3d:R2:=fun x y H Q=>∃l b xs zs,x= .ref l/\y= .ref b/\H l=some (.lst xs)/\H b=some (.lst zs)/\xs.length+zs.length<=sizeLine/\∀p,H p=none ->Q (.ref p) (upd H p (.lst (xs++zs)))
theorem B1u:OpR X (binaryOp .Add) J3d:=by
 intro pins s σ H x y v u Q I rx ry h
 obtain⟨l,b,xs,zs,rfl,rfl,hH,hB,hz,q⟩:=h
 cases rx
 cases ry
 obtain⟨z,its,n,r,hl,e⟩:=I.lstM hH
 obtain⟨z2,its2,n2,r2,hl2,e2⟩:=I.lstM hB
 refine PySem.P.add_list e e2 ?_ (by rw[List.size_toArray,List.size_toArray];omega)
 have ea:its.toArray++its2.toArray=(its++its2).toArray:=by simp
 rw[ea]
 exact⟨.ref _,_,I.lnew (t':=s.toks) (r.append r2) (by rw[List.length_append];omega),rfl,q _ I.fresh⟩
def J4k:R2:=fun x y H Q=>∃l k xs,x= .ref l/\y= .int k/\H l=some (.lst xs)/\ -(2^63)<=k/\k<2^63/\xs.length*k.toNat<=sizeLine/\
 ∀p,H p=none ->Q (.ref p) (upd H p (.lst (List.replicate k.toNat xs).flatten))
theorem C3r{α:Type}(xs:List α)(k:Nat):(List.replicate k xs).flatten.length=k*xs.length:=by
 induction k with
 |zero=>simp
 |succ k ih=>rw[List.replicate_succ,List.flatten_cons,List.length_append,ih,Nat.succ_mul,Nat.add_comm]
theorem C2e:OpR X (binaryOp .Mult) J4k:=by
 intro pins s σ H x y v u Q I rx ry h
 obtain⟨l,k,xs,rfl,rfl,hH,h1,h2,hz,q⟩:=h
 cases rx
 obtain⟨t,rfl⟩:=ry
 obtain⟨z,its,n,r,hl,e⟩:=I.lstM hH
 have hlen:its.toArray.size*k.toNat<=sizeLine:=by rw[List.size_toArray, <-hl];exact hz
 have hcap:¬its.toArray.size*k.toNat>(2^63-1)/8:=by
   have:(sizeLine:Nat)<=(2^63-1)/8:=by decide
   omega
 have hfit:¬(!Builtin.List.listFitsIndex k)=true:=by
   rw[fitsIndex_both h1 h2]
   exact Bool.false_ne_true
 have hlong:¬Builtin.List.listTooLong (its.toArray.size*k.toNat)=true:=by
   rw[D3k hlen]
   exact Bool.false_ne_true
 have hnew:List.foldl (fun x1 x2=>x1++x2) #[] (List.replicate (if its.toArray.isEmpty=true then 0 else k.toNat) its.toArray)=(List.replicate k.toNat its).flatten.toArray:=by
   have f0:∀m:Nat,List.foldl (fun x1 x2=>x1++x2) #[] (List.replicate m its.toArray)=(List.replicate m its).flatten.toArray:=fun m=>by
     have:=B4u its m []
     rw[List.nil_append] at this
     exact this
   rw[f0]
   cases its with
   |nil=>simp
   |cons a r'=>rw[if_neg (by simp)]
 refine wpAny_binaryOp_repeat_ref (T:="list") (U:="int") (by decide) ⟨_,e,rfl⟩ (fun s'=>typeIs_int s' k t) noFill_list_mul F.fills_int_mul F.slot_int_rmul repeat_list F.slot_int_index.lookup
   (call_meets F.slot_int_rmul (typeIs_int s k t) F.entry_int_rmul (F.args_int_rmul_2 _ _) (int___rmul___int_list k t l its.toArray n)
     ⟨e,rfl,⟨_,e,rfl⟩,call_meets F.slot_list_mul ⟨_,e,rfl⟩ F.entry_list_mul (F.args_list_mul_2 _ _) (AutoListH.list___mul___list_int_3 l its.toArray n k t hfit hcap hlong) ⟨e,?_⟩⟩)
 rw[hnew]
 exact⟨.ref _,_,I.lnew (t':=s.toks) (r.rep k.toNat) (by rw[C3r,Nat.mul_comm];exact hz),rfl,q _ I.fresh⟩
end
section
variable{prog:Program}{w:World}{A:Around}{E:Value ->Shared ->Prop}{s:Shared}
end
section
variable{X:Cx}
end
end L2
namespace Att
open PySem PySem.W PySem.Calls PyProof.Rows
theorem B0a{P:Params}{h:Heap}:∀(ns:List Int) (vs:List Value),WellAll P h vs (ns.map WData.int) ->IntsAre vs ns:=by
 intro ns
 induction ns with
 | nil=>
   intro vs w
   rw[List.map_nil] at w
   cases w
   exact .nil
 | cons n ns ih=>
   intro vs w
   rw[List.map_cons] at w
   cases w with
   | cons a b=>
     cases a
     exact .cons _ _ (ih _ b)
theorem C6r{l:OpenLaw}{n:Nat}(hn:l.most=some n){P:Params}{h:Heap}{args:List WData}{vals:List Value}
   (hpre:l.row.toRowW.claim.pre args=true) (hwl:WellAll P h vals args):
   ∃a vs ns,vals=[Value.ref a]/\args=[WData.list (ns.map WData.int)]/\h.get? a=some {cls:= .type "list",data:= .seq vs.toArray}/\IntsAre vs ns/\ns.length<=n:=by
 have hsh:WShape.hasAll [] args [.list .int]=true:=(pre_splitW hpre).1
 have hc:l.pre.holds [] {args:=args}=true:=(pre_splitW hpre).2
 obtain⟨d,r,rfl,h1,h2⟩:=hasAllW_cons hsh
 obtain rfl:=hasAllW_nil h2
 obtain⟨xs,rfl,h3⟩:=hasW_list h1
 obtain⟨ns,rfl⟩:=items_int h3
 have hlen:ns.length<=n:=by
   unfold OpenLaw.pre at hc
   have h4:(WTm.not (.lt (.lit (.int (n:Int))) (.len (.arg 0)))).holds [] {args:=[.list (ns.map .int)]}=true:=by
     have h4:=(holds_andW hc).1
     rw[hn] at h4
     exact h4
   have h5:=condW_of h4 (w_not (w_lt w_lit (w_len_list (w_arg rfl))))
   rw[List.length_map] at h5
   refine Nat.le_of_not_lt fun q=>?_
   have q':(n:Int)<((ns.length:Nat):Int):=by omega
   first
     |(rw[decide_eq_true q'] at h5;exact absurd h5 (by decide))
     |(simp at h5;omega)
 cases hwl with
 | cons w1 w2=>
   cases w2
   cases w1 with
   |list ho hall=>exact⟨_,_,ns,rfl,rfl,ho,B0a ns _ hall,hlen⟩
theorem C6q(l:OpenLaw)(args:List WData):l.row.toRowW.claim.post args (.bool true) args=true:=
 postW_of (r:=l.row.toRowW) (X:=(true==true))
   (show WShape.has [] (.bool true) .bool=true by first|rfl|decide|simp[WShape.has,WShape.arms,WShape.armsAll])
   (show(WTm.eq .res (.lit (.bool true))).value [] {args:=args,res:=some (.bool true),after:=args}=some (.bool (true==true)) from w_eq_bool (w_res rfl) w_lit) rfl
theorem attach_call{l:OpenLaw}{n:Nat}{q:Program}{loose:List Str}{XP:(Str ->Option Value) ->Heap ->Prop}{YP:World ->Heap ->Prop}{d:DefRec}
   (hn:l.most=some n) (hdf:d.params.defaults=[])
   (call:∀(w:World) (s₀ s₁:Shared) (mg mb:Str ->Option Value) (fa:Addr) (o:Obj) (pm cd doc:Value) (a:Addr) (vs:List Value) (ns:List Int),
     Ground q loose [] XP w s₀ mg mb s₁.heap ->YP w s₁.heap ->
     s₁.heap.get? fa=some o ->o.data= .func (docDef d.name d.params d.body d.scope pm cd doc) ->s₁.heap.CodeRec cd d.name ->mg d.name=some (.ref fa) ->
     s₁.heap.get? a=some {cls:= .type "list",data:= .seq vs.toArray} ->IntsAre vs ns ->ns.length<=n ->s₁.gens= #[] ->
     codeAny (model l.prog w) callerA (.call (.ref fa) ⟨[.ref a],[]⟩) (fun r s'=>r= .ok (.ret (.bool true))/\OldK s₁.heap s'.heap/\s'.os=s₁.os/\AllBare s'.gens) s₁):
   WalkO q loose XP YP l.row.toRowW d [] (fun f vs=>PySem.call f vs):=by
 intro w s₀ s₁ mg mb G Y fa o pm cd doc dV kV ho hd hcd hD hmg hg args vals as hpre hlay hrd hwl hlo
 obtain rfl:dV= .none:=Dflts.none hD hdf
 obtain rfl:kV= .none:=Dflts.noKw hD
 obtain⟨a,vs,ns,rfl,rfl,hobj,hints,hlen⟩:=C6r hn hpre hwl
 refine enter_call (codeAny_mono (call w s₀ s₁ mg mb fa o pm cd doc a vs ns G Y ho (fd_plain hd) hcd hmg hobj hints hlen hg) fun r s' hq=>?_)
 obtain⟨rfl,h2,h3,h4⟩:=hq
 exact⟨.inl ⟨.bool true,.bool true,[],rfl,fun _=>rfl,.bool true,C6q l _,fun _=>⟨List.Pairwise.nil,fun _ hm=>(nomatch hm)⟩⟩,h2,h3,h4⟩
section
variable{prog:Program}{w:World}{A:Around}{E:Value ->Shared ->Prop}{s:Shared}{K:Frag}
end
end Att
namespace L2
open PySem PySem.Spec PyProof.Rows
theorem B5a:∀{vs:List Value} {ns:List Int},IntsAre vs ns ->G7 (ns.map V.int) vs
 |_,_,.nil=> .nil
 |_,_,.cons n t h=> .cons ⟨t,rfl⟩ (B5a h)
def G3y (H:Hp):Prop:=∀b,H b=none\/∃o xs,H b=some (.frz o (.lst xs))
noncomputable def U3 (s:Stmt) (j:Nat):Stmt:=match s with
 | .ClassDef _ _ _ body _ _ _ _ _ _ _=>body.getD j (.Pass ⟨0,0,0,0⟩)
 |_=> .Pass ⟨0,0,0,0⟩
noncomputable def U6 (s:Stmt):Arguments:=match s with
 | .FunctionDef _ a _ _ _ _ _ _ _ _=>a
 |_=>{posonlyargs:=[],args:=[],vararg:=none,kwonlyargs:=[],kw_defaults:=[],kwarg:=none,defaults:=[]}
noncomputable def U2 (s:Stmt):List Stmt:=match s with
 | .FunctionDef _ _ b _ _ _ _ _ _ _=>b
 |_=>[]
noncomputable def A6 (s:Stmt):Scope:=match s with
 | .FunctionDef _ _ _ _ _ _ sc _ _ _=>sc
 |_=>{kind:= .function,names:=[],isGenerator:=false,isCoroutine:=false}
abbrev CX0:CXT:=fun _ _ _ _ _ _=>False
abbrev E0:XK:=fun _ _ _=>False
structure Fun(K:PySem.W.Frag)(x qual:Str)(st:Stmt)(f:Addr)(fd:FuncData):Prop where
 ex:∃(oc:Value) (od:Option Addr) (kV doc pm:Value) (an:Option Addr) (cdv ct:Value) (osl:Array (Option Value)),
   fd=PySem.W.fnOf x qual (U6 st) (U2 st) (A6 st) .none kV doc pm an cdv ct/\K.lookup f=some ⟨oc,od,.func fd,osl⟩/\PySem.W.codeIn K cdv qual=true
 kp:PySem.W.keepIn K (.ref f)=true
section
variable{P:Program}{w:World}{K:PySem.W.Frag}{mg:Str ->Option Value}{base:Heap}
theorem Fun.ok{x qual:Str}{st:Stmt}{f:Addr}{fd:FuncData}{N ps:List Str}{k:Nat}{sp:Sp}(F:Fun K x qual st f fd)(S:B8 N ps (A6 st))(len:∀vs H Q E,sp vs H Q E ->vs.length=ps.length)
   (hbody:∀(cdv:Value) (A:Around) (outer:List Env) (s:Shared) (H:Hp) (vs:List V) (Q:VK) (E:XK),A0r k (A.deeper (envOfC qual (A6 st) s.heap.objs.size f cdv)) ->sp vs H Q E ->
     ∃t,PSs (A2p CX0 P w K mg base N qual (A6 st) f cdv A outer s H E).nox (U2 st) t/\t {nx:=fun _ H'=>Q .non H',rt:=Q} (A1t N vs) H):G6 P w K mg base CX0 (k+1) f fd ps sp:=by
 obtain⟨oc,od,kV,doc,pm,an,cdv,ct,osl,rfl,lk,hcd⟩:=F.ex
 refine G2x lk hcd S len fun A outer s H vs Q E hr hsp=>?_
 obtain⟨t,h,q⟩:=hbody cdv A outer s H vs Q E hr hsp
 exact⟨t,h.nox,q⟩
theorem Fun.binds{x qual:Str}{st:Stmt}{f:Addr}{fd:FuncData}{ps:List Str}(F:Fun K x qual st f fd)
   (h:∀(kV doc pm:Value) (an:Option Addr) (cdv ct:Value) (us:List Value),us.length=ps.length ->bindArgs (PySem.W.fnOf x qual (U6 st) (U2 st) (A6 st) .none kV doc pm an cdv ct) ⟨us,[]⟩=pure (ps.zip us)):Y6 K fd ps []:=by
 obtain⟨oc,od,kV,doc,pm,an,cdv,ct,osl,rfl,lk,hcd⟩:=F.ex
 exact .all (h kV doc pm an cdv ct)
theorem A2y{x qual:Str}{st:Stmt}{f:Addr}{oc:Value}{od an:Option Addr}{osl:Array (Option Value)}{kV doc pm cdv ct:Value}(l:K.lookup f=some ⟨oc,od,.func (PySem.W.fnOf x qual (U6 st) (U2 st) (A6 st) .none kV doc pm an cdv ct),osl⟩)
   (c:PySem.W.codeIn K cdv qual=true) (k:PySem.W.keepIn K (.ref f)=true):Fun K x qual st f (PySem.W.fnOf x qual (U6 st) (U2 st) (A6 st) .none kV doc pm an cdv ct):=⟨⟨oc,od,kV,doc,pm,an,cdv,ct,osl,rfl,l,c⟩,k⟩
end
theorem A1c{n:Nat}(h:n<=1000):n<sizeLine:=Nat.lt_of_le_of_lt h (by decide)
section
variable{X:Cx}
theorem pv(i:Nat){x:Str}{pos:Pos}(hN:X.N[i]?=some x:=by rfl)(hv:Vis X.env.scope x:=by first|exact Or.inl rfl|exact Or.inr (Or.inl rfl)|exact Or.inr (Or.inr rfl))(hd:(x==("__debug__":Str))=false:=by decide)
   (hcd:(x==("__classdict__":Str))=false:=by decide):PE X (.Name x pos) (G8z i):=G4d hN hv hd hcd
end
theorem Y3{A B:Prop}(h:B):if false=true then A else B:=by
 rw[if_neg Bool.false_ne_true]
 exact h
theorem Z0{A B:Prop}(h:A):if true=true then A else B:=by
 rw[if_pos rfl]
 exact h
theorem B2t{c A B:Prop} [Decidable c] (hc:c) (h:B):if(!decide c)=true then A else B:=by
 rw[decide_eq_true hc]
 exact Y3 h
def A8 (H H':Hp):Prop:=∀b o,H b=some o ->H' b=some o
theorem A8.refl(H:Hp):A8 H H:=fun _ _ h=>h
theorem A8.trans{H H1 H2:Hp}(a:A8 H H1)(b:A8 H1 H2):A8 H H2:=fun c o h=>b c o (a c o h)
theorem A8.free{H H':Hp}(e:A8 H H'){l:Addr}(h:H' l=Option.none):H l=Option.none:=by
 cases q:H l with
 |none=>rfl
 | some o=>
   rw[e l o q] at h
   cases h
theorem A8.seq{K:PySem.W.Frag}{H H':Hp}{a:Addr}{xs:List V}(e:A8 H H')(h:SqL K H a xs):SqL K H' a xs:=by
 rcases h with(h|⟨o,h⟩)|h
 . exact .inl (.inl (e _ _ h))
 . exact .inl (.inr ⟨o,e _ _ h⟩)
 exact .inr h
end L2
set_option maxHeartbeats 4000000
namespace L2
open PySem PySem.Spec PyProof.Rows
noncomputable abbrev A0c (C:Value) (t:Addr) (dd:Option Addr) (tb:Value):Obj:=
 {cls:=C,dict:=dd,data:= .fields #[.ref t,tb,.none,.none,.bool false,.none]}
structure J1n(fs:List Addr)(h h':Heap)(a:Addr)(C:Value)(t:Addr)(dd:Option Addr)(T:Addr)(fl:Value):Prop where
 keep:∀b o,b ∉ fs ->b≠a ->h.get? b=some o ->h'.get? b=some o
 slot:∀b o,b≠a ->h.get? b=some o ->∃sl,h'.get? b=some {o with slots:=sl}
 new:h.get? T=none
 ne:T≠a
 exc:h'.get? a=some (A0c C t dd (.ref T))
 tbk:∃oT ts,h'.get? T=some oT/\oT.data= .fields ts/\ts[3]?=some fl
section
variable{M:Model}{A:Around}{E:Value ->Shared ->Prop}{s:Shared}{base:Heap}{env:Env}{outer:List Env}{L a t:Addr}{C:Value}{dd:Option Addr}{tb:Value}{Q:Unit ->Shared ->Prop}
theorem D9x{oa:Obj}{vs:Array Value}{l:List Env}(hl:s.heap.FunFrames base l)(ha:s.heap.get? a=some oa)(hd:oa.data= .fields vs):a ∉ l.filterMap (·.frame):=by
 intro hm
 obtain⟨_,o,ho,hn⟩:=hl.mem hm
 rw[ha] at ho
 cases ho
 exact hn vs hd
theorem C4x{head:Value}{hn:Bool}(hfr:A.frames=some (env::outer))(hl:s.heap.FunFrames base (env::outer))(hf:env.frame=some L)
   (ha:s.heap.get? a=some (A0c C t dd tb))
   (h:∀h' T,J1n ((env::outer).filterMap (·.frame)) s.heap h' a C t dd T (rawInt L) ->Q () {s with heap:=h'}):
   wpAny M A (do
     let x<-frameOf env
     let pl<-entryPlaceOf L hn
     let b<-EntryCells.newEntry head x .none (rawInt L) .none pl
     setField (.ref a) 1 b) Q E s:=by
 have na:=D9x hl ha rfl
 refine wpAny_bind (wpAny_frameOf_fun hfr hl hf fun g hg=>?_)
 refine wpAny_bind (wpAny_entryPlaceOf fun pl hpl=>?_)
 unfold EntryCells.newEntry newFields
 refine wpAny_bind (wpAny_newObj_type ?_ (hpl.sizeOk5 _ _ _ _ _))
 have a1:g.get? a=some (A0c C t dd tb):=(hg.2.1 a na).trans ha
 have a2:=fun(z:Obj)=>Heap.get?_push_of_some (h:=g) z a1
 have nT:g.objs.size≠a:=Nat.ne_of_gt (Heap.lt_size a1)
 refine wpAny_setField (a2 _) rfl (by show 1<6;decide) (h _ g.objs.size ?_)
 have up:∀(z:Obj) (f:Obj ->Obj) b o,b≠a ->g.get? b=some o ->((g.push z).update a f).get? b=some o:=by
   intro z f b o hb e
   rw[Heap.get?_update_other _ _ (Ne.symm hb)]
   exact Heap.get?_push_of_some _ e
 refine⟨fun b o hb hba e=>up _ _ b o hba ((hg.2.1 b hb).trans e),fun b o hba e=>?_,?_,nT,?_,?_⟩
 . obtain⟨sl,e1⟩:=hg.2.2 b o e
   exact⟨sl,up _ _ b _ hba e1⟩
 . refine Heap.get?_none_of_le ?_
   rw[hg.1]
   exact Nat.le_refl _
 . exact Heap.get?_update_self _ (a2 _) rfl
 refine⟨_,_,(Heap.get?_update_other _ _ (Ne.symm nT)).trans (Heap.get?_push_size _ rfl),rfl,?_⟩
 first
   |(simp;done)
   |(rcases hpl with rfl|⟨_,_,_,_,_,_,_,rfl⟩<;>simp)
def G5h (h:Heap) (a:Addr) (tb:Value):Prop:=tb= .none\/∃T oT ts,tb= .ref T/\T≠a/\h.get? T=some oT/\oT.data= .fields ts/\ts[3]?=some .none
theorem G5j(hfr:A.frames=some (env::outer))(hl:s.heap.FunFrames base (env::outer))(hf:env.frame=some L)
   (ha:s.heap.get? a=some (A0c C t dd tb)) (ht:G5h s.heap a tb)
   (h:∀h' T,(∀b o,b ∉ (env::outer).filterMap (·.frame) ->b≠a ->tb≠ .ref b ->s.heap.get? b=some o ->h'.get? b=some o) ->
     (∀b o,b≠a ->tb≠ .ref b ->s.heap.get? b=some o ->∃sl,h'.get? b=some {o with slots:=sl}) ->s.heap.get? T=none ->T≠a ->
     h'.get? a=some (A0c C t dd (.ref T)) ->(∃oT ts,h'.get? T=some oT/\oT.data= .fields ts/\ts[3]?=some (rawInt L)) ->Q () {s with heap:=h'}):
   wpAny M A (noteFrame (.ref a) env) Q E s:=by
 unfold noteFrame
 simp only[hf]
 refine wpAny_bind (wpAny_field ha rfl (x:=tb) rfl ?_)
 rcases ht with rfl|⟨T,oT,ts,rfl,nT,hT,dT,h3⟩
 . rw[if_neg (by decide)]
   refine C4x hfr hl hf ha fun h' T N=>?_
   exact h h' T (fun b o hb hba _ e=>N.keep b o hb hba e) (fun b o hba _ e=>N.slot b o hba e) N.new N.ne N.exc N.tbk
 rw[if_pos (show(Value.ref T !=Value.none)=true by simp)]
 refine wpAny_bind (wpAny_field hT dT h3 ?_)
 rw[if_neg (show¬((Value.none==rawInt L)=true) by simp[rawInt])]
 refine wpAny_bind (wpAny_setField hT dT (Array.getElem?_eq_some_iff.mp h3).1 ?_)
 have oth:∀(f:Obj ->Obj) b,b≠T ->(s.heap.update T f).get? b=s.heap.get? b:=fun f b hb=>Heap.get?_update_other _ _ (Ne.symm hb)
 have nrec:∀b o,s.heap.get? b=some o ->(∀vs,o.data≠ .fields vs) ->b≠T:=by
   intro b o e hn q
   rw[q,hT] at e
   cases e
   exact hn ts dT
 refine C4x (s:={s with heap:=_}) hfr (hl.of_keeps fun b o e hn=>⟨o,(oth _ b (nrec b o e hn)).trans e,rfl⟩) hf ((oth _ a (Ne.symm nT)).trans ha) fun h' T' N=>?_
 have neb:∀b,Value.ref T≠Value.ref b ->b≠T:=fun b q z=>q (by rw[z])
 refine h h' T' (fun b o hb hba hbT e=>N.keep b o hb hba ((oth _ b (neb b hbT)).trans e)) (fun b o hba hbT e=>N.slot b o hba ((oth _ b (neb b hbT)).trans e)) ?_ N.ne N.exc N.tbk
 have nw:=N.new
 by_cases q:T'=T
 . subst q
   have:=Heap.get?_update_self (Obj.mapFields (·.setIfInBounds 3 Value.none)) hT (Obj.isFreed_of_fields (Obj.data_mapFields dT _))
   rw[nw] at this
   cases this
 rw[oth _ T' q] at nw
 exact nw
theorem G4c{T:Addr}{oT:Obj}{ts:Array Value}{fl:Value}(ha:s.heap.get? a=some (A0c C t dd (.ref T)))(nT:T≠a)(hT:s.heap.get? T=some oT)(dT:oT.data= .fields ts)(h3:ts[3]?=some fl)
   (h:∀h',(∀b o,b≠T ->s.heap.get? b=some o ->h'.get? b=some o) ->G5h h' a (.ref T) ->Q () {s with heap:=h'}):wpAny M A (setFlight (.ref a) none) Q E s:=by
 have sz:3<ts.size:=(Array.getElem?_eq_some_iff.mp h3).1
 unfold setFlight
 refine wpAny_bind (wpAny_field ha rfl (x:= .ref T) rfl ?_)
 rw[if_pos (show(Value.ref T !=Value.none)=true by simp)]
 refine wpAny_setField hT dT sz (h _ (fun b o hb e=>(Heap.get?_update_other _ _ (Ne.symm hb)).trans e) ?_)
 have d2:=Obj.data_mapFields dT (·.setIfInBounds 3 ((none:Option Addr).elim Value.none fun f=>rawInt f))
 exact .inr ⟨T,_,_,rfl,nT,Heap.get?_update_self _ hT (Obj.isFreed_of_fields d2),d2,by simp[sz]⟩
end
def Hd (A:Around) (h:Heap):Prop:=A.handled=none\/∃x ox vs,A.handled=some (.ref x)/\h.get? x=some ox/\ox.data= .fields vs/\vs[2]?=some .none
theorem B4d : entryFor table "proto.unchain" = some Builtin.«proto.unchain» := entryFor_of_tree (by kernel_rfl)
section
variable{prog:Program}{w:World}{A:Around}{E:Value ->Shared ->Prop}{s:Shared}
theorem Hd.keeps{h h':Heap}(x:Hd A h)(k:∀b o,h.get? b=some o ->h'.get? b=some o):Hd A h':=by
 rcases x with z|⟨x,ox,vs,z,e,d,n⟩
 . exact .inl z
 exact .inr ⟨x,ox,vs,z,k x ox e,d,n⟩
theorem B9k{α:Type}{a:Addr}{oa:Obj}{ws:Array Value}{h₀:Heap}{Q:α ->Shared ->Prop}(hd:Hd A h₀)(k:∀b o,h₀.get? b=some o ->s.heap.get? b=some o)(na:h₀.get? a=none)
   (ha:s.heap.get? a=some oa) (da:oa.data= .fields ws) (h2:2<ws.size)
   (h:∀h',(∀b o,b≠a ->s.heap.get? b=some o ->h'.get? b=some o) ->(∃o',h'.get? a=some o'/\o'.cls=oa.cls) ->E (.ref a) {s with heap:=h'}):
   wpAny (model prog w) A (raiseNew (.ref a):Sem α) Q E s:=by
 unfold raiseNew
 refine wpAny_bind (wpAny_handled ?_)
 rcases hd with z|⟨x,ox,vs,z,e,d,n⟩
 . rw[z]
   exact wpAny_bind (wpAny_pure (wpAny_throw (h _ (fun b o _ e=>e) ⟨_,ha,rfl⟩)))
 rw[z]
 have nx:x≠a:=by
   intro q
   rw[q,na] at e
   cases e
 dsimp only
 rw[if_pos (show(Value.ref x !=Value.ref a)=true by simpa using nx)]
 refine wpAny_bind (wpAny_holding (wpAny_runValue (codeAny_builtin B4d ?_)))
 unfold Builtin.«proto.unchain»
 dsimp only
 refine wpAny_bind (wpAny_field (k x ox e) d n ?_)
 rw[if_pos (by decide)]
 refine wpAny_pure ?_
 dsimp only
 unfold updateField
 refine wpAny_bind (wpAny_bind (wpAny_load ha ?_))
 rw[da]
 dsimp only
 rw[if_pos h2]
 refine wpAny_update ha (wpAny_throw (h _ (fun b o hb e=>(Heap.get?_update_other _ _ (Ne.symm hb)).trans e) ⟨_,Heap.get?_update_self _ ha (Obj.isFreed_of_fields (Obj.data_mapFields da _)),Obj.cls_mapFields _ _⟩))
theorem C4n{α:Type}{Q:α ->Shared ->Prop}(hd:Hd A s.heap)
   (h:∀h' e,(∀b o,s.heap.get? b=some o ->h'.get? b=some o) ->({s with heap:=h'}:Shared).TypeIs (.ref e) "StopIteration" ->E (.ref e) {s with heap:=h'}):
   wpAny (model prog w) A (newExc (.type "StopIteration") []>>=fun e=>(raiseNew e:Sem α)) Q E s:=by
 refine wpAny_bind ?_
 simp only[newExc,newTuple]
 refine wpAny_bind (wpAny_newObj_type ?_ (by size_fits));refine wpAny_bind (m:=firstArgMember _ _) (wpAny_of_eq (a:=Value.none) (by first|rfl|(simp only[firstArgMember];rfl)) ?_)
 refine wpAny_newObj_type ?_ (by size_fits);dsimp only
 have k1:∀(z:Obj) b o,s.heap.get? b=some o ->(s.heap.push z).get? b=some o:=fun z b o e=>Heap.get?_push_of_some _ e
 have k2:∀(z y:Obj) b o,s.heap.get? b=some o ->((s.heap.push z).push y).get? b=some o:=fun z y b o e=>Heap.get?_push_of_some _ (Heap.get?_push_of_some _ e)
 have nw:∀(z:Obj),s.heap.get? (s.heap.push z).objs.size=none:=fun z=>Heap.get?_none_of_le (by rw[Heap.size_push];exact Nat.le_succ _)
 refine B9k (s:={s with heap:=_}) (h₀:=s.heap) hd (k2 _ _) (nw _) (Heap.get?_push_size _ rfl) rfl (by show 2<6;decide) fun h' k ⟨o',e',c'⟩=>h h' _ (fun b o e=>?_) ⟨o',e',c'⟩
 refine k b o ?_ (k2 _ _ b o e)
 intro q;rw[q,nw] at e;cases e
theorem A3c{it l:Addr}{i:Nat}{items:Array Value}{Q:Option Value ->Shared ->Prop}(hd:∀h':Heap,Heap.ExtBut it s.heap h' ->Hd A h')
   (hit:s.heap.IsListIter it l i) (hl:s.heap.IsList l items) (hx:items[i]?=none)
   (hQ:∀h',Heap.ExtBut it s.heap h' ->Q none {s with heap:=h'}):wpAny (model prog w) A (pyNext (.ref it)) Q E s:=by
 obtain⟨o,ho,hc,dt⟩:=id hit
 obtain⟨ol,hol,_,nl,dl⟩:=hl
 unfold pyNext
 refine wpAny_bind (wpAny_attempt (wpAny_callSpecial?_slot (name:=Str.ofString "__next__") hit.typeIs slot_listiter_next (wpAny_call_entry slot_listiter_next hit.typeIs entry_listiter_next ?_ (args_listiter_next _))))
 show wpAny _ _ (field (.ref it) 0>>=_) _ _ _;refine wpAny_bind (wpAny_field ho dt (x:= .ref l) rfl ?_)
 show wpAny _ _ (if(Value.ref l==Value.none)=true then _ else _) _ _ _;rw[if_neg (show¬((Value.ref l==Value.none)=true) by simp)]
 show wpAny _ _ (field (.ref it) 1>>=_) _ _ _;refine wpAny_bind (wpAny_field ho dt (x:= .int i 0) rfl ?_)
 show wpAny _ _ (seqItems? (.ref l)>>=_) _ _ _;refine wpAny_bind (wpAny_seqItems hol dl ?_)
 simp only[Int.toNat_natCast,hx]
 refine wpAny_bind (wpAny_rule (wpAny_bind (wpAny_setField ho dt (by simp) ?_)))
 have up:=fun f=>(Heap.SameBut.update (a:=it) (h:=s.heap) (f:=f)).extBut
 refine C4n (s:={s with heap:=_}) (A:=A.in1) (hd _ (up _)) fun h' e k ty=>?_
 refine wpAny_bind (wpAny_isInstance (T:="StopIteration") (b:=true) ty isSubtype_stop ?_)
 exact wpAny_pure (hQ h' fun b o hb z=>k b o (up _ b o hb z))
theorem A1x{it t:Addr}{i:Nat}{items:Array Value}{Q:Option Value ->Shared ->Prop}(hd:∀h':Heap,Heap.ExtBut it s.heap h' ->Hd A h')
   (hit:IsTupIter s.heap it t i) (hl:IsTup s.heap t items) (hx:items[i]?=none)
   (hQ:∀h',Heap.ExtBut it s.heap h' ->Q none {s with heap:=h'}):wpAny (model prog w) A (pyNext (.ref it)) Q E s:=by
 obtain⟨o,ho,hc,dt⟩:=id hit
 obtain⟨ol,hol,_,nl,dl⟩:=hl
 unfold pyNext
 refine wpAny_bind (wpAny_attempt (wpAny_callSpecial?_slot (name:=Str.ofString "__next__") hit.typeIs slot_tupleiter_next (wpAny_call_entry slot_tupleiter_next hit.typeIs entry_tupleiter_next ?_ (args_tupleiter_next _))))
 show wpAny _ _ (field (.ref it) 0>>=_) _ _ _;refine wpAny_bind (wpAny_field ho dt (x:= .ref t) rfl ?_)
 show wpAny _ _ (if(Value.ref t==Value.none)=true then _ else _) _ _ _;rw[if_neg (show¬((Value.ref t==Value.none)=true) by simp)]
 show wpAny _ _ (field (.ref it) 1>>=_) _ _ _;refine wpAny_bind (wpAny_field ho dt (x:= .int i 0) rfl ?_)
 show wpAny _ _ (seqItems? (.ref t)>>=_) _ _ _;refine wpAny_bind (wpAny_seqItems hol dl ?_)
 simp only[Int.toNat_natCast,hx]
 refine wpAny_bind (wpAny_rule (wpAny_bind (wpAny_setField ho dt (by simp) ?_)))
 have up:=fun f=>(Heap.SameBut.update (a:=it) (h:=s.heap) (f:=f)).extBut
 refine C4n (s:={s with heap:=_}) (A:=A.in1) (hd _ (up _)) fun h' e k ty=>?_
 refine wpAny_bind (wpAny_isInstance (T:="StopIteration") (b:=true) ty isSubtype_stop ?_)
 exact wpAny_pure (hQ h' fun b o hb z=>k b o (up _ b o hb z))
theorem C7g{t:Addr}{items:Array Value}{targets:List (Bool×(Value ->Sem Unit))}{Q:Unit ->Shared ->Prop}(hd:Hd A s.heap)(ht:IsTup s.heap t items)
   (hn:targets.length=items.size) (hst:targets.findIdx? (·.1)=none)
   (h:∀h',Heap.ExtBut s.heap.objs.size s.heap h' ->wpAny (model prog w) A (assignInOrder (targets.map (·.2)) items.toList) Q E {s with heap:=h'}):
   wpAny (model prog w) A (unpack (.ref t) targets) Q E s:=by
 have ne:t≠s.heap.objs.size:=by obtain⟨o,ho,_⟩:=ht;exact Nat.ne_of_lt (Heap.lt_size ho)
 unfold unpack
 rw[hn,hst]
 refine wpAny_bind (wpAny_holding ?_)
 unfold unpackItems
 refine wpAny_bind ?_
 unfold notIterableAtAll
 refine wpAny_bind (wpAny_specialOf ht.typeIs slot_tuple_iter.lookup (wpAny_pure ?_))
 simp only[Bool.false_eq_true,if_false]
 refine wpAny_bind (wpAny_holding (iter_tuple ht (wpAny_bind (wpAny_holding (draw_tuple ne items.size 0 _ _ ⟨_,Heap.get?_push_size _ rfl,rfl,rfl⟩ (ht.push _) (by omega) fun g hit sb=>?_)))))
 have all:List.take items.size (List.drop 0 items.toList)=items.toList:=List.take_of_length_le (by simp)
 rw[all,if_neg (by simp)]
 have old:∀b o,b≠s.heap.objs.size ->s.heap.get? b=some o ->g.get? b=some o:=fun b o hb e=>sb.extBut b o hb (Heap.get?_push_of_some _ e)
 refine wpAny_bind (wpAny_holding (A1x (fun h' k=>hd.keeps fun b o e=>?_) hit ((ht.push _).extBut sb.extBut ne) (by simp) fun h₂ he₂=>?_))
 . have nb:b≠s.heap.objs.size:=Nat.ne_of_lt (Heap.lt_size e)
   exact k b o nb (old b o nb e)
 simp only[Option.isSome_none,Bool.false_eq_true,if_false]
 exact wpAny_pure (h h₂ fun b o hb e=>he₂ b o hb (old b o hb e))
end
theorem Z2.there{P:Program}{w:World}{H:Hp}{h:Heap}{a:Addr}{o:HO}(x:Z2 P w H h a o):∃u,h.get? a=some u:=by
 cases o with
 |lst xs=>obtain⟨_,_,_,_,e⟩:=x;exact⟨_,e⟩
 |tup xs=>obtain⟨_,_,_,_,e,_⟩:=x;exact⟨_,e⟩
 |dK kvs=>obtain⟨_,_,_,_,o,_,_,e,_⟩:=x;exact⟨_,e⟩
 |dT kvs=>obtain⟨_,_,_,_,o,_,_,e,_⟩:=x;exact⟨_,e⟩
 |set S n=>obtain⟨o,_,_,_,e,_⟩:=x;exact⟨_,e⟩
 |ins C dx fs=>obtain⟨_,_,_,e,_⟩:=x;exact⟨_,e⟩
 |own y=>obtain⟨_,e⟩:=x;exact⟨_,e⟩
 |xd fs=>obtain⟨_,⟨_,_,_,e,_⟩,_⟩:=x;exact⟨_,e⟩
 |rng lo hi=>obtain⟨_,_,_,e⟩:=x;exact⟨_,e⟩
 |frz ob u=>obtain⟨e,_⟩:=x;exact⟨_,e⟩
 |tbl ps=>exact⟨_,show h.get? a=some _ from x⟩
 |met f y=>exact⟨_,show h.get? a=some _ from x⟩
 |ext φ=>obtain⟨_,e,_⟩:=x;exact e
theorem HOk.new{P:Program}{w:World}{H:Hp}{h:Heap}{a:Addr}(x:HOk P w H h)(e:h.get? a=none):H a=none:=by
 cases q:H a with
 |none=>rfl
 | some u=>
   obtain⟨o,z⟩:=(x a u q).there
   rw[e] at z
   cases z
structure Nw(X:Cx)(pins:List (Addr×Obj))(H:Hp)(b:Addr):Prop where
 un:H b=none
 loc:b≠X.env.locals
 fs:b ∉ X.fs
 old:X.s₀.heap.get? b=none
 cell:∀x c,X.env.cells.lookup x=some c ->c≠b
 pin:∀p∈X.pn++pins,p.1≠b
section
variable{X:Cx}{pins:List (Addr×Obj)}{σ:St}{H H':Hp}{s s':Shared}{a b t:Addr}{C:Value}{dd:Option Addr}
theorem Inv.fsFree(I:Inv X pins σ H s):∀b∈X.fs,H b=none:=fun b hb=>I.stkFree b (by
 rcases I.ok.stk with z|⟨z,zf⟩
 . rw[z];exact hb
 . rw[z]
   unfold frs
   rw[List.filterMap_cons,zf]
   exact List.mem_cons_of_mem _ hb)
theorem Inv.nw(I:Inv X pins σ H s)(hex:X.ex=[])(e:s.heap.get? b=none)(hu:H' b=none):Nw X pins H' b:=by
 refine⟨hu,?_,?_,?_,?_,?_⟩
 . rintro rfl
   obtain⟨m,⟨o,_,_,ho,_⟩,_⟩:=I.loc
   rw[e] at ho
   cases ho
 . intro hb
   obtain⟨_,o,ho,_⟩:=I.funs.mem hb
   rw[e] at ho
   cases ho
 . cases q:X.s₀.heap.get? b with
   |none=>rfl
   | some o=>
     obtain⟨o',z⟩:=I.base.there b o q (by rw[hex];simp)
     rw[e] at z
     cases z
 . rintro x c h rfl
   obtain⟨v,o,ho,_⟩:=I.cell x c h
   rw[e] at ho
   cases ho
 rintro p hp rfl
 obtain⟨z,_⟩:=I.pin p hp
 rw[e] at z
 cases z
theorem Inv.stepN{h':Heap}{ch:List Addr}(I:Inv X pins σ H s)(hch:∀b∈ch,Nw X pins H b)
   (keep:∀b o,b≠X.env.locals ->b ∉ X.fs ->b ∉ ch ->s.heap.get? b=some o ->h'.get? b=some o)
   (slot:∀b o,b ∉ ch ->s.heap.get? b=some o ->∃sl,h'.get? b=some {o with slots:=sl}):Inv X pins σ H {s with heap:=h'}:=by
 have neL:∀b o,X.s₀.heap.get? b=some o ->b≠X.env.locals:=fun b o e=>Nat.ne_of_lt (Nat.lt_of_lt_of_le (Heap.lt_size e) I.ok.above)
 have neC:∀b o,X.s₀.heap.get? b=some o ->b ∉ ch:=fun b o e hb=>by
   have z:=(hch b hb).old
   rw[e] at z
   cases z
 have cellK:∀x c,X.env.cells.lookup x=some c ->∀v,s.heap.IsCell c v ->h'.IsCell c v:=fun x c e v ⟨o,ho,hd⟩=>by
   have nch:c ∉ ch:=fun z=>(hch c z).cell x c e rfl
   obtain⟨sl,q⟩:=slot c o nch ho
   exact⟨_,q,hd⟩
 refine⟨I.ok,I.os,I.bare,⟨fun b o e n hb hx=>?_,fun b o e n hb hx=>?_,I.base.free,fun b o e hx=>?_,I.base.tups,I.base.frzs,I.base.tbls⟩,?_,fun x c e=>?_,I.free,I.freeC,fun p hp=>?_,?_,I.len⟩
 . exact keep b o (neL b o e) hb (neC b o e) (I.base.keep b o e n hb hx)
 . obtain⟨sl,e1⟩:=I.base.slot b o e n hb hx
   obtain⟨sl',e2⟩:=slot b _ (neC b o e) e1
   exact⟨sl',e2⟩
 . obtain⟨o',e1⟩:=I.base.there b o e hx
   obtain⟨sl',e2⟩:=slot b _ (neC b o e) e1
   exact⟨_,e2⟩
 . obtain⟨m,hn,hl⟩:=I.loc
   refine⟨m,?_,fun i x v e1 e2 e3=>?_⟩
   . obtain⟨o,es,ep,ho,r⟩:=hn
     obtain⟨sl,q⟩:=slot _ o (fun z=>(hch _ z).loc rfl) ho
     exact⟨_,es,ep,q,r⟩
   . obtain⟨u,r,l⟩:=hl i x v e1 e2 e3
     refine⟨u,r,?_⟩
     rcases l with l|⟨k,c,e,z⟩
     . exact .inl l
     . exact .inr ⟨k,c,e,cellK x c e _ z⟩
 . obtain⟨v,z⟩:=I.cell x c e
   exact⟨v,cellK x c e v z⟩
 . obtain⟨e,n,ne,nf,d⟩:=I.pin p hp
   exact⟨keep p.1 p.2 ne nf (fun z=>(hch p.1 z).pin p hp rfl) e,n,ne,nf,d⟩
 intro c o e
 have tr:∀b,H b≠none ->∀u,s.heap.get? b=some u ->h'.get? b=some u:=fun b hb u q=>
   keep b u (fun z=>hb (by rw[z];exact I.free)) (fun z=>hb (I.fsFree b z)) (fun z=>hb (hch b z).un) q
 refine(I.hok c o e).stay (fun b u hb q=>tr b ?_ u q) (fun _ q=>q) fun _ _ q=>q
 rcases hb with rfl|hb
 . rw[e];simp
 rw[hb];simp
def Flt (X:Cx) (pins:List (Addr×Obj)) (H:Hp) (s:Shared) (a:Addr) (C:Value) (t:Addr) (dd:Option Addr):Prop:=
 Nw X pins H a/\∃tb,s.heap.get? a=some (A0c C t dd tb)/\G5h s.heap a tb/\∀T,tb= .ref T ->Nw X pins H T
def B3q (X:Cx) (pins:List (Addr×Obj)) (H:Hp) (s:Shared) (a:Addr) (C:Value) (t:Addr) (dd:Option Addr) (fl:Value):Prop:=
 Nw X pins H a/\∃T oT ts,s.heap.get? a=some (A0c C t dd (.ref T))/\T≠a/\Nw X pins H T/\s.heap.get? T=some oT/\oT.data= .fields ts/\ts[3]?=some fl
structure G2j(X:Cx):Prop where
 ex:X.ex=[]
 st:X.stack=X.env::X.outer
 fr:X.env.frame=some X.env.locals
theorem B3q.flt(F:B3q X pins H s a C t dd .none):Flt X pins H s a C t dd:=by
 obtain⟨n,T,oT,ts,e,ne,nT,eT,dT,h3⟩:=F
 exact⟨n,_,e,.inr ⟨T,oT,ts,rfl,ne,eT,dT,h3⟩,fun T' z=>by cases z;exact nT⟩
noncomputable def C1a:Value ->List Addr
 | .ref z=>[z]
 |_=>[]
theorem B1d{M:Model}{E:Value ->Shared ->Prop}{Q:Unit ->Shared ->Prop}(B:G2j X)(I:Inv X pins σ H s)(F:Flt X pins H s a C t dd)
   (k:∀s',Inv X pins σ H s' ->B3q X pins H s' a C t dd (rawInt X.env.locals) ->Q () s'):wpAny M X.A (noteFrame (.ref a) X.env) Q E s:=by
 obtain⟨na,tb,e,ht,nT⟩:=F
 have hfr:=I.ok.frames
 rw[B.st] at hfr
 have hl:=I.stack
 rw[B.st] at hl
 refine G5j hfr hl B.fr e ht fun h' T k1 k2 k3 k4 k5 k6=>?_
 have ch:∀b,b ∉ a::C1a tb ->b≠a/\tb≠ .ref b:=by
   intro b hb
   refine⟨fun z=>hb (by rw[z];exact List.mem_cons_self),fun z=>hb ?_⟩
   rw[z]
   exact List.mem_cons_of_mem _ (List.mem_singleton.mpr rfl)
 have I':Inv X pins σ H {s with heap:=h'}:=by
   refine I.stepN (ch:=a::C1a tb) (fun b hb=>?_) (fun b o h1 h2 h3 q=>k1 b o ?_ (ch b h3).1 (ch b h3).2 q) (fun b o h3 q=>k2 b o (ch b h3).1 (ch b h3).2 q)
   . rcases List.mem_cons.mp hb with rfl|hb
     . exact na
     . cases tb<;>simp[C1a] at hb
       subst hb
       exact nT _ rfl
   . intro z
     rw[List.filterMap_cons,B.fr] at z
     rcases List.mem_cons.mp z with z|z
     . exact h1 z
     . exact h2 z
 obtain⟨oT,ts,q1,q2,q3⟩:=k6
 exact k _ I' ⟨na,T,oT,ts,k5,k4,I.nw B.ex k3 (I.hok.new k3),q1,q2,q3⟩
theorem A4r{M:Model}{A:Around}{E:Value ->Shared ->Prop}{Q:Unit ->Shared ->Prop}{fl:Value}(I:Inv X pins σ H s)(F:B3q X pins H s a C t dd fl)
   (k:∀s',Inv X pins σ H s' ->B3q X pins H s' a C t dd .none ->Q () s'):wpAny M A (setFlight (.ref a) none) Q E s:=by
 obtain⟨na,T,oT,ts,e,ne,nT,eT,dT,h3⟩:=F
 refine G4c e ne eT dT h3 fun h' k1 k2=>?_
 have I':Inv X pins σ H {s with heap:=h'}:=I.stepN (ch:=[T]) (fun b hb=>by
   have:b=T:=by simpa using hb
   subst this
   exact nT) (fun b o _ _ hb q=>k1 b o (fun z=>hb (by simp[z])) q) (fun b o hb q=>⟨_,k1 b o (fun z=>hb (by simp[z])) q⟩)
 rcases k2 with z|⟨T',oT',ts',z,_,q1,q2,q3⟩
 . cases z
 cases z
 exact k _ I' ⟨na,T,oT',ts',k1 a _ (Ne.symm ne) e,ne,nT,q1,q2,q3⟩
theorem B4z{M:Model}{E:Value ->Shared ->Prop}{Q:Unit ->Shared ->Prop}(B:G2j X)(I:Inv X pins σ H s)(F:Flt X pins H s a C t dd)
   (k:∀s',Inv X pins σ H s' ->B3q X pins H s' a C t dd .none ->Q () s'):wpAny M X.A (leaving X.env (.ref a)) Q E s:=by
 unfold leaving
 exact wpAny_bind (B1d B I F fun s1 I1 F1=>A4r I1 F1 k)
end
abbrev EK:=Value ->Option Addr ->St ->Hp ->Prop
def Y1 (X:Cx) (EH:EK):Prop:=∀(pins:List (Addr×Obj)) (σ:St) (H:Hp) (s:Shared) (a t:Addr) (C:Value) (dd:Option Addr),Inv X pins σ H s ->Flt X pins H s a C t dd ->EH C dd σ H ->X.xe (.ref a) s
def CX1 (P:Program) (w:World):CXT:=fun outer H s E e s'=>∃(a t:Addr) (C:Value) (dd:Option Addr) (H':Hp),e= .ref a/\s'.os=s.os/\AllBare s'.gens/\Un (frs outer) [] H H' s.heap s'.heap/\HOk P w H' s'.heap/\E C dd H'/\
 (s.heap.get? a=none/\H' a=none)/\∃T oT ts,s'.heap.get? a=some (A0c C t dd (.ref T))/\T≠a/\(s.heap.get? T=none/\H' T=none)/\s'.heap.get? T=some oT/\oT.data= .fields ts/\ts[3]?=some .none
theorem C1b{P:Program}{w:World}{K:PySem.W.Frag}{mg:Str ->Option Value}{base:Heap}{N:List Str}{qual:Str}{scope:Scope}{f:Addr}{cd:Value}{A:Around}{outer:List Env}{s:Shared}{H:Hp}{E:XK}:
   Y1 (A2p (CX1 P w) P w K mg base N qual scope f cd A outer s H E) (fun C dd _ H'=>E C dd H'):=by
 intro pins σ H' s' a t C dd I F h
 refine B4z (X:=A2p (CX1 P w) P w K mg base N qual scope f cd A outer s H E) ⟨rfl,rfl,rfl⟩ I F fun s2 I2 F2=>?_
 obtain⟨na,T,oT,ts,e,ne,nT,eT,dT,h3⟩:=F2
 exact⟨a,t,C,dd,H',rfl,I2.os,I2.bare,I2.base,I2.hok,h,⟨na.old,na.un⟩,T,oT,ts,e,ne,⟨nT.old,nT.un⟩,eT,dT,h3⟩
section
variable{X:Cx}{k:Nat}{f C:Addr}{fd:FuncData}{ps:List Str}{sp:Sp}{dvs:List V}{ds:List Value}{EH:EK}{x m:Str}{p pos apos:Pos}{e o:Expr}{es:List Expr}{ta:TE}{t:TA}
theorem G4s{pins:List (Addr×Obj)}{σ:St}{H:Hp}{s:Shared}{e:Value}{s':Shared}(hx:Y1 X EH)(hex:X.ex=[])(I:Inv X pins σ H s)
   (h:CX1 X.prog X.w X.stack H s (fun C d H'=>EH C d σ H') e s'):X.xe e s':=by
 obtain⟨a,t,C,dd,H',rfl,os,bare,un,hok,hE,⟨a1,a2⟩,T,oT,ts,z,ne,⟨t1,t2⟩,eT,dT,h3⟩:=h
 have I':Inv X pins σ H' s':=I.call' (ch:=[]) os un hok bare (fun b q=>absurd q (by simp))
 exact hx pins σ H' s' a t C dd I' (B3q.flt ⟨I.nw hex a1 a2,T,oT,ts,z,ne,I.nw hex t1 t2,eT,dT,h3⟩) hE
theorem B0f{pins:List (Addr×Obj)}{σ:St}{H:Hp}{s:Shared}{Q:VK}{us:List Value}{vs:List V}(F:G6 X.prog X.w X.K X.mg X.base (CX1 X.prog X.w) k f fd ps sp)(hr:A0r k X.A)(hb:Y6 X.K fd ps ds)(hd:G7 dvs ds)
   (hx:Y1 X EH) (hex:X.ex=[]) (I:Inv X pins σ H s) (r:G7 vs us) (h:sp (vs++dvs) H Q (fun C d H'=>EH C d σ H')):wpAny (model X.prog X.w) X.A (call (.ref f) us) (EP X pins σ Q) X.xe s:=by
 have r2:G7 (vs++dvs) (us++ds):=r.append hd
 have hl:(us++ds).length=ps.length:=by rw[<-r2.length];exact F.len _ _ _ _ h
 refine wpAny_call (codeAny_mono (F.run X.A X.stack s H ⟨us,[]⟩ (us++ds) (vs++dvs) Q _ hr I.env0 (hb s us I.kIn hl) r2 h) fun r s' hq=>?_)
 cases r with
 |error e=>exact G4s hx hex I hq
 | ok fl=>
   cases fl with
   |ret u=>exact I.after hq
   |next=>exact False.elim hq
   |brk=>exact False.elim hq
   |cont=>exact False.elim hq
def A2v (sp:Sp) (dvs:List V) (EH:EK) (t:TA):TE:=fun σ H Q=>t σ H fun vs H1=>sp (vs++dvs) H1 Q (fun C d H'=>EH C d σ H')
theorem D0m(F:G6 X.prog X.w X.K X.mg X.base (CX1 X.prog X.w) k f fd ps sp)(hr:A0r k X.A)(hg:Gl X x)(hm:X.mg x=some (.ref f))(hk:PySem.W.keepIn X.K (.ref f)=true)(hb:Y6 X.K fd ps ds)(hd:G7 dvs ds)
   (hx:Y1 X EH) (ha:PA X (e::es) t) (hex:X.ex=[]:=by rfl) (hdb:(x==("__debug__":Str))=false:=by decide) (he:starEach (e::es) X.env=(false,eval e X.env)::starEach es X.env:=by rfl)
   (hpl:(backTo pos (starEach es X.env)).any (·.1)=false:=by rfl):PE X (.Call (.Name x p) (e::es) [] pos) (A2v sp dvs EH t):=by
 intro pins s σ H Q I h
 refine wpAny_Call_Name_kw (Z9 I hg hm ?_ hdb)
 refine PySem.W.callWith_K (h₀:=X.base) I.ok.mod.kin hk (thn (ha pos pins s σ H _ I h) fun us s1 ⟨vs,H1,I1,r,q⟩=>⟨I1.kIn,?_⟩) he hpl
 exact B0f F hr hb hd hx hex I1 r q
theorem C7p(F:G6 X.prog X.w X.K X.mg X.base (CX1 X.prog X.w) k f fd ps sp)(hr:A0r k X.A)(hg:Gl X x)(hm:X.mg x=some (.ref f))(hk:PySem.W.keepIn X.K (.ref f)=true)(hb:Y6 X.K fd ps ds)(hd:G7 dvs ds)
   (hx:Y1 X EH) (hex:X.ex=[]:=by rfl) (hdb:(x==("__debug__":Str))=false:=by decide):PE X (.Call (.Name x p) [] [] pos) (A2v sp dvs EH B6y):=by
 intro pins s σ H Q I h
 refine wpAny_Call_Name_kw (Z9 I hg hm ?_ hdb)
 exact PySem.W.callWith_K0 I.kIn hk (B0f (us:=[]) F hr hb hd hx hex I .nil h)
end
section
variable{P:Program}{w:World}{K:PySem.W.Frag}{mg:Str ->Option Value}{base:Heap}
theorem Fun.okE{x qual:Str}{st:Stmt}{f:Addr}{fd:FuncData}{N ps:List Str}{k:Nat}{sp:Sp}(F:Fun K x qual st f fd)(S:B8 N ps (A6 st))(len:∀vs H Q E,sp vs H Q E ->vs.length=ps.length)
   (hbody:∀(X:Cx) (cdv:Value) (A:Around) (outer:List Env) (s:Shared) (H:Hp) (vs:List V) (Q:VK) (E:XK),X=A2p (CX1 P w) P w K mg base N qual (A6 st) f cdv A outer s H E ->A0r k X.A ->Y1 X (fun C dd _ H'=>E C dd H') ->sp vs H Q E ->
     ∃t,PSs (A2p (CX1 P w) P w K mg base N qual (A6 st) f cdv A outer s H E) (U2 st) t/\t {nx:=fun _ H'=>Q .non H',rt:=Q} (A1t N vs) H):G6 P w K mg base (CX1 P w) (k+1) f fd ps sp:=by
 obtain⟨oc,od,kV,doc,pm,an,cdv,ct,osl,rfl,lk,hc⟩:=F.ex
 exact G2x lk hc S len fun A outer s H vs Q E hr h=>hbody _ cdv A outer s H vs Q E rfl hr C1b h
theorem G6.up{k:Nat}{f:Addr}{fd:FuncData}{ps:List Str}{sp:Sp}(F:G6 P w K mg base CX0 k f fd ps sp):G6 P w K mg base (CX1 P w) k f fd ps sp:=by
 refine⟨F.len,fun A outer s H args us vs Q E hr e0 hb r h=>codeAny_mono (F.run A outer s H args us vs Q E hr e0 hb r h) fun r s' q=>?_⟩
 cases r with
 |error e=>exact False.elim q
 |ok fl=>cases fl<;>exact q
end
end L2
namespace L2
open PySem PySem.Spec PyProof.Rows PySem.W
theorem D8t{K:Frag}{h:Heap}{C:Addr}{bmB:List Value}{newId:String}(X:K.In h)(q:excIn K C bmB newId=true):
   ∃ (bm:List Value) (N:Addr) (nm qn:Str) (bs:List Value) (hd:Bool) (sn:List Str) (sub:List Value) (ab:Bool) (col:Option Bool) (dd:Option Addr) (k0 k1 k2 k3 k5:Option Value) (mN:Str ->Option Value),
     h.get? C=some (excClassObj nm qn C N bs bm hd sn sub ab col dd k0 k1 k2 k3 k5 newId)/\h.Ns N mN/\mN "__init__"=none/\OwnTail h bmB bm:=by
 unfold excIn at q
 split at q
 . rename_i dd cd sl ho
   split at q
   . rename_i C' bm k0 k1 k2 k3 n k5 hm hs
     simp only[Bool.and_eq_true,beq_iff_eq,Bool.not_eq_true'] at q
     obtain⟨⟨⟨⟨⟨r1,r2⟩,r3⟩,r4⟩,r5⟩,r6⟩:=q
     subst r1 r2
     obtain⟨a1,a2,a3,a4,a5,a6,a7,a8,a9,a10,a11⟩:=cd
     dsimp only at hm r3 r5 r6
     subst hm r3
     have hsl:sl= #[k0,k1,k2,k3,some (.builtin n),k5]:=by
       obtain⟨l⟩:=sl
       simp only at hs
       rw[hs]
     subst hsl
     exact⟨bm,a4,a1,a5,a2,a6,a7,a8,a9,a10,dd,k0,k1,k2,k3,k5,_,X _ _ ho,.of_isNs (isNs_of_in X r5),nsMap_none_of_in X r5 r6,tail_of_in X r4⟩
   . cases q
 cases q
section
variable{X:Cx}{x:Str}{p cpos pos:Pos}{e:Expr}{es:List Expr}{t:TA}{C:Addr}{bmB:List Value}{B newId initId:String}{EH:EK}
def D0g (C:Addr) (EH:EK) (t:TA):TS:=fun _ σ H=>t σ H fun vs H1=>vs.length<=sizeLine/\EH (.ref C) none σ H1
theorem D2p(hg:Gl X x)(hm:X.mg x=some (.ref C))(q:excIn X.K C bmB newId=true)(FB:ExcBaseFacts B newId initId bmB)(hh:X.A.handled=none)(hx:Y1 X EH)(ha:PA X (e::es) t)(hex:X.ex=[]:=by rfl)
   (hdb:(x==("__debug__":Str))=false:=by decide) (he:starEach (e::es) X.env=(false,eval e X.env)::starEach es X.env:=by rfl) (hpl:(backTo cpos (starEach es X.env)).any (·.1)=false:=by rfl):
   PS X (.Raise (some (.Call (.Name x p) (e::es) [] cpos)) none pos) (D0g C EH t):=by
 intro pins s σ H D I h
 obtain⟨bm,N,nm,qn,bs,hd,sn,sub,ab,col,dd,k0,k1,k2,k3,k5,mN,hC,hN,hni,T⟩:=D8t I.ok.mod.kin q
 refine wpAny_Raise_call_subT (C:=C) (nm:=nm) (q:=qn) (N:=N) (bs:=bs) (bm:=bm) (hdct:=hd) (sn:=sn) (sub:=sub) (ab:=ab) (col:=col) (dd:=dd) (k0:=k0) (k1:=k1) (k2:=k2) (k3:=k3) (k5:=k5) FB (mN:=mN) (T.hasType FB.hasBase) hh
   (by rw[he];show(false||(backTo cpos (starEach es X.env)).any (·.1))=false;rw[hpl];rfl) hni (Z9 I hg hm ⟨rfl,?_⟩ hdb)
 have ha':=ha cpos pins s σ H _ I h
 rw[he] at ha' ⊢
 refine Calls.evalArgs_plain (wpAny_mono ha' (fun us s2 ⟨vs,H1,I1,r,z,q⟩=>⟨rfl,by rw[<-r.length];exact z,I1.bk _ _ hC,hN.keeps I1.bk,T.keeps I1.bk,fun h' a m=>?_⟩) fun _ _ y=>y)
 have I2:Inv X pins σ H1 {s2 with heap:=h'}:=I1.kept (t':=s2.toks) m.keeps
 obtain⟨t',e1,tn,e2⟩:=m.there
 exact hx pins σ H1 _ a t' (.ref C) none I2 ⟨I1.nw hex m.new (I1.hok.new m.new),.none,e1,.inl rfl,fun T z=>nomatch z⟩ q
end
section
variable{X:Cx}{pins:List (Addr×Obj)}{σ:St}{H:Hp}{s:Shared}
theorem Inv.track{a:Addr}{o:Obj}(I:Inv X pins σ H s)(n:Nw X pins H a)(e:s.heap.get? a=some o):Inv X pins σ (upd H a (.frz o (.own a))) s:=by
 have ne:∀b u,H b=some u ->b≠a:=fun b u z q=>by rw[q,n.un] at z;cases z
 have up:∀b,b≠a ->upd H a (.frz o (.own a)) b=H b:=fun b hb=>D0 hb
 refine⟨I.ok,I.os,I.bare,⟨I.base.keep,I.base.slot,fun b u z m hx=>?_,I.base.there,fun b xs z=>?_,fun b u v z=>?_,fun b ps z=>?_⟩,I.loc,I.cell,?_,fun x c z=>?_,fun p hp=>?_,fun b u z=>?_,I.len⟩
 . rw[up b fun q=>by rw[q,n.old] at z;cases z]
   exact I.base.free b u z m hx
 . have:=I.base.tups b xs z
   rw[up b (ne b _ this)];exact this
 . have:=I.base.frzs b u v z
   rw[up b (ne b _ this)];exact this
 . obtain⟨more,this⟩:=I.base.tbls b ps z
   exact⟨more,by rw[up b (ne b _ this)];exact this⟩
 . rw[up _ (Ne.symm n.loc)];exact I.free
 . rw[up _ (n.cell x c z)];exact I.freeC x c z
 . obtain⟨q1,q2,q3⟩:=I.pin p hp
   exact⟨q1,by rw[up _ (n.pin p hp)];exact q2,q3⟩
 by_cases hb:b=a
 . subst hb
   rw[A4] at z
   cases z
   exact⟨e,_,e⟩
 rw[up b hb] at z
 exact(I.hok b u z).stay (fun _ _ _ q=>q) (fun c q=>by rw[up c (ne c _ q)];exact q) (fun c xs q=>by rw[up c (ne c _ q)];exact q)
theorem B4p{M:Model}{A:Around}{E:Value ->Shared ->Prop}{i:Nat}{x:Str}{v:V}{Q:Unit ->Shared ->Prop}(I:Inv X pins σ H s)(hN:X.N.Nodup)(hi:X.N[i]?=some x)(hk:X.env.scope.names.lookup x=some .local)(hv:σ[i]?=some (some v))
   (k:∀s',Inv X pins (σ.set i none) H s' ->Q () s'):wpAny M A (unbindName X.env x) Q E s:=by
 obtain⟨m,hn,hl⟩:=id I.loc
 have hcls:(X.env.scope.kind== .class||(X.env.scope.kind== .module&&X.env.locals !=X.env.globals))=false:=by rw[I.ok.kind];rfl
 obtain⟨u,_,lk⟩:=hl i x v hi hv (.inl hk)
 have hm:m x=some u:=by
   rcases lk with⟨_,z⟩|⟨z,_⟩
   . exact z
   . have z:X.env.scope.names.lookup x=some .cell\/X.env.scope.names.lookup x=some .free:=z
     rw[hk] at z
     rcases z with z|z<;>cases z
 refine wpAny_unbindName_local hk hn hm hcls fun h' w' hn' hs=>k _ ?_
 obtain⟨oL,_,_,hoL,_⟩:=id hn
 have nl:∀b o,X.s₀.heap.get? b=some o ->b≠X.env.locals:=fun b o e=>Nat.ne_of_lt (Nat.lt_of_lt_of_le (Heap.lt_size e) I.ok.above)
 refine⟨I.ok,I.os,I.bare,⟨fun b o e n hb hx=>?_,fun b o e n hb hx=>?_,I.base.free,fun b o e hx=>?_,I.base.tups,I.base.frzs,I.base.tbls⟩,⟨_,hn',fun j y v' e1 e2 e3=>?_⟩,fun y c e=>?_,I.free,I.freeC,fun p hp=>?_,fun b u z=>?_,by simpa using I.len⟩
 . exact(hs.2 b (nl b o e)).trans (I.base.keep b o e n hb hx)
 . obtain⟨sl,e1⟩:=I.base.slot b o e n hb hx
   exact⟨sl,(hs.2 b (nl b o e)).trans e1⟩
 . obtain⟨o',e1⟩:=I.base.there b o e hx
   exact⟨o',(hs.2 b (nl b o e)).trans e1⟩
 . by_cases hj:j=i
   . subst hj
     have hlen:j<σ.length:=(List.getElem?_eq_some_iff.mp hv).1
     rw[List.getElem?_set_self hlen] at e2
     cases e2
   . rw[List.getElem?_set_ne (Ne.symm hj)] at e2
     obtain⟨u',r',q⟩:=hl j y v' e1 e2 e3
     refine⟨u',r',?_⟩
     rcases q with⟨k1,e⟩|⟨k1,c,e,z⟩
     . have:y≠x:=fun e=>hj (B1f hN e1 (e▸hi))
       exact .inl ⟨k1,by simp[this,e]⟩
     . exact .inr ⟨k1,c,e,z.sameBut hs (I.cne y c e)⟩
 . obtain⟨w2,z⟩:=I.cell y c e
   exact⟨w2,z.sameBut hs (I.cne y c e)⟩
 . obtain⟨e,n,ne,nf,d⟩:=I.pin p hp
   exact⟨(hs.2 p.1 ne).trans e,n,ne,nf,d⟩
 refine(I.hok b u z).stay (fun c w2 hc q=>(hs.2 c ?_).trans q) (fun _ q=>q) fun _ _ q=>q
 rintro rfl
 rcases hc with rfl|hc
 . rw[I.free] at z;cases z
 rw[I.free] at hc;cases hc
end
noncomputable abbrev Cx.hold (X:Cx) (pins:List (Addr×Obj)) (E:Value ->Shared ->Prop):Cx:={X with pn:=X.pn++pins,xe:=E}
noncomputable abbrev Cx.hnd (X:Cx) (pins:List (Addr×Obj)) (a:Addr):Cx:={X with A:=X.A.mark (some (.ref a)),calm:=false,pn:=X.pn++pins,xe:=fun _ _=>False}
section
variable{X:Cx}{pins pins':List (Addr×Obj)}{σ:St}{H:Hp}{s:Shared}{a:Addr}{E:Value ->Shared ->Prop}
theorem Inv.hold(I:Inv X pins σ H s):Inv (X.hold pins E) [] σ H s:=
 ⟨⟨I.ok.mod,I.ok.kind,I.ok.glob,I.ok.blt,I.ok.above,I.ok.inj,I.ok.has,I.ok.cab,I.ok.hd,I.ok.frames,I.ok.stk,I.ok.exf,I.ok.bs,I.ok.bsz,I.ok.noex,I.ok.exfs,I.ok.funs,I.ok.frf⟩,
   I.os,I.bare,I.base,I.loc,I.cell,I.free,I.freeC,fun p hp=>I.pin p (by simpa using hp),I.hok,I.len⟩
theorem Inv.unhold(I:Inv (X.hold pins E) pins' σ H s):Inv X pins σ H s:=
 ⟨⟨I.ok.mod,I.ok.kind,I.ok.glob,I.ok.blt,I.ok.above,I.ok.inj,I.ok.has,I.ok.cab,I.ok.hd,I.ok.frames,I.ok.stk,I.ok.exf,I.ok.bs,I.ok.bsz,I.ok.noex,I.ok.exfs,I.ok.funs,I.ok.frf⟩,
   I.os,I.bare,I.base,I.loc,I.cell,I.free,I.freeC,fun p hp=>I.pin p (List.mem_append_left _ hp),I.hok,I.len⟩
theorem Inv.hnd(I:Inv X pins σ H s):Inv (X.hnd pins a) [] σ H s:=
 ⟨⟨I.ok.mod,I.ok.kind,I.ok.glob,I.ok.blt,I.ok.above,I.ok.inj,I.ok.has,I.ok.cab,(fun z=>nomatch z),I.ok.frames,I.ok.stk,I.ok.exf,I.ok.bs,I.ok.bsz,I.ok.noex,I.ok.exfs,I.ok.funs,I.ok.frf⟩,
   I.os,I.bare,I.base,I.loc,I.cell,I.free,I.freeC,fun p hp=>I.pin p (by simpa using hp),I.hok,I.len⟩
theorem Inv.unhnd(ok:X.Ok)(I:Inv (X.hnd pins a) pins' σ H s):Inv X pins σ H s:=
 ⟨ok,I.os,I.bare,I.base,I.loc,I.cell,I.free,I.freeC,fun p hp=>I.pin p (List.mem_append_left _ hp),I.hok,I.len⟩
theorem Nw.unhold{b:Addr}(n:Nw (X.hold pins E) pins' H b):Nw X pins H b:=⟨n.un,n.loc,n.fs,n.old,n.cell,fun p hp=>n.pin p (List.mem_append_left _ hp)⟩
theorem Flt.unhold{t:Addr}{C:Value}{dd:Option Addr}(F:Flt (X.hold pins E) pins' H s a C t dd):Flt X pins H s a C t dd:=by
 obtain⟨n,tb,e,ok,m⟩:=F
 exact⟨n.unhold,tb,e,ok,fun T z=>(m T z).unhold⟩
theorem SP.unhold{D:B3t}{f:Flow}{s':Shared}(h:SP (X.hold pins E) pins' D f s'):SP X pins D f s':=by
 cases f with
 |next=>obtain⟨σ',H',I,q⟩:=h;exact⟨σ',H',I.unhold,q⟩
 |brk=>obtain⟨σ',H',I,q⟩:=h;exact⟨σ',H',I.unhold,q⟩
 |cont=>obtain⟨σ',H',I,q⟩:=h;exact⟨σ',H',I.unhold,q⟩
 |ret u=>obtain⟨v,σ',H',I,r,q⟩:=h;exact⟨v,σ',H',I.unhold,r,q⟩
end
structure B3u(K:Frag)(R:Addr):Prop where
 ty:typeIn K (.ref R)=some (.type "type")
 cl:(clsIn K R).isSome=true
 ex:subIn K (.ref R) (.type "BaseException")=some true
theorem A3r{K:Frag}{M:Model}{h:Heap}{R:Addr}(X:K.In h)(c:(clsIn K R).isSome=true):Looks M h (isType (.ref R)) true:=by
 unfold clsIn at c
 split at c
 . rename_i ho
   intro A' Q' E' s' k q
   unfold isType loadHead
   exact wpAny_bind (wpAny_loadPart (k _ _ (X _ _ ho)) (wpAny_pure q))
 cases c
theorem B4r{K:Frag}{M:Model}{A:Around}{E:Value ->Shared ->Prop}{s:Shared}{a R:Addr}{C:Value}{oa:Obj}{b:Bool}{Q:Bool ->Shared ->Prop}(X:K.In s.heap)(ha:s.heap.get? a=some oa)(hc:oa.cls=C)(c:B3u K R)
   (m:subIn K C (.ref R)=some b) (h:Q b s):wpAny M A (excMatches (.ref a) (.ref R)) Q E s:=by
 obtain⟨hp,g,d,tk,os⟩:=s
 have L1:Looks M hp (typeOf (.ref R)) (.type "type"):=looks_typeIn X c.ty
 have L2:Looks M hp (isSubtype (.ref R) (.type "BaseException")) true:=looks_subIn X c.ex
 have L3:Looks M hp (isSubtype C (.ref R)) b:=looks_subIn X m
 have L4:Looks M hp (typeOf (.ref a)) C:=hc▸(Looks.ld ha).andThen .now
 have L5:Looks M hp (isType (.ref R)) true:=A3r X c.cl
 unfold excMatches
 unfold isInstance
 refine wpAny_bind (wpAny_bind (L1.at ?_))
 rw[tc_notTuple]
 refine wpAny_pure ?_
 simp only[Bool.false_eq_true,if_false]
 refine wpAny_bind (wpAny_pure ?_)
 simp only[List.forIn_cons,List.forIn_nil]
 unfold isExcClass
 refine wpAny_bind (wpAny_bind (wpAny_bind (wpAny_bind (L5.at ?_))))
 simp only[if_true]
 refine L2.at ?_
 simp only[Bool.not_true,Bool.false_eq_true,if_false]
 refine wpAny_pure (wpAny_pure ?_)
 refine wpAny_bind (L4.at ?_)
 refine wpAny_bind (wpAny_bind (wpAny_bind (L3.at ?_)))
 cases b with
 |true=>simp only[if_true];exact wpAny_pure (wpAny_pure (wpAny_pure h))
 |false=>simp only[Bool.false_eq_true,if_false];exact wpAny_pure (wpAny_pure (wpAny_pure h))
def J4n (K:Frag) (R:Addr) (i:Nat) (tb:EK ->TS) (ts:Addr ->TS):TS:=fun D σ H=>
 tb (fun C dd σ' H'=>subIn K C (.ref R)=some true/\∀(a t T:Addr),H' a=none ->
   ts a {nx:=fun σ2 H2=>D.nx (σ2.set i none) H2,rt:=D.rt,bk:=fun σ2 H2=>D.bk (σ2.set i none) H2,ct:=fun σ2 H2=>D.ct (σ2.set i none) H2}
     (σ'.set i (some (.ref a))) (upd H' a (.frz (A0c C t dd (.ref T)) (.own a)))) D σ H
section
variable{X:Cx}{x n:Str}{np hpos pos:Pos}{R:Addr}{i:Nat}{body suite:List Stmt}{b₀:Stmt}{tb:EK ->TS}{ts:Addr ->TS}
theorem G5z(B:G2j X)(hg:Gl X x)(hm:X.mg x=some (.ref R))(c:B3u X.K R)(hN:X.N.Nodup)(hi:X.N[i]?=some n)(hk:X.env.scope.names.lookup n=some .local)
   (hb:∀pins Ew EHb,Y1 (X.hold pins Ew) EHb ->PSs (X.hold pins Ew) body (tb EHb)) (hs:∀pins a,PSs (X.hnd pins a) (b₀::suite) (ts a))
   (hdb:(x==("__debug__":Str))=false:=by decide) (hf:X.fn n=true\/X.env.scope.names.lookup n=some .local:=by first|exact .inl rfl|exact .inr rfl|assumption):
   PS X (.Try body [.ExceptHandler (some (.Name x np)) (some n) (b₀::suite) hpos] [] [] pos) (J4n X.K R i tb ts):=by
 intro pins s σ H D I h
 refine wpAny_Try_except ?_
 refine wpAny_mono (hb pins _ _ ?cat [] s σ H D I.hold h) (fun f s1 hf1=>?_) (fun e s1 he=>he)
 case cat=>
   intro pins' σ' H' s' a t C dd I' F' hE
   obtain⟨hsub,hE⟩:=hE
   show wpAny (model X.prog X.w) X.A (noteFrame (.ref a) X.env) _ X.xe s'
   have J:=I'.unhold
   have F:=F'.unhold
   refine B1d B J F fun s2 J2 F2=>A4r J2 F2 fun s3 J3 F3=>?_
   obtain⟨na,T,oT,ts',e3,ne3,nT3,eT3,dT3,h33⟩:=id F3
   refine wpAny_handleBy_cons (codeAny_handlers_test ?_) (by intro z;cases z)
   have K3:Inv (X.hnd pins a) [] σ' H' s3:=J3.hnd
   refine Z9 K3 hg hm ?_ hdb
   refine B4r J3.kIn e3 rfl c hsub ?_
   show codeAny _ _ _ _ _
   refine codeAny_handlers_suite_as ?_
   refine A4r J3 F3 fun s4 J4 F4=>?_
   obtain⟨na4,T4,oT4,ts4,e4,_⟩:=id F4
   have J5:=J4.track na4 e4
   refine A2g (v:= .ref a) J5 hN hi (.inl hk) rfl (fun s5 J6=>?_) hf
   refine wpAny_mono (hs pins a [] s5 _ _ _ J6.hnd (hE a t T4 na4.un)) (fun f s6 hf6=>?_) (fun _ _ z=>z.elim)
   have fin:∀{σ6:St} {H6:Hp} {Q6:Unit ->Shared ->Prop},Inv (X.hnd pins a) [] σ6 H6 s6 ->(∀s7,Inv X pins (σ6.set i none) H6 s7 ->Q6 () s7) ->
       wpAny (model X.prog X.w) X.A (do bindName X.env n .none;unbindBehindTheSuite X.env n hpos) Q6 X.xe s6:=by
     intro σ6 H6 Q6 K6 k6
     have L6:=K6.unhnd J6.ok
     refine wpAny_bind (wpAny_bindName (A2g (v:= .non) L6 hN hi (.inl hk) rfl (fun s7 J7=>?_) hf))
     unfold unbindBehindTheSuite
     have hlen:i<σ6.length:=by rw[L6.len];exact(List.getElem?_eq_some_iff.mp hi).1
     refine wpAny_onRaise (B4p J7 hN hi hk (List.getElem?_set_self hlen) fun s8 J8=>k6 s8 ?_)
     rw[List.set_set] at J8
     exact J8
   cases f with
   |next=>obtain⟨σ6,H6,K6,q⟩:=hf6;exact fin K6 fun s7 J7=>⟨_,_,J7,q⟩
   |brk=>obtain⟨σ6,H6,K6,q⟩:=hf6;exact fin K6 fun s7 J7=>⟨_,_,J7,q⟩
   |cont=>obtain⟨σ6,H6,K6,q⟩:=hf6;exact fin K6 fun s7 J7=>⟨_,_,J7,q⟩
   |ret u=>obtain⟨v,σ6,H6,K6,r,q⟩:=hf6;exact fin K6 fun s7 J7=>⟨v,_,_,J7,r,q⟩
 cases f with
 |next=>exact wpAny_execs_nil (SP.unhold hf1)
 |brk=>exact SP.unhold hf1
 |cont=>exact SP.unhold hf1
 |ret u=>exact SP.unhold hf1
end
structure B7x(K:Frag)(C:Addr):Prop where
 ga:findIn K (.ref C) "__getattribute__"=some (some (.builtin "BaseException.__getattribute__"))
 gh:findIn K (.ref C) "__getattr__"=some none
 ca:findIn K (.ref C) "__class__"=some (some (.builtin "object.__class__"))
 sn:specialIn K (.builtin "object.__class__") "__get__"=some (some (.builtin "getset_descriptor.__get__"))
 tk:takesIn K (.builtin "object.__class__")=some true
 ob:mroIn K C (.type "object")=some true
 be:subIn K (.ref C) (.type "BaseException")=some true
 cl:(clsIn K C).isSome=true
theorem A4t{prog:Program}{w:World}{A:Around}{E:Value ->Shared ->Prop}{s:Shared}{K:Frag}{a C:Addr}{oa:Obj}{od:Option Obj}{Q:Option Value ->Shared ->Prop}(F:B7x K C)(X:K.In s.heap)(I:PySem.W.InstAt s.heap a oa C od)
   (h:Q (some (.ref C)) {s with toks:=s.toks+1}):wpAny (model prog w) A (getAttr? (.ref a) "__class__") Q E s:=by
 obtain⟨hp,g,d,t,os⟩:=s
 have L0:=I.type (M:=model prog w)
 have L1:=looks_findIn (M:=model prog w) X F.ga
 have L2:=looks_findIn (M:=model prog w) X F.gh
 have L3:Looks (model prog w) hp (isInstance (.ref a) (.type "BaseException")) true:=L0.andThen (looks_subIn X F.be)
 have hf:findObj K C od "__class__"=some (.bind (.builtin "getset_descriptor.__get__") (.builtin "object.__class__")):=by
   obtain⟨cd,hc⟩:=Option.isSome_iff_exists.mp F.cl
   unfold findObj
   rw[hc,Option.bind_some,F.ca,Option.bind_some]
   simp[F.sn,F.tk]
 have L4:=looks_find (M:=model prog w) X I hf
 have hk:builtinKind "BaseException.__getattribute__"=some .slot:=by decide+kernel
 have hsplit:splitId "BaseException.__getattribute__"=some ("BaseException","__getattribute__"):=by decide+kernel
 have hargs:=PySem.F.args_bexc_ga (.ref a) (.str "__class__" t)
 have hb:=PySem.F.attr_ValueError.ga.bind (.ref a)
 unfold getAttr? getAttrBy? getAttrBy
 refine wpAny_bind (wpAny_mkText (wpAny_bind (wpAny_attempt (wpAny_holding (wpAny_bind (L0.at (wpAny_bind (L1.at ?_))))))))
 dsimp only
 rw[if_neg (show¬((onTheHeap (Value.ref C)&&Value.builtin "BaseException.__getattribute__"==Value.builtin "object.__getattribute__")=true) by
   rw[show(Value.builtin "BaseException.__getattribute__"==Value.builtin "object.__getattribute__")=false by decide+kernel,Bool.and_false];exact Bool.false_ne_true)]
 unfold getAttrByItsOwn
 refine wpAny_bind (m:=hookBefore (.ref C)) (L2.at ?_)
 refine wpAny_bind (wpAny_attempt (wpAny_holding ?_))
 unfold callGetattribute
 rw[if_neg (by decide)]
 unfold boundAndCalled
 rw[hb]
 refine wpAny_bind (wpAny_pure ?_)
 refine wpAny_call (codeAny_call_builtin PySem.F.attr_ValueError.ga.plain PySem.F.entry_bexc_ga ?_)
 have chk:∀{A':Around} {Q':Unit ->Shared ->Prop} {E':Value ->Shared ->Prop},Q' () ⟨hp,g,d,t+1,os⟩ ->wpAny (model prog w) A' (checkBuiltinCall "BaseException.__getattribute__" ⟨[.ref a,.str "__class__" t],[]⟩) Q' E' ⟨hp,g,d,t+1,os⟩:=by
   intro A' Q' E' hq
   simp only[checkBuiltinCall,hk,hsplit]
   refine wpAny_bind ?_
   refine L3.at ?_
   repeat (first|assumption|wp_step)
 refine chk ?_
 show wpAny _ _ (Builtin.«object.__getattribute__» ⟨[.ref a, .str "__class__" t], []⟩) _ _ _
 unfold Builtin.«object.__getattribute__»
 refine wpAny_bind (wpAny_pure ?_)
 refine wpAny_bind (wpAny_pure ?_)
 refine wpAny_bind (L0.at (wpAny_bind (L4.at ?_)))
 dsimp only
 show wpAny _ _ (holding [Value.builtin "object.__class__"] (call (.builtin "getset_descriptor.__get__") [.builtin "object.__class__",.ref a,.ref C])>>=ret) _ _ _
 refine wpAny_bind (wpAny_holding (wpAny_call (class_get (s:=⟨hp,g,d,t+1,os⟩) X I F.ob (wpAny_pure ?_))))
 exact handed_on rfl (wpAny_pure h)
def Y0 (X:Cx):Prop:=X.A.handled=none\/∃x o u vs,X.A.handled=some (.ref x)/\X.H₀ x=some (.frz o u)/\o.data= .fields vs/\vs[2]?=some .none
section
variable{X:Cx}{pins:List (Addr×Obj)}{σ:St}{H:Hp}{s:Shared}
theorem Inv.hdA(I:Inv X pins σ H s)(h:Y0 X):Hd X.A s.heap:=by
 rcases h with z|⟨x,o,u,vs,z,e,d,n⟩
 . exact .inl z
 exact .inr ⟨x,o,vs,z,(I.hok x _ (I.base.frzs x o u e)).1,d,n⟩
theorem Inv.hdB{it:Addr}(I:Inv X pins σ H s)(h:Y0 X)(hn:H it=none):∀h':Heap,Heap.ExtBut it s.heap h' ->Hd X.A h':=by
 intro h' k
 rcases h with z|⟨x,o,u,vs,z,e,d,n⟩
 . exact .inl z
 have q:=I.base.frzs x o u e
 exact .inr ⟨x,o,vs,z,k x o (fun w=>by rw[w,hn] at q;cases q) (I.hok x _ q).1,d,n⟩
end
structure D3s(P:Program)(w:World)(K:Frag)(tg:Expr)(J:It)(it:Addr)(tn:Nat ->Heap ->Prop):Prop where
 obj:∀i h,tn i h ->∃o,h.get? it=some o/\∀v,o.data≠ .cell v
 keep:∀i h h',tn i h ->(∀o,h.get? it=some o ->h'.get? it=some o) ->tn i h'
 item:∀(X:Cx),X.prog=P ->X.w=w ->X.K=K ->Y0 X ->∀(i:Nat) (pins:List (Addr×Obj)) (s:Shared) (σ:St) (H:Hp) (E:Value ->Shared ->Prop),Inv X pins σ H s ->A0t X pins H it ->tn i s.heap ->J.go i H ->
   wpAny (model P w) X.A (pyNext (.ref it)) (fun r s1=>∃u,r=some u/\
     wpAny (model P w) X.A (letOwnedTupleGo tg (.ref it) u) (fun _ s2=>∃x,Inv X pins σ H s2/\V4 x u/\J.yld i H x H/\tn (i+1) s2.heap) E s1) E s
 done:∀(X:Cx),X.prog=P ->X.w=w ->X.K=K ->Y0 X ->∀(i:Nat) (pins:List (Addr×Obj)) (s:Shared) (σ:St) (H:Hp) (E:Value ->Shared ->Prop),Inv X pins σ H s ->A0t X pins H it ->tn i s.heap ->J.stop i H ->
   wpAny (model P w) X.A (pyNext (.ref it)) (fun r s1=>r=none/\Inv X pins σ H s1) E s
 self:∀(A:Around) (i:Nat) (s:Shared) (Q:Value ->Shared ->Prop) (E:Value ->Shared ->Prop),tn i s.heap ->Q (.ref it) s ->wpAny (model P w) A (pyIter (.ref it)) Q E s
theorem C1g{P:Program}{w:World}{K:Frag}{tg:Expr}(a it:Addr):D3s P w K tg (Itl K a) it (fun i h=>h.IsListIter it a i) where
 obj:=fun i h ⟨o,e,c,d⟩=>⟨o,e,fun v z=>by rw[d] at z;cases z⟩
 keep:=fun i h h' st k=>st.at fun o e=>k o e
 item:=by
   intro X hP hw hK hc i pins s σ H E I hf st hg
   subst hP hw hK
   obtain⟨xs,x,hq,hx⟩:=hg
   obtain⟨its,rv,p,hz⟩:=I.list hq
   obtain⟨u,hu,ru⟩:=rv.get hx
   obtain⟨f0,f1,f2,f3,f4,f5⟩:=hf
   refine wpAny_pyNext_list_item st p.isList (x:=u) (by simpa using hu) fun h' st' sb=>?_
   have I1:Inv X pins σ H {s with heap:=h'}:=I.turned (t':=s.toks) (fun b o hb e=>(sb.2 b hb).trans e) f0 f1 f3 f4 f5
   obtain⟨o,e,c,d⟩:=id st'
   exact⟨u,rfl,C0n (s:={s with heap:=h'}) e c d (by decide) ⟨x,I1,ru,⟨rfl,fun ys hy=>by rw[I.list_inj hy hq];exact hx⟩,st'⟩⟩
 done:=by
   intro X hP hw hK hc i pins s σ H E I hf st hg
   subst hP hw hK
   obtain⟨xs,hq,hx⟩:=hg
   obtain⟨its,rv,p,hz⟩:=I.list hq
   obtain⟨f0,f1,f2,f3,f4,f5⟩:=hf
   have hl:=rv.length
   exact A3c (I.hdB hc f0) st p.isList (by simp;omega) fun h' eb=>⟨rfl,I.turned (t':=s.toks) (fun b o hb e=>eb b o hb e) f0 f1 f3 f4 f5⟩
 self:=fun _ _ _ _ _ st h=>wpAny_pyIter_listiter st h
theorem C7d{P:Program}{w:World}{K:Frag}{tg:Expr}(a it:Addr):D3s P w K tg (Itt K a) it (fun i h=>h.IsTupleIter it a i) where
 obj:=fun i h ⟨o,e,c,d⟩=>⟨o,e,fun v z=>by rw[d] at z;cases z⟩
 keep:=fun i h h' st k=>st.at fun o e=>k o e
 item:=by
   intro X hP hw hK hc i pins s σ H E I hf st hg
   subst hP hw hK
   obtain⟨xs,x,hq,hx⟩:=hg
   obtain⟨its,rv,p,hz⟩:=I.tuple hq
   obtain⟨u,hu,ru⟩:=rv.get hx
   obtain⟨f0,f1,f2,f3,f4,f5⟩:=hf
   refine wpAny_pyNext_tuple_item st (show s.heap.IsTuple a its.toArray from p) (x:=u) (by simpa using hu) fun h' st' sb=>?_
   have I1:Inv X pins σ H {s with heap:=h'}:=I.turned (t':=s.toks) (fun b o hb e=>(sb.2 b hb).trans e) f0 f1 f3 f4 f5
   obtain⟨o,e,c,d⟩:=id st'
   exact⟨u,rfl,C0n (s:={s with heap:=h'}) e c d (by decide) ⟨x,I1,ru,⟨rfl,fun ys hy=>by rw[I.tuple_inj hy hq];exact hx⟩,st'⟩⟩
 done:=by
   intro X hP hw hK hc i pins s σ H E I hf st hg
   subst hP hw hK
   obtain⟨xs,hq,hx⟩:=hg
   obtain⟨its,rv,p,hz⟩:=I.tuple hq
   obtain⟨f0,f1,f2,f3,f4,f5⟩:=hf
   have hl:=rv.length
   exact A1x (I.hdB hc f0) st p (by simp;omega) fun h' eb=>⟨rfl,I.turned (t':=s.toks) (fun b o hb e=>eb b o hb e) f0 f1 f3 f4 f5⟩
 self:=fun _ _ _ _ _ st h=>wpAny_pyIter_tupleiter st h
def PIH (X:Cx) (tg iter:Expr) (wi:TI):Prop:=
 ∀ (pins:List (Addr×Obj)) (s:Shared) (σ:St) (H:Hp) (R:It ->Hp ->Prop),Inv X pins σ H s ->wi σ H R ->
   wpAny (model X.prog X.w) X.A (eval iter X.env) (fun v s1=>wpAny (model X.prog X.w) X.A (pyIter v) (fun itv s2=>∃(it:Addr) (tn:Nat ->Heap ->Prop) (J:It) (H':Hp),itv= .ref it/\Inv X pins σ H' s2/\D3s X.prog X.w X.K tg J it tn/\tn 0 s2.heap/\
     A0t X pins H' it/\R J H') X.xe s1) X.xe s
section
variable{X:Cx}{tg:Expr}
theorem A6v{l:Expr}{tl:TE}(hl:PE X l tl):PIH X tg l (G2t X.K tl):=by
 intro pins s σ H R I h
 refine thn (hl pins s σ H _ I h) fun v s1 hh_=>?_
 obtain⟨x,H1,I1,r1,q1⟩:=hh_
 obtain⟨a,e,⟨xs,hq⟩,q⟩:=q1
 subst e
 cases r1
 obtain⟨its,rv,p,hz⟩:=I1.list hq
 exact wpAny_pyIter_list p.isList ⟨s1.heap.objs.size,_,_,H1,rfl,I1.kept (t':=s1.toks) fun b o e=>Heap.get?_push_of_some _ e,C1g a _,⟨_,Heap.get?_push_size _ rfl,rfl,rfl⟩,I1.fpOk (Nat.le_refl _) (I1.hok.fresh (Nat.le_refl _)),q⟩
theorem B0y{l:Expr}{tl:TE}(hl:PE X l tl):PIH X tg l (G5e X.K tl):=by
 intro pins s σ H R I h
 refine thn (hl pins s σ H _ I h) fun v s1 hh_=>?_
 obtain⟨x,H1,I1,r1,q1⟩:=hh_
 obtain⟨a,e,⟨xs,hq⟩,q⟩:=q1
 subst e
 cases r1
 obtain⟨its,rv,p,hz⟩:=I1.tuple hq
 exact wpAny_pyIter_tuple (show s1.heap.IsTuple a its.toArray from p) ⟨s1.heap.objs.size,_,_,H1,rfl,I1.kept (t':=s1.toks) fun b o e=>Heap.get?_push_of_some _ e,C7d a _,⟨_,Heap.get?_push_size _ rfl,rfl,rfl⟩,I1.fpOk (Nat.le_refl _) (I1.hok.fresh (Nat.le_refl _)),q⟩
theorem G2c{es:List Expr}{k:Nat}{t:TGs}{n:Nat}{pos:Pos}(hc:Y0 X)(h:PGs X es t)(hn:(assignEach es X.env).length=n:=by rfl)(hst:(assignEach es X.env).findIdx? (·.1)=none:=by rfl):PG X (.Tuple es k pos) (G3x X.K n t):=by
 intro pins s σ H v u Q I r q
 obtain⟨a,xs,ev,hq,hl,q⟩:=q
 subst ev
 cases r
 obtain⟨its,rv,p,hz⟩:=I.tuple hq
 rw[assign_Tuple]
 refine wpAny_bind (wpAny_standAt (C7g (I.hdA hc) p (by rw[hn, <-hl,rv.length];simp) hst fun h' hx=>?_))
 have I1:Inv X pins σ H {s with heap:=h'}:=I.kept (t':=s.toks) fun b o e=>hx b o (Nat.ne_of_lt (Heap.lt_size e)) e
 exact thn (h pins _ σ H xs its Q I1 rv q) fun _ s' z=>z
theorem B7s{K:Frag}{es:List Expr}{k:Nat}{t:TGs}{n:Nat}{pos:Pos}(hK:X.K=K)(hc:Y0 X)(h:PGs X es t)(hn:(assignEach es X.env).length=n:=by rfl)(hst:(assignEach es X.env).findIdx? (·.1)=none:=by rfl):PG X (.Tuple es k pos) (G3x K n t):=by
 subst hK
 exact G2c hc h hn hst
end
noncomputable abbrev Cx.comp (X:Cx) (scope:Scope) (N:List Str) (C:Addr) (s₀:Shared) (H₀:Hp) (ex:List Addr) (pins:List (Addr×Obj)):Cx:=
 {X with N:=N,s₀:=s₀,H₀:=H₀,env:=compEnv scope C X.env,outer:=X.stack,ex:=ex,fn:=fun _=>false,pn:=pins,xe:=fun _ _=>False}
structure A9c(N:List Str)(sc:Scope):Prop where
 kind:sc.kind= .function
 free:∀y∈sc.names,y.2≠ .free
 cell:∀y∈sc.names,y.2≠ .cell
 loc:∀y∈sc.names,y.2= .local ->sc.names.lookup y.1=some .local
 nd:N.Nodup
def D1z (n:Nat) (wi:TI) (g:TG) (te:TE):TE:=fun σ H Q=>wi σ H fun J H1=>∀D,H1 D=none ->
 ∃ (m:Nat) (W:Nat ->List V ->Hp ->Prop),W 0 [] (upd H1 D (.lst []))/\∀i ys H2,W i ys H2 ->i<=m/\H2 D=some (.lst ys)/\((J.stop i H2/\Q (.ref D) H2)\/(i<m/\J.go i H2/\∀x H3,J.yld i H2 x H3 ->
   g x (List.replicate n none) H3 fun σ4 H4=>te σ4 H4 fun y H6=>H6 D=some (.lst ys)/\ys.length<sizeLine/\W (i+1) (ys++ [y]) (upd H6 D (.lst (ys++ [y])))))
theorem B1n{prog:Program}{w:World}{A:Around}{s:Shared}{elt target iter:Expr}{scope:Scope}{pos:Pos}{it acc:Value}{env:Env}{R:Result ->Shared ->Prop}(I:Nat ->Shared ->Prop)
   (turn :∀n s,I n s ->wpAny (model prog w) A (pyNext it) (fun r s₁=>match r with
     |none=>R (.ok .next) s₁
     |some v=>wpAny (model prog w) A (letOwnedTupleGo target it v) (fun _ s₀=>wpAny (model prog w) A (assign target env v) (fun _ s₂=>wpAny (model prog w) A (eval elt env) (fun x s₄=>
         wpAny (model prog w) A (call (.builtin "list.append") [acc,x]) (fun _ s₅=>∃m,m<n/\I m s₅) (notedBy (model prog w) A env fun e s'=>R (.error e) s') s₄) (notedBy (model prog w) A env fun e s'=>R (.error e) s') s₂)
         (notedBy (model prog w) A env fun e s'=>R (.error e) s') s₀) (notedBy (model prog w) A env fun e s'=>R (.error e) s') s₁) (notedBy (model prog w) A env fun e s'=>R (.error e) s') s)
   (n:Nat) (h:I n s):codeAny (model prog w) A (.compLoop (.ListComp elt [⟨target,iter,[],0⟩] scope pos) 0 it acc env) R s:=by
 refine codeAny_loop rfl I (fun n s hI=>?_) n h
 show wpAny _ A ((compTurn (.ListComp elt [⟨target,iter,[],0⟩] scope pos) 0 it acc env).onRaise (fun x=>do noteFrame x env;theTreesLotGoes x)) _ _ s
 refine wpAny_noted ?_;rw[compTurn_list1]
 refine wpAny_bind (wpAny_standAt (wpAny_bind (wpAny_mono (turn n s hI) (fun r s₁ h₁=>?_) fun _ _ z=>z)))
 cases r with
 |none=>exact wpAny_pure h₁
 | some v=>
   refine wpAny_bind (wpAny_mono h₁ (fun _ s₀ q₀=>?_) fun _ _ z=>z)
   refine wpAny_bind (wpAny_mono q₀ (fun _ s₂ q₂=>?_) fun _ _ z=>z)
   exact wpAny_bind (wpAny_bind (wpAny_mono q₂ (fun x s₄ q₄=>wpAny_bind (wpAny_mono q₄ (fun _ s₅ q₅=>wpAny_pure (wpAny_pure ⟨rfl,q₅⟩)) fun _ _ z=>z)) fun _ _ z=>z))
section
variable{X:Cx}
theorem D0r{pins:List (Addr×Obj)}{σ:St}{H:Hp}{s:Shared}{scope:Scope}{N:List Str}{it:Addr}{h':Heap}(S:A9c N scope)(I:Inv X pins σ H s)(hf:A0t X pins H it)(hit:∃o,s.heap.get? it=some o)(hnb:X.base.get? it=none)
   (hns:h'.Ns s.heap.objs.size (fun _=>none)) (hsb:∀b o,s.heap.get? b=some o ->h'.get? b=some o) {tk:Nat}:
   Inv (X.comp scope N s.heap.objs.size s H [it] (X.pn++pins)) [] (List.replicate N.length none) H {s with heap:=h',toks:=tk}:=by
 obtain⟨f0,f1,f2,f3,f4,f5⟩:=hf
 obtain⟨oi,ei⟩:=hit
 have lt:it<s.heap.objs.size:=Heap.lt_size ei
 have nc:∀x c,(compEnv scope s.heap.objs.size X.env).cells.lookup x=some c ->False:=fun x c z=>by cases z
 have nk:∀x,¬((compEnv scope s.heap.objs.size X.env).kindOf x=some .cell\/(compEnv scope s.heap.objs.size X.env).kindOf x=some .free):=by
   intro x z
   have z:scope.names.lookup x=some .cell\/scope.names.lookup x=some .free:=z
   rcases z with z|z
   . exact S.cell _ (PySem.mem_of_lookup z) rfl
   . exact S.free _ (PySem.mem_of_lookup z) rfl
 refine⟨⟨I.ok.mod,S.kind,I.ok.glob,I.ok.blt,Nat.le_refl _,fun x y c z=>(nc x c z).elim,fun x z=>(nk x z).elim,fun x c _ z=>(nc x c z).elim,I.ok.hd,I.ok.frames,.inl rfl,fun b hb=>?_,I.bs,Nat.le_trans I.ok.bsz I.sz,fun b o e hb=>?_,fun b hb hfs=>?_,I.stack,I.stkFree⟩,
   rfl,I.bare,Un.kept hsb,⟨_,hns,fun i x v e1 e2 e3=>?_⟩,fun x c z=>(nc x c z).elim,I.hok.fresh (Nat.le_refl _),fun x c z=>(nc x c z).elim,fun p hp=>?_,I.hok.kept hsb,by simp⟩
 . have e:b=it:=by simpa using hb
   subst e
   exact⟨Nat.ne_of_lt lt,fun x c z=>(nc x c z).elim⟩
 . have e':b=it:=by simpa using hb
   subst e'
   rw[hnb] at e
   cases e
 . have e':b=it:=by simpa using hb
   subst e'
   rcases List.mem_cons.mp (I.stkSub b hfs) with z|z
   . exact f1 z
   . exact f2 z
 . rw[List.getElem?_replicate] at e2
   split at e2<;>cases e2
 have hp':p∈X.pn++pins:=by simpa using hp
 obtain⟨q1,q2,q3,q4,q5⟩:=I.pin p hp'
 refine⟨hsb _ _ q1,q2,Nat.ne_of_lt (Heap.lt_size q1),fun z=>?_,q5⟩
 rcases List.mem_cons.mp (I.stkSub p.1 z) with z|z
 . exact q3 z
 exact q4 z
theorem C2t{elt target iter:Expr}{scope:Scope}{pos:Pos}{N:List Str}{wi:TI}{g:TG}{te:TE}(S:A9c N scope)(hd:Y0 X)(hi:PIH X target iter wi)(hex:X.ex=[])
   (hg:∀C s₀ H₀ ex pn,Y0 (X.comp scope N C s₀ H₀ ex pn) ->PG (X.comp scope N C s₀ H₀ ex pn) target g)
   (he:∀C s₀ H₀ ex pn,Y0 (X.comp scope N C s₀ H₀ ex pn) ->PE (X.comp scope N C s₀ H₀ ex pn) elt te)
   {pins:List (Addr×Obj)} {s:Shared} {σ:St} {H:Hp} {Q:VK} {RR:Value ->Env ->Result ->Shared ->Prop} (I:Inv X pins σ H s) (h:(D1z N.length wi g te) σ H Q)
   (hRR:∀(D C:Addr) (s6:Shared) (H5:Hp) (mm:Str ->Option Value),Inv X pins σ H5 s6 ->s6.heap.Ns C mm ->A0t X pins H5 C ->Q (.ref D) H5 ->RR (.ref D) (compEnv scope C X.env) (.ok .next) s6):
   wpAny (model X.prog X.w) X.A (eval iter X.env) (fun v s1=>wpAny (model X.prog X.w) X.A (pyIter v) (fun itv s2=>wpAny (model X.prog X.w) X.A (newList []) (fun acc s3=>wpAny (model X.prog X.w) X.A (newFunctionEnv scope X.env.globals [] [] X.env.qual none .none (some X.env)) (fun cenv s4=>
     codeAny (model X.prog X.w) X.A (.compStart (.ListComp elt [⟨target,iter,[],0⟩] scope pos) 0 itv acc {cenv with scope:=scope}) (RR acc {cenv with scope:=scope}) s4) X.xe s3) X.xe s2) X.xe s1) X.xe s:=by
 refine thn (hi pins s σ H _ I h) fun v s1 h1=>thn h1 fun itv s2 h2=>?_
 obtain⟨it,tn,J,H2,rfl,I2,T,st2,f2,R⟩:=h2
 obtain⟨oi,ei,di⟩:=T.obj _ _ st2
 have hf2:=I2.hok.fresh (Nat.le_refl _)
 refine wpAny_newObj_type ?_
 have I3:Inv X pins σ (upd H2 s2.heap.objs.size (.lst [])) {s2 with heap:=s2.heap.push {cls:= .type "list",dict:=none,data:= .seq ([]:List Value).toArray}}:=Inv.lnew (t':=s2.toks) I2 .nil (Nat.zero_le _)
 refine wpAny_newFunctionEnv S.cell (by intro y hy;simp at hy) (fun h4 hns hsb=>?_) S.kind
 dsimp only at hns hsb ⊢
 generalize hG:s2.heap.push {cls:= .type "list",dict:=none,data:= .seq ([]:List Value).toArray}=G at I3 hns hsb ⊢
 generalize hD:s2.heap.objs.size=D at I3 hf2
 have nD:it≠D:=by rw[<-hD];exact Nat.ne_of_lt (Heap.lt_size ei)
 have eiG:G.get? it=some oi:=by rw[<-hG];exact Heap.get?_push_of_some _ ei
 have kp:∀b o,G.get? b=some o ->h4.get? b=some o:=fun b o e=>hsb.extBut b o (Nat.ne_of_lt (Heap.lt_size e)) (Heap.get?_push_of_some _ e)
 have f3:A0t X pins (upd H2 D (.lst [])) it:=⟨by rw[D0 nD];exact f2.1,f2.2⟩
 have nb:X.base.get? it=none:=by
   cases q:X.base.get? it with
   |none=>rfl
   | some o=>
     have:=(I.ok.bs it o q).1
     rcases f2.2.2.2.1 with z|z
     . rw[hex] at z;simp at z
     . exact absurd (Nat.lt_of_lt_of_le (Heap.lt_size this) z) (Nat.lt_irrefl _)
 have hns':h4.Ns G.objs.size (fun _=>none):=by
   obtain⟨o,es,ep,q1,q2,q3,q4⟩:=hns
   exact⟨o,es,ep,q1,q2,q3,fun x=>by rw[q4];rfl⟩
 have I4:=D0r (tk:=s2.toks+([]:List (Str×Value)).length) S I3 f3 ⟨oi,eiG⟩ nb hns' kp
 have hdc:Y0 (X.comp scope N G.objs.size {s2 with heap:=G} (upd H2 D (.lst [])) [it] (X.pn++pins)):=by
   rcases hd with z|⟨x,o,u,vs,z,e,d,n⟩
   . exact .inl z
   . refine .inr ⟨x,o,u,vs,z,?_,d,n⟩
     have q:=I2.base.frzs x o u e
     show upd H2 D (.lst []) x=_
     rw[D0 fun w=>by rw[w,hf2] at q;cases q]
     exact q
 obtain⟨m,W,w0,turn⟩:=R D hf2
 have gg:=hg _ _ _ _ _ hdc
 have ee:=he _ _ _ _ _ hdc
 have fpc:∀{H':Hp} {σ':St} {s':Shared} {pl:List (Addr×Obj)},Inv (X.comp scope N G.objs.size {s2 with heap:=G} (upd H2 D (.lst [])) [it] (X.pn++pins)) pl σ' H' s' ->H' it=none ->(∀p∈pl,p.1≠it) ->A0t (X.comp scope N G.objs.size {s2 with heap:=G} (upd H2 D (.lst [])) [it] (X.pn++pins)) pl H' it:=by
   intro H' σ' s' pl J' hn hp
   refine⟨hn,Nat.ne_of_lt (Heap.lt_size eiG),?_,.inl (List.mem_singleton.mpr rfl),(fun x c z=>nomatch z),fun p hpp=>?_⟩
   . intro z
     rcases List.mem_cons.mp (I.stkSub it z) with z|z
     . exact f2.2.1 z
     . exact f2.2.2.1 z
   . rcases List.mem_append.mp hpp with z|z
     . exact f2.2.2.2.2.2 p z
     . exact hp p z
 have loop:codeAny (model X.prog X.w) X.A (.compLoop (.ListComp elt [⟨target,iter,[],0⟩] scope pos) 0 (.ref it) (.ref D) (compEnv scope G.objs.size X.env))
     (RR (.ref D) (compEnv scope G.objs.size X.env))
     {s2 with heap:=h4,toks:=s2.toks+([]:List (Str×Value)).length}:=by
   refine B1n (fun k s'=>∃i ys H',k=m+1-i/\Inv (X.comp scope N G.objs.size {s2 with heap:=G} (upd H2 D (.lst [])) [it] (X.pn++pins)) [] (List.replicate N.length none) H' s'/\tn i s'.heap/\H' it=none/\W i ys H') ?_ (m+1)
     ⟨0,[],_,rfl,I4,T.keep _ _ _ st2 fun o e=>kp it o (by rw[<-hG];exact Heap.get?_push_of_some _ e),f3.1,w0⟩
   rintro k s5 ⟨i,ys,H5,rfl,I5,st5,n5,w5⟩
   obtain⟨hi5,hD5,w5⟩:=turn i ys H5 w5
   rcases w5 with⟨stop,q⟩|⟨lt5,go,step⟩
   . refine wpAny_mono (T.done (X.comp scope N G.objs.size {s2 with heap:=G} (upd H2 D (.lst [])) [it] (X.pn++pins)) rfl rfl rfl hdc i [] s5 _ H5 (fun _ _=>False) I5 (fpc I5 n5 (by simp)) st5 stop) (fun r s6 z=>?_) (fun _ _ z=>z.elim)
     obtain⟨rfl,I6⟩:=z
     obtain⟨mm,hn6,_⟩:=I6.loc
     have B6:=I6.base
     have J6:Inv X pins σ H5 s6:=by
       refine I3.call' (ch:=[it]) I6.os ⟨B6.keep,B6.slot,B6.free,B6.there,B6.tups,B6.frzs,B6.tbls⟩ I6.hok I6.bare (fun b hb=>?_)
       have e:b=it:=by simpa using hb
       subst e
       exact⟨f2.2.2.2.1,f2.2.1,f2.2.2.2.2.1,f2.2.2.2.2.2⟩
     have szG:X.s₀.heap.objs.size<=G.objs.size:=I3.sz
     refine hRR D G.objs.size s6 H5 mm J6 hn6 ⟨I6.free,?_,?_,.inr szG,?_,?_⟩ q
     . exact Nat.ne_of_gt I3.lt
     . intro z
       obtain⟨_,o,ho,_⟩:=I3.funs.mem z
       exact Nat.lt_irrefl _ (Heap.lt_size ho)
     . rintro x c z rfl
       obtain⟨v',o,ho,_⟩:=I3.cell x _ z
       exact Nat.lt_irrefl _ (Heap.lt_size ho)
     . rintro p hp z
       have zz:=(I3.pin p hp).1
       rw[z] at zz
       exact Nat.lt_irrefl _ (Heap.lt_size zz)
   . refine wpAny_mono (T.item (X.comp scope N G.objs.size {s2 with heap:=G} (upd H2 D (.lst [])) [it] (X.pn++pins)) rfl rfl rfl hdc i [] s5 _ H5 (fun _ _=>False) I5 (fpc I5 n5 (by simp)) st5 go) (fun r s6 z=>?_) (fun _ _ z=>z.elim)
     obtain⟨u,rfl,z⟩:=z
     refine wpAny_mono z (fun _ s7 z=>?_) (fun _ _ z=>z.elim)
     obtain⟨x,I7,rx,yl,st7⟩:=z
     obtain⟨o7,e7,d7⟩:=T.obj _ _ st7
     obtain⟨p0,p1,p2,_⟩:=fpc I7 n5 (by simp)
     have I7':Inv (X.comp scope N G.objs.size {s2 with heap:=G} (upd H2 D (.lst [])) [it] (X.pn++pins)) [(it,o7)] (List.replicate N.length none) H5 s7:=I7.pins_of fun p hp=>by
       have e:p=(it,o7):=by simpa using hp
       subst e
       exact⟨e7,p0,p1,p2,d7⟩
     have back:∀{i':Nat} {ys':List V} {H':Hp} {σ':St} {s':Shared},i'=i+1 ->Inv (X.comp scope N G.objs.size {s2 with heap:=G} (upd H2 D (.lst [])) [it] (X.pn++pins)) [(it,o7)] σ' H' s' ->W i' ys' H' ->
         ∃k',k'<m+1-i/\∃i ys H',k'=m+1-i/\Inv (X.comp scope N G.objs.size {s2 with heap:=G} (upd H2 D (.lst [])) [it] (X.pn++pins)) [] (List.replicate N.length none) H' s'/\tn i s'.heap/\H' it=none/\W i ys H':=by
       rintro i' ys' H' σ' s' rfl J' w'
       obtain⟨q1,q2,_⟩:=J'.pin (it,o7) (List.mem_append_right _ (List.mem_singleton.mpr rfl))
       have jl:σ'.length=N.length:=J'.len
       refine⟨m+1-(i+1),by omega,i+1,ys',H',rfl,Inv.weak (J'.pins_of fun p hp=>absurd hp (by simp)) (by rw[jl];simp) (fun j v z=>?_),T.keep _ _ _ st7 fun o z=>?_,q2,w'⟩
       . rw[List.getElem?_replicate] at z
         split at z<;>cases z
       . rw[e7] at z
         cases z
         exact q1
     refine wpAny_mono (gg [(it,o7)] s7 _ H5 x u _ I7' rx (step x H5 yl)) (fun _ s8 z=>?_) (fun _ _ z=>z.elim)
     obtain⟨σ8,H8,I8,q8⟩:=z
     refine wpAny_mono (ee [(it,o7)] s8 σ8 H8 _ I8 q8) (fun y s10 z=>?_) (fun _ _ z=>z.elim)
     obtain⟨yv,H10,I10,ry,hD10,hz10,w10⟩:=z
     refine wpAny_mono (A3d (X:=X.comp scope N G.objs.size {s2 with heap:=G} (upd H2 D (.lst [])) [it] (X.pn++pins)) [(it,o7)] s10 σ8 H10 (.ref D) [yv] (.ref D) [y] (fun _ H11=>W (i+1) (ys++ [yv]) H11) I10 rfl (.cons ry .nil) ⟨D,ys,yv,rfl,rfl,hD10,hz10,w10⟩) (fun _ s11 z=>?_) (fun _ _ z=>z.elim)
     obtain⟨_,H11,I11,_,w11⟩:=z
     exact back rfl I11 w11
 exact codeAny_compStart_list loop (T.self _ 0 _ _ _ (T.keep _ _ _ st2 fun o e=>kp it o (by rw[<-hG];exact Heap.get?_push_of_some _ e)) loop)
theorem A9q{pins:List (Addr×Obj)}{σ:St}{H:Hp}{s:Shared}{C:Addr}{h':Heap}(I:Inv X pins σ H s)(f:A0t X pins H C)(sb:Heap.SameBut C s.heap h'):Inv X pins σ H {s with heap:=h'}:=
 I.turned (t':=s.toks) (fun b o hb e=>(sb.2 b hb).trans e) f.1 f.2.1 f.2.2.2.1 f.2.2.2.2.1 f.2.2.2.2.2
theorem D3m{elt target iter:Expr}{scope:Scope}{pos:Pos}{N:List Str}{wi:TI}{g:TG}{te:TE}(S:A9c N scope)(hd:Y0 X)(hi:PIH X target iter wi)(hex:X.ex=[])
   (hg:∀C s₀ H₀ ex pn,Y0 (X.comp scope N C s₀ H₀ ex pn) ->PG (X.comp scope N C s₀ H₀ ex pn) target g)
   (he:∀C s₀ H₀ ex pn,Y0 (X.comp scope N C s₀ H₀ ex pn) ->PE (X.comp scope N C s₀ H₀ ex pn) elt te)
   (hs:∀x,foldedSetIterable iter X.env x=pure x:=by intro _;rfl):PE X (.ListComp elt [⟨target,iter,[],0⟩] scope pos) (D1z N.length wi g te):=by
 intro pins s σ H Q I h
 refine wpAny_ListComp S.free S.kind S.loc (C2t S hd hi hex hg he I h (RR:=fun acc ce r s'=>∃m,s'.heap.Ns ce.locals m/\∀h',Heap.SameBut ce.locals s'.heap h' ->match r with
   | .ok _=>EP X pins σ Q acc {s' with heap:=h'}
   | .error x=>wpAny (model X.prog X.w) X.A (passOn "comprehension.variables-let-go" x ce) (EP X pins σ Q) X.xe {s' with heap:=h'}) ?_) hs
 intro D C s6 H5 mm I6 n6 f6 q
 exact⟨mm,n6,fun h' sb=>⟨.ref D,H5,A9q I6 f6 sb,rfl,q⟩⟩
end
section
variable{X:Cx}{a b c:Expr}{ta tb tc:TE}{pos:Pos}
theorem U9:OpR X (binaryOp .Mult) (rI IntMulOk fun i j=> .int (i*j)):=opI fun _ _ _ _ _ _ _ hc q=>mul_int q hc
theorem U1:OpR X (binaryOp .FloorDiv) (rI (fun _ j=>0<j/\j.natAbs.log2<9000) fun i j=> .int (i/j)):=opI fun i j _ _ _ _ _ hc q=>by
 have h1:(0:Int)<j:=hc.1
 exact floordiv_int (by omega) (by rw[Int.fdiv_eq_ediv_of_nonneg i (by omega)];exact q) (.inl (PyProof.noPylong_of_log2 hc.2))
theorem A6d{i:Int}{k:Nat}(h:i.natAbs<2^k)(hk:0<k):i.natAbs.log2<k:=by
 by_cases z:i.natAbs=0
 . rw[z];simpa using hk
 exact(Nat.log2_lt z).mpr h
inductive TyE(K:Frag)(H:Hp):V ->Value ->Prop where
 |of {x:V} {t:Value} (h:A5c K H x t):TyE K H x t
 |exc {a C t:Addr} {T:Value} {u:HO} (e:H a=some (.frz (A0c (.ref C) t none T) u)) (k:B7x K C):TyE K H (.ref a) (.ref C)
 |excD {a C t:Addr} {T:Value} {d:Addr} {u:HO} {fs:List (Str×V)} (e:H a=some (.frz (A0c (.ref C) t (some d) T) u)) (hd:H d=some (.xd fs)) (k:B7x K C):TyE K H (.ref a) (.ref C)
 |tupK {a:Addr} {o:Obj} (l:K.lookup a=some o) (c:o.cls= .type "tuple"):TyE K H (.ref a) (.type "tuple")
theorem C1u{pins:List (Addr×Obj)}{σ:St}{H:Hp}{s:Shared}{A:Around}{E:Value ->Shared ->Prop}{Q:Value ->Shared ->Prop}{c:Value}{b:Bool}{x:V}{u t:Value}(I:Inv X pins σ H s)(rx:V4 x u)(ty:TyE X.K H x t)
   (e:kitOne X.K t c=some b) (h:∀tk,Q (.bool b) {s with toks:=tk}):wpAny (model X.prog X.w) A (call (.builtin "isinstance") [u,c]) Q E s:=by
 cases ty with
 |of h'=>exact C7w I rx h' e h
 | exc ea k=>
   cases rx
   rename_i a C t0 T u0
   have o1:s.heap.get? a=some (A0c (.ref C) t0 none T):=(I.hok a _ ea).1
   refine kia_one (H:=fun h=>PySem.W.InstAt h a (A0c (.ref C) t0 none T) C none) ?_ I.kIn ⟨o1,rfl,rfl,trivial⟩ e (fun z=>nomatch z) h
   refine⟨fun M h _ J=>J.type,fun M h K _=>A3r K k.cl,fun h tp dd its n sl K htp=>?_,fun K J q=>A4t k K J q⟩
   refine Bool.eq_false_iff.mpr fun q=>?_
   have e:C=tp:=Value.ref.inj (beq_iff_eq.mp q)
   subst e
   have z:=k.cl
   unfold clsIn at z
   split at z
   . rename_i ho
     have y:=(K _ _ ho).symm.trans htp
     cases y
   . cases z
 | tupK l c=>
   cases rx
   exact PySem.W.kia_one PySem.W.kitx_tuple I.kIn ⟨_,I.kIn _ _ l,c⟩ e (fun z=>nomatch z) h
 | excD ea hd k=>
   cases rx
   rename_i a C t0 T d u0 fs
   have o1:s.heap.get? a=some (A0c (.ref C) t0 (some d) T):=(I.hok a _ ea).1
   obtain⟨mA,nA,_⟩:=(show∃mA,s.heap.Ns1 d mA/\∀f,A4g (fs.lookup f) (mA f) from I.hok d _ hd)
   obtain⟨od,o2,_⟩:=A8m nA
   refine kia_one (H:=fun h=>PySem.W.InstAt h a (A0c (.ref C) t0 (some d) T) C (some od)) ?_ I.kIn ⟨o1,rfl,rfl,o2⟩ e (fun z=>nomatch z) h
   refine⟨fun M h _ J=>J.type,fun M h K _=>A3r K k.cl,fun h tp dd its n sl K htp=>?_,fun K J q=>A4t k K J q⟩
   refine Bool.eq_false_iff.mpr fun q=>?_
   have e:C=tp:=Value.ref.inj (beq_iff_eq.mp q)
   subst e
   have z:=k.cl
   unfold clsIn at z
   split at z
   . rename_i ho
     have y:=(K _ _ ho).symm.trans htp
     cases y
   . cases z
noncomputable def G1u:V ->Option Value
 | .ty n=>some (.type n)
 | .ref a=>some (.ref a)
 |_=>none
theorem B9v:A0y X (.builtin "isinstance") (fun xs H Q=>∃x c cv t b,xs=[x,c]/\G1u c=some cv/\TyE X.K H x t/\kitOne X.K t cv=some b/\Q (.bl b) H):=by
 intro pins s σ H xs us Q I r h
 obtain⟨x,c,cv,t,b,rfl,hc,ty,e,q⟩:=h
 obtain⟨u,v,rfl,ru,rv⟩:=G7.two r
 have:v=cv:=by
   cases c<;>simp only[G1u] at hc<;>first|(cases hc;exact rv)|cases hc
 subst this
 exact C1u I ru ty e fun tk=>⟨.bl b,H,I.tok tk,rfl,q⟩
mutual
inductive RdD(K:Frag)(H:Hp):V ->PyData ->Prop where
 |non:RdD K H .non .none
 |bl (b:Bool):RdD K H (.bl b) (.bool b)
 |int (i:Int):RdD K H (.int i) (.int i)
 |str (x:Str):RdD K H (.str x) (.str x)
 |tup {a:Addr} {xs:List V} {ds:List PyData} (h:SqT K H a xs) (r:B3s K H xs ds):RdD K H (.ref a) (.tuple ds)
 |lst {a:Addr} {xs:List V} {ds:List PyData} (h:SqL K H a xs) (r:B3s K H xs ds):RdD K H (.ref a) (.list ds)
inductive B3s(K:Frag)(H:Hp):List V ->List PyData ->Prop where
 |nil:B3s K H [] []
 |cons {x:V} {xs:List V} {d:PyData} {ds:List PyData} (h:RdD K H x d) (r:B3s K H xs ds):B3s K H (x::xs) (d::ds)
end
mutual
theorem RdD.reads{pins:List (Addr×Obj)}{σ:St}{H:Hp}{s:Shared}(I:Inv X pins σ H s):∀{x:V} {d:PyData} {u:Value},RdD X.K H x d ->V4 x u ->∃as,Reads s.heap u d as
 |_,_,_,.non,r=>by cases r;exact⟨_,.none⟩
 |_,_,_,.bl b,r=>by cases r;exact⟨_,.bool b⟩
 |_,_,_,.int i,r=>by obtain⟨t,rfl⟩:=r;exact⟨_,.int i t⟩
 |_,_,_,.str x,r=>by obtain⟨t,rfl⟩:=r;exact⟨_,.str x t⟩
 | _,_,_,.tup h q,r=>by
   cases r
   obtain⟨its,rv,⟨o,e,c,n,d⟩,_⟩:=I.tuple h
   obtain⟨as,z⟩:=B3s.reads I q rv
   exact⟨_,reads_tuple_at e c d (by simpa using z)⟩
 | _,_,_,.lst h q,r=>by
   cases r
   obtain⟨its,rv,p,_⟩:=I.list h
   obtain⟨o,e,c,n,d⟩:=p.isList
   obtain⟨as,z⟩:=B3s.reads I q rv
   exact⟨_,reads_list_at e c d (by simpa using z)⟩
theorem B3s.reads{pins:List (Addr×Obj)}{σ:St}{H:Hp}{s:Shared}(I:Inv X pins σ H s):∀{xs:List V} {ds:List PyData} {us:List Value},B3s X.K H xs ds ->G7 xs us ->∃as,ReadsAll s.heap us ds as
 |_,_,_,.nil,r=>by cases r;exact⟨_,.nil⟩
 | _,_,_,.cons h q,r=>by
   cases r with
   | cons r1 r2=>
     obtain⟨as,z⟩:=RdD.reads I h r1
     obtain⟨bs,y⟩:=B3s.reads I q r2
     exact⟨_,.cons z y⟩
end
def G3p (K:Frag) (n:Bool):R2:=fun x y H Q=>∃d e,RdD K H x d/\RdD K H y e/\SeqAt.shaped d=true/\SeqAt.shaped e=true/\Q (.bl (if n then !PyData.eqv d e else PyData.eqv d e)) H
theorem B6h(hu:X.A.units+64<cLine):OpR X (compareOp .Eq) (G3p X.K false):=by
 intro pins s σ H x y v u Q I rx ry q
 obtain⟨d,e,hx,hy,sd,se,q⟩:=q
 obtain⟨as,z⟩:=hx.reads I rx
 obtain⟨bs,z'⟩:=hy.reads I ry
 exact eq_dataH z z' sd se hu ⟨.bl (PyData.eqv d e),H,I,rfl,q⟩
theorem B6g(hu:X.A.units+64<cLine):OpR X (compareOp .NotEq) (G3p X.K true):=by
 intro pins s σ H x y v u Q I rx ry q
 obtain⟨d,e,hx,hy,sd,se,q⟩:=q
 obtain⟨as,z⟩:=hx.reads I rx
 obtain⟨bs,z'⟩:=hy.reads I ry
 exact ne_dataH z z' sd se hu ⟨.bl (!PyData.eqv d e),H,I,rfl,q⟩
theorem D1d(hc:X.A.handled=none):A0y X (.builtin "any") (fun xs H Q=>∃(l:Addr) (bs:List Bool),xs=[.ref l]/\SqL X.K H l (bs.map V.bl)/\Q (.bl (bs.any id)) H):=by
 intro pins s σ H xs us Q I r h
 obtain⟨l,bs,rfl,hl,q⟩:=h
 obtain⟨u,rfl,ru⟩:=G7.one r
 cases ru
 obtain⟨its,rv,p,hz⟩:=I.list hl
 obtain⟨o,e,_⟩:=id p.isList
 have hlt:l<s.heap.objs.size:=Heap.lt_size e
 have hlen:its.length=bs.length:=by rw[<-rv.length,List.length_map]
 refine call_any_walk (wpAny_pyIter_list p.isList ?_)
 refine⟨s.heap.objs.size,[s.heap.objs.size,l],[s.heap.objs.size],its.toArray.size,_,_,fun i=>(bs[i]?).getD false,rfl,Walks.list (A:=X.A.in1) hc _ l (Nat.ne_of_lt hlt) its.toArray,⟨⟨_,Heap.get?_push_size _ rfl,rfl,rfl⟩,p.isList.push _⟩,fun i v s' Q' E' hP hQ=>?_,fun h' tk hk=>?_⟩
 . have hP:its[i]?=some v:=by simpa using hP
   have hi:i<bs.length:=by rw[<-hlen];exact(List.getElem?_eq_some_iff.mp hP).1
   obtain⟨u',hu',ru'⟩:=rv.get (i:=i) (x:=V.bl bs[i]) (by simp[hi])
   rw[hP] at hu'
   cases hu'
   cases ru'
   have z:(bs[i]?).getD false=bs[i]:=by simp[hi]
   dsimp only at hQ
   rw[z] at hQ
   exact wpAny_truthy_bool hQ
 have z:((List.range its.toArray.size).any fun i=>(bs[i]?).getD false)=bs.any id:=by
   rw[List.size_toArray,hlen]
   exact LSm.range_any bs
 rw[z]
 exact⟨.bl (bs.any id),H,I.kept fun b x e=>hk b x (fun hm=>by rw[List.mem_singleton.mp hm] at e;exact Nat.lt_irrefl _ (Heap.lt_size e)) (Heap.get?_push_of_some _ e),rfl,q⟩
inductive C0q(X:Cx):Expr ->TE ->Prop where
 |lit {x:Str} {j:Nat} {pos:Pos}:C0q X (.Constant (.str x) j pos) (tC (.str x))
 |int {v:Expr} {tv:TE} {pos:Pos} (h:PE X v tv):C0q X (.FormattedValue v (-1) none pos) (fun σ H Q=>tv σ H fun y H1=>∃i,y= .int i/\i.natAbs.log2<1920/\Q (.str (toString i)) H1)
theorem C0q.pe{e:Expr}{t:TE}(h:C0q X e t):PE X e t:=by
 cases h with
 |lit=>exact C7
 | int h=>
   intro pins s σ H Q I q
   refine FormattedValue_plain (thn (h pins s σ H _ I q) fun u s1 hh_=>?_)
   obtain⟨y,H1,I1,r,i,e,l,q⟩:=hh_
   subst e
   obtain⟨t,rfl⟩:=r
   exact formatField_int_small l ⟨.str (toString i),H1,I1.tok _,⟨_,rfl⟩,q⟩
inductive A9d(X:Cx):List Expr ->(Str ->TE) ->Prop where
 |nil:A9d X [] (fun out _ H Q=>out.length<=sizeLine/\Q (.str out) H)
 |cons {e:Expr} {es:List Expr} {t:TE} {r:Str ->TE} (h:C0q X e t) (hr:A9d X es r):A9d X (e::es) (fun out σ H Q=>t σ H fun x H1=>∃y,x= .str y/\(out++y).length<=sizeLine/\r (out++y) σ H1 Q)
theorem A9d.run{es:List Expr}{t:Str ->TE}(h:A9d X es t):∀(out:Str) (pins:List (Addr×Obj)) (s:Shared) (σ:St) (H:Hp) (Q:VK),Inv X pins σ H s ->t out σ H Q ->
   wpAny (model X.prog X.w) X.A (joinParts out (evalEach es X.env)) (EP X pins σ Q) X.xe s:=by
 induction h with
 | nil=>
   intro out pins s σ H Q I q
   exact joinParts_nil ⟨.str out,H,I.tok _,⟨_,rfl⟩,q.2⟩ q.1
 | @cons e es t r h hr ih=>
   intro out pins s σ H Q I q
   show wpAny _ _ (joinParts out (eval e X.env::evalEach es X.env)) _ _ _
   refine joinParts_cons (thn (h.pe pins s σ H _ I q) fun u s1 hh_=>?_)
   obtain⟨x,H1,I1,rx,y,ey,z,q⟩:=hh_
   subst ey
   obtain⟨t',rfl⟩:=rx
   exact⟨z,ih _ pins s1 σ H1 Q I1 q⟩
theorem C5k{e1 e2:Expr}{es:List Expr}{t:Str ->TE}{pos:Pos}(h:A9d X (e1::e2::es) t):PE X (.JoinedStr (e1::e2::es) pos) (t Str.empty):=by
 intro pins s σ H Q I q
 exact JoinedStr_many (h.run _ pins s σ H Q I q)
end
structure Y7(k:Nat)(A:Around):Prop where
 dp:A.depth+3*k+5<recursionLimit
 un:A.units+16*k+200<cLine
theorem A0r.h{k:Nat}{A:Around}(r:A0r k A):Y7 k A:=⟨r.dp,r.un⟩
theorem A0r.hm{k:Nat}{A:Around}(r:A0r k A)(h:Option Value):Y7 k (A.mark h):=⟨r.dp,r.un⟩
theorem Y7.mono{j k:Nat}{A:Around}(r:Y7 k A)(h:j<=k):Y7 j A:=⟨by have:=r.dp;omega,by have:=r.un;omega⟩
theorem Y7.deeper{k:Nat}{A:Around}(r:Y7 (k+1) A)(env:Env):Y7 k (A.deeper env):=
 ⟨by have:=r.dp;show A.depth+1+3*k+5<_;omega,by have:=r.un;show A.units+3+16*k+200<_;omega⟩
theorem Y7.u64{k:Nat}{A:Around}(r:Y7 k A):A.units+64<cLine:=by have:=r.un;omega
theorem Y7.depth{k:Nat}{A:Around}(r:Y7 k A):A.depth<recursionLimit:=by have:=r.dp;omega
def HdH (A:Around) (H:Hp):Prop:=A.handled=none\/∃x o u vs,A.handled=some (.ref x)/\H x=some (.frz o u)/\o.data= .fields vs/\vs[2]?=some .none
structure B5u(P:Program)(w:World)(K:Frag)(mg:Str ->Option Value)(base:Heap)(k:Nat)(f:Addr)(fd:FuncData)(ps:List Str)(sp:Sp):Prop where
 len:∀vs H Q E,sp vs H Q E ->vs.length=ps.length
 run:∀(A:Around) (outer:List Env) (s:Shared) (H:Hp) (args:Args) (us:List Value) (vs:List V) (Q:VK),Y7 k A ->B0d P w K mg base A outer s H ->HdH A H ->BindsTo s fd args (ps.zip us) ->G7 vs us ->sp vs H Q E0 ->
   codeAny (model P w) A (.call (.ref f) args) (CR CX0 outer P w H s Q E0) s
theorem Inv.loud{X:Cx}{pins:List (Addr×Obj)}{σ:St}{H:Hp}{s:Shared}{A:Around}{E:Value ->Shared ->Prop}(hA:A.frames=X.A.frames)(I:Inv X pins σ H s):Inv {X with A:=A,calm:=false,xe:=E} pins σ H s:=
 ⟨⟨I.ok.mod,I.ok.kind,I.ok.glob,I.ok.blt,I.ok.above,I.ok.inj,I.ok.has,I.ok.cab,(fun z=>nomatch z),hA.trans I.ok.frames,I.ok.stk,I.ok.exf,I.ok.bs,I.ok.bsz,I.ok.noex,I.ok.exfs,I.ok.funs,I.ok.frf⟩,
   I.os,I.bare,I.base,I.loc,I.cell,I.free,I.freeC,I.pin,I.hok,I.len⟩
noncomputable abbrev quiet (A:Around):Around:={A with handled:=none}
theorem B0d.quiet{P:Program}{w:World}{K:Frag}{mg:Str ->Option Value}{base:Heap}{A:Around}{outer:List Env}{s:Shared}{H:Hp}(e:B0d P w K mg base A outer s H):B0d P w K mg base (quiet A) outer s H:=
 ⟨e.frames,e.mod,e.bs,e.bsz,e.funs,e.frf,e.hok,e.bare⟩
section
variable{P:Program}{w:World}{K:Frag}{mg:Str ->Option Value}{base:Heap}
end
section
variable{X:Cx}{k:Nat}{f:Addr}{fd:FuncData}{ps:List Str}{sp:Sp}{x:Str}{p pos:Pos}{e:Expr}{es:List Expr}{t:TA}
def B6q (A:Around) (sp:Sp) (t:TA):TE:=fun σ H Q=>t σ H fun vs H1=>HdH A H1/\sp vs H1 Q E0
theorem D2s(F:B5u X.prog X.w X.K X.mg X.base k f fd ps sp)(hr:Y7 k X.A)(hg:Gl X x)(hm:X.mg x=some (.ref f))(hk:PySem.W.keepIn X.K (.ref f)=true)(hb:Y6 X.K fd ps [])
   (ha:PA X (e::es) t) (hdb:(x==("__debug__":Str))=false:=by decide) (he:starEach (e::es) X.env=(false,eval e X.env)::starEach es X.env:=by rfl)
   (hpl:(backTo pos (starEach es X.env)).any (·.1)=false:=by rfl):PE X (.Call (.Name x p) (e::es) [] pos) (B6q X.A sp t):=by
 intro pins s σ H Q I h
 refine wpAny_Call_Name_kw (Z9 I hg hm ?_ hdb)
 refine PySem.W.callWith_K (h₀:=X.base) I.ok.mod.kin hk (thn (ha pos pins s σ H _ I h) fun us s1 ⟨vs,H1,I1,r,hd,q⟩=>⟨I1.kIn,?_⟩) he hpl
 have hl:(us++ []).length=ps.length:=by rw[List.append_nil, <-r.length];exact F.len _ _ _ _ q
 have hb':=hb s1 us I1.kIn hl
 rw[List.append_nil] at hb'
 refine wpAny_call (codeAny_mono (F.run X.A X.stack s1 H1 ⟨us,[]⟩ us vs Q hr I1.env0 hd hb' r q) fun r s' hq=>?_)
 cases r with
 |error e=>exact False.elim hq
 | ok fl=>
   cases fl with
   |ret u=>exact I1.after hq
   |next=>exact False.elim hq
   |brk=>exact False.elim hq
   |cont=>exact False.elim hq
end
theorem Inv.big{X:Cx}{pins:List (Addr×Obj)}{σ:St}{H:Hp}{s:Shared}(I:Inv X pins σ H s):sysModules<s.heap.objs.size:=by
 have h:mainGlobals<s.heap.objs.size:=(I.mod.glob.keeps I.bk).lt
 exact Nat.lt_trans (by decide) h
theorem D3d{P:Program}{w:World}{H:Hp}(h:Heap)(hb:sysModules<h.objs.size):Z2 P w H (h.push {cls:= .type "dict",data:= .dict #[]}) h.objs.size (.dK []):=
 ⟨Nat.zero_le _,beq_eq_false_iff_ne.mpr (Ne.symm (Nat.ne_of_lt hb)),[],.nil,Heap.DictOf.new h⟩
def G5f:TE:=fun _ H Q=>∀p,H p=none ->Q (.ref p) (upd H p (.dK []))
theorem B1y{X:Cx}{pos:Pos}:PE X (.Dict [] [] pos) G5f:=fun pins s σ H Q I h=>
 wpAny_Dict_empty ⟨.ref s.heap.objs.size,_,I.laid (a:=s.heap.objs.size) (o:= .dK []) (t':=s.toks) (fun _ _ q=>Heap.get?_push_of_some _ q) (Nat.le_refl _) (D3d s.heap I.big),rfl,h _ (I.hok.fresh (Nat.le_refl _))⟩
abbrev EKF:EK:=fun _ _ _ _=>False
theorem A1u{X:Cx}:Y1 X EKF:=fun _ _ _ _ _ _ _ _ _ _ h=>h.elim
structure Def(K:Frag)(mg:Str ->Option Value)(x:Str)(ps:List Str)(st:Stmt)(f:Addr)(fd:FuncData):Prop where
 F:Fun K x x st f fd
 g:mg x=some (.ref f)
 b:Y6 K fd ps []
theorem A3z{K:Frag}{h:Heap}{mg:Str ->Option Value}{x:Str}{ps:List Str}{st:Stmt}{f:Addr}{oc:Value}{od an:Option Addr}{osl:Array (Option Value)}{kV doc pm cdv ct:Value}(X:K.In h)(G:h.Ns mainGlobals mg)
   (a:nsIn K mainGlobals x=some (some (.ref f))) (l:K.lookup f=some ⟨oc,od,.func (fnOf x x (U6 st) (U2 st) (A6 st) .none kV doc pm an cdv ct),osl⟩) (c:codeIn K cdv x=true) (k:keepIn K (.ref f)=true)
   (hb:∀(kV doc pm:Value) (an:Option Addr) (cdv ct:Value) (us:List Value),us.length=ps.length ->bindArgs (fnOf x x (U6 st) (U2 st) (A6 st) .none kV doc pm an cdv ct) ⟨us,[]⟩=pure (ps.zip us)):
   Def K mg x ps st f (fnOf x x (U6 st) (U2 st) (A6 st) .none kV doc pm an cdv ct):=
 ⟨A2y (st:=st) l c k,mg_of X G a,(A2y (st:=st) l c k).binds hb⟩
theorem G9{c A B:Prop} [Decidable c] (h:¬c) (b:B):if decide c=true then A else B:=by rw[decide_eq_false h];exact Y3 b
theorem A0q{c A B:Prop} [Decidable c] (h:c) (a:A):if decide c=true then A else B:=by rw[decide_eq_true h];exact Z0 a
theorem V0{c A B:Prop} [Decidable c] (a:c ->A) (b:¬c ->B):if decide c=true then A else B:=by
 by_cases h:c
 . exact A0q h (a h)
 exact G9 h (b h)
def G9x (t:TS):TS:=fun D σ H=>∃J:St ->Hp ->Prop,t {D with nx:=J} σ H/\∀σ' H',J σ' H' ->D.nx σ' H'
theorem A9{X:Cx}{st:Stmt}{t:TS}(h:PS X st t):PS X st (G9x t):=by
 intro pins s σ H D I q
 obtain⟨J,q,k⟩:=q
 refine thn (h pins s σ H _ I q) fun f s' z=>?_
 cases f with
 |next=>obtain⟨σ',H',I',y⟩:=z;exact⟨σ',H',I',k _ _ y⟩
 |brk=>exact z
 |cont=>exact z
 |ret u=>exact z
theorem ixs{xs:List Int}{i:Int}(h0:0<=i)(h1:i<xs.length):∃v,v∈xs/\atI (xs.map V.int) i=some (.int v):=by
 obtain⟨j,rfl⟩:=Int.eq_ofNat_of_zero_le h0
 have hj:j<xs.length:=by omega
 exact⟨xs[j],List.getElem_mem hj,D7 (by simp[hj])⟩
theorem ixv{xs:List V}{i:Int}(h0:0<=i)(h1:i<xs.length):∃v,v∈xs/\atI xs i=some v:=by
 obtain⟨j,rfl⟩:=Int.eq_ofNat_of_zero_le h0
 have hj:j<xs.length:=by omega
 exact⟨xs[j],List.getElem_mem hj,D7 (by simp[hj])⟩
theorem A8.upd{H:Hp}{p:Addr}{o:HO}(h:H p=none):A8 H (L2.upd H p o):=fun b u e=>by rw[D0 (D8 e h)];exact e
theorem C9{n:Nat}(h:n<=1000):n<=sizeLine:=Nat.le_of_lt (A1c h)
section
variable{X:Cx}{k j:Nat}{f:Addr}{fd:FuncData}{ps:List Str}{sp:Sp}{EH:EK}{x:Str}{st:Stmt}{p pos:Pos}{e:Expr}{es:List Expr}{t:TA}
theorem V5(D:Def X.K X.mg x ps st f fd)(F:G6 X.prog X.w X.K X.mg X.base (CX1 X.prog X.w) j f fd ps sp)(hr:A0r k X.A)(hx:Y1 X EH)(ha:PA X (e::es) t)(hj:j<=k:=by decide)(hg:Gl X x:=by rfl)(hex:X.ex=[]:=by rfl)(hdb:(x==("__debug__":Str))=false:=by decide)
   (he:starEach (e::es) X.env=(false,eval e X.env)::starEach es X.env:=by rfl) (hpl:(backTo pos (starEach es X.env)).any (·.1)=false:=by rfl):PE X (.Call (.Name x p) (e::es) [] pos) (A2v sp [] EH t):=
 D0m (F.mono hj) hr hg D.g D.F.kp D.b .nil hx ha hex hdb he hpl
theorem G5n(D:Def X.K X.mg x ps st f fd)(F:G6 X.prog X.w X.K X.mg X.base (CX1 X.prog X.w) j f fd ps sp)(hr:A0r k X.A)(hx:Y1 X EH)(hj:j<=k:=by decide)(hg:Gl X x:=by rfl)(hex:X.ex=[]:=by rfl)(hdb:(x==("__debug__":Str))=false:=by decide):
   PE X (.Call (.Name x p) [] [] pos) (A2v sp [] EH B6y):=
 C7p (F.mono hj) hr hg D.g D.F.kp D.b .nil hx hex hdb
theorem pty{n:Str}{T:String}(hm:X.mg n=none)(hv:bootBuiltins n=some (.type T))(hg:Gl X n:=by rfl)(hn:n≠"__name__":=by decide)(hdb:(n==("__debug__":Str))=false:=by decide):PE X (.Name n pos) (tC (.ty T)):=G0n hg hm hv rfl hn hdb
theorem A8v{n:Str}{C:Addr}(hm:X.mg n=some (.ref C))(hg:Gl X n:=by rfl)(hdb:(n==("__debug__":Str))=false:=by decide):PE X (.Name n pos) (tC (.ref C)):=G0t hg hm rfl hdb
theorem A9z{a b:Expr}{ta tb:TE}(hm:X.mg "isinstance"=none)(ha:PE X a ta)(hb:PE X b tb)(hg:Gl X "isinstance":=by rfl)
   (h1:starEach [a,b] X.env=(false,eval a X.env)::starEach [b] X.env:=by rfl) (h2:starEach [b] X.env=(false,eval b X.env)::starEach [] X.env:=by rfl) (h3:(backTo pos (starEach [b] X.env)).any (·.1)=false:=by rfl):
   PE X (.Call (.Name "isinstance" p) [a,b] [] pos) (tCB (fun xs H Q=>∃x c cv t b,xs=[x,c]/\G1u c=some cv/\TyE X.K H x t/\kitOne X.K t cv=some b/\Q (.bl b) H) (B8t ta (B8t tb B6y))):=
 V7 B9v hg hm boot_isinstance (A0 ha (A0 hb A3 h2) h1) (he:=h1) (hpl:=h3)
theorem A9w{K:Frag}{a b:Expr}{ta tb:TE}(hK:X.K=K)(hm:X.mg "isinstance"=none)(ha:PE X a ta)(hb:PE X b tb)(hg:Gl X "isinstance":=by rfl)
   (h1:starEach [a,b] X.env=(false,eval a X.env)::starEach [b] X.env:=by rfl) (h2:starEach [b] X.env=(false,eval b X.env)::starEach [] X.env:=by rfl) (h3:(backTo pos (starEach [b] X.env)).any (·.1)=false:=by rfl):
   PE X (.Call (.Name "isinstance" p) [a,b] [] pos) (tCB (fun xs H Q=>∃x c cv t b,xs=[x,c]/\G1u c=some cv/\TyE K H x t/\kitOne K t cv=some b/\Q (.bl b) H) (B8t ta (B8t tb B6y))):=by
 subst hK
 exact A9z hm ha hb hg h1 h2 h3
theorem G4x(D:Def X.K X.mg x ps st f fd)(F:B5u X.prog X.w X.K X.mg X.base j f fd ps sp)(hr:Y7 k X.A)(ha:PA X (e::es) t)(hj:j<=k:=by decide)(hg:Gl X x:=by rfl)(hdb:(x==("__debug__":Str))=false:=by decide)
   (he:starEach (e::es) X.env=(false,eval e X.env)::starEach es X.env:=by rfl) (hpl:(backTo pos (starEach es X.env)).any (·.1)=false:=by rfl):PE X (.Call (.Name x p) (e::es) [] pos) (B6q X.A sp t):=
 D2s ⟨F.len,fun A outer s H args us vs Q hr=>F.run A outer s H args us vs Q (hr.mono hj)⟩ hr hg D.g D.F.kp D.b ha hdb he hpl
end
section
variable{X:Cx}{k j:Nat}{f:Addr}{fd:FuncData}{ps:List Str}{sp:Sp}{x:Str}{st:Stmt}{p pos:Pos}{e:Expr}{es:List Expr}{t:TA}
def B6c (a:Addr) (sp:Sp) (t:TA):TE:=fun σ H Q=>t σ H fun vs H1=>(∃o u fs,H1 a=some (.frz o u)/\o.data= .fields fs/\fs[2]?=some .none)/\sp vs H1 Q E0
theorem C5w{a:Addr}(hA:X.A.handled=some (.ref a))(D:Def X.K X.mg x ps st f fd)(F:B5u X.prog X.w X.K X.mg X.base j f fd ps sp)(hr:Y7 k X.A)(ha:PA X (e::es) t)(hj:j<=k:=by decide)(hg:Gl X x:=by rfl)(hdb:(x==("__debug__":Str))=false:=by decide)
   (he:starEach (e::es) X.env=(false,eval e X.env)::starEach es X.env:=by rfl) (hpl:(backTo pos (starEach es X.env)).any (·.1)=false:=by rfl):PE X (.Call (.Name x p) (e::es) [] pos) (B6c a sp t):=by
 have z:B6c a sp t=B6q X.A sp t:=by
   funext σ H Q
   unfold B6c B6q
   congr 1
   funext vs H1
   refine propext ⟨fun⟨⟨o,u,fs,h1,h2,h3⟩,q⟩=>⟨.inr ⟨a,o,u,fs,hA,h1,h2,h3⟩,q⟩,fun⟨h,q⟩=>⟨?_,q⟩⟩
   rcases h with h|⟨x,o,u,fs,h0,h1,h2,h3⟩
   . rw[hA] at h;cases h
   . rw[hA] at h0;cases h0;exact⟨o,u,fs,h1,h2,h3⟩
 rw[z]
 exact G4x D F hr ha hj hg hdb he hpl
theorem G1x{K:Frag}(hK:X.K=K)(hu:X.A.units+64<cLine):OpR X (compareOp .NotEq) (G3p K true):=by subst hK;exact B6g hu
end
structure Mk0(K:Frag)(C:Addr):Prop where
 makes:makesIn K C=true
 init:findIn K (.ref C) "__init__"=some (some (.builtin "object.__init__"))
 kp:keepIn K (.ref C)=true
section
variable{X:Cx}{k j:Nat}{f C:Addr}{fd:FuncData}{ps:List Str}{sp:Sp}{dvs:List V}{ds:List Value}{EH:EK}{x m:Str}{p pos apos:Pos}{e o:Expr}{es:List Expr}{ta:TE}{t:TA}
def G5g (C:Addr):TE:=fun _ H Q=>∀x dx,H x=none ->H dx=none ->dx≠x ->Q (.ref x) (upd (upd H dx (.own x)) x (.ins C dx []))
theorem G2g{pins:List (Addr×Obj)}{σ:St}{H:Hp}{s:Shared}{Q:VK}(M:Mk0 X.K C)(I:Inv X pins σ H s)(h:G5g C σ H Q):wpAny (model X.prog X.w) X.A (call (.ref C) []) (EP X pins σ Q) X.xe s:=by
 have hq:=h (s.heap.objs.size+1) s.heap.objs.size (I.hok.fresh (Nat.le_succ _)) (I.hok.fresh (Nat.le_refl _)) (Nat.ne_of_lt (Nat.lt_succ_self _))
 have I2:=Inv.made (C:=C) I
 have Y:=makes_of (M:=model X.prog X.w) I.kIn M.makes
 refine wpAny_call (C7v I.kIn M.makes M.init (fun self=>Looks.of_pure (oi_bind self)) ?_)
 have e2:((s.heap.push emptyDict).push (instObj C s.heap.objs.size)).get? (s.heap.objs.size+1)=some (instObj C s.heap.objs.size):=by
   have:=Heap.get?_push_size (s.heap.push emptyDict) (o:=instObj C s.heap.objs.size) rfl
   rwa[Heap.size_push] at this
 have t1:Looks (model X.prog X.w) ((s.heap.push emptyDict).push (instObj C s.heap.objs.size)) (typeOf (.ref (s.heap.objs.size+1))) (.ref C):=(Looks.ld e2).andThen .now
 have t2:Looks (model X.prog X.w) ((s.heap.push emptyDict).push (instObj C s.heap.objs.size)) (isInstance (.ref (s.heap.objs.size+1)) (.type "object")) true:=t1.andThen (Y.top.keeps fun b o e=>Heap.get?_push_of_some _ (Heap.get?_push_of_some _ e))
 refine codeAny_call_builtin oi_plain entry_oi (@check_slot (model X.prog X.w) _ _ _ "object.__init__" "object" "__init__" (.ref (s.heap.objs.size+1)) [] [] _ oi_kind oi_split t2 (oi_args (.ref (s.heap.objs.size+1))) ?_)
 rw[oi_run]
 exact wpAny_pure (And.intro rfl ⟨V.ref (s.heap.objs.size+1),_,I2,rfl,hq⟩)
theorem A4v(M:Mk0 X.K C)(hg:Gl X x)(hm:X.mg x=some (.ref C))(hdb:(x==("__debug__":Str))=false:=by decide):PE X (.Call (.Name x p) [] [] pos) (G5g C):=by
 intro pins s σ H Q I h
 refine wpAny_Call_Name_kw (Z9 I hg hm ?_ hdb)
 exact callWith_K0 I.kIn M.kp (G2g M I h)
def B6r (C:Addr) (m:Str) (sp:Sp) (dvs:List V) (EH:EK) (ta:TE) (t:TA):TE:=fun σ H Q=>ta σ H fun x H1=>∃a dx fs,x= .ref a/\H1 a=some (.ins C dx fs)/\fs.lookup m=none/\
 t σ H1 fun vs H2=>sp (x::(vs++dvs)) H2 Q (fun C d H'=>EH C d σ H')
theorem J1b{pl:Sem Bool}(he:PE X o ta)(c:Cls X.K C)(hm:A8b X.K C m f)(F:G6 X.prog X.w X.K X.mg X.base (CX1 X.prog X.w) j f fd ps sp)(hr:A0r k X.A)(hb:Y6 X.K fd ps ds)(hd:G7 dvs ds)(hx:Y1 X EH)(ha:PA X (e::es) t)
   (hj:j<=k:=by decide) (hex:X.ex=[]:=by rfl)
   (hst:starEach (e::es) X.env=(false,eval e X.env)::starEach es X.env:=by rfl) (hpl:(backTo pos (starEach es X.env)).any (·.1)=false:=by rfl)
   (ht:eval (.Call (.Attribute o m apos) (e::es) [] pos) X.env=(do
     let ov<-eval o X.env
     standAt apos.atName
     let(f,first)<-holding [ov] (getMethod ov m pl)
     callWith pos f first (backTo pos (starEach (e::es) X.env)) (backToKw pos (keywordEach [] X.env))):=by rfl):
   PE X (.Call (.Attribute o m apos) (e::es) [] pos) (B6r C m sp dvs EH ta t):=by
 intro pins s σ H Q I h
 refine methodCall_KW (pl:=pl) (thn (he pins s σ H _ I h) fun u s1 hh_=>?_) ht
 obtain⟨x,H1,I1,rx,a,dx,fs,ex,ea,l,q⟩:=hh_
 subst ex
 obtain rfl:u=Value.ref a:=rx
 refine A2f I1 ea c hm l ?_
 refine callWith_K (first:=[.ref a]) (h₀:=X.base) I.ok.mod.kin hm.kp (thn (ha pos pins s1 σ H1 _ I1 q) fun us s2 ⟨vs,H2,I2,r,q2⟩=>⟨I2.kIn,?_⟩) hst hpl
 exact B0f (us:= .ref a::us) (vs:= .ref a::vs) (F.mono hj) hr hb hd hx hex I2 (.cons rfl r) q2
theorem C1c{pl:Sem Bool}(he:PE X o ta)(c:Cls X.K C)(hm:A8b X.K C m f)(F:G6 X.prog X.w X.K X.mg X.base (CX1 X.prog X.w) j f fd ps sp)(hr:A0r k X.A)(hb:Y6 X.K fd ps ds)(hd:G7 dvs ds)(hx:Y1 X EH)
   (hj:j<=k:=by decide) (hex:X.ex=[]:=by rfl)
   (ht:eval (.Call (.Attribute o m apos) [] [] pos) X.env=(do
     let ov<-eval o X.env
     standAt apos.atName
     let(f,first)<-holding [ov] (getMethod ov m pl)
     callWith pos f first (backTo pos (starEach [] X.env)) (backToKw pos (keywordEach [] X.env))):=by rfl):
   PE X (.Call (.Attribute o m apos) [] [] pos) (B6r C m sp dvs EH ta B6y):=by
 intro pins s σ H Q I h
 refine methodCall_KW (pl:=pl) (thn (he pins s σ H _ I h) fun u s1 hh_=>?_) ht
 obtain⟨x,H1,I1,rx,a,dx,fs,ex,ea,l,q⟩:=hh_
 subst ex
 obtain rfl:u=Value.ref a:=rx
 refine A2f I1 ea c hm l ?_
 exact callWith_K0 (first:=[.ref a]) I1.kIn hm.kp (B0f (us:=[.ref a]) (vs:=[.ref a]) (F.mono hj) hr hb hd hx hex I1 (.cons rfl .nil) q)
def D3n (C:Addr) (sp:Sp) (dvs:List V) (EH:EK) (t:TA):TE:=fun σ H Q=>t σ H fun vs H1=>∀x dx,H1 x=none ->H1 dx=none ->dx≠x ->
 sp (.ref x::(vs++dvs)) (upd (upd H1 dx (.own x)) x (.ins C dx [])) (fun v H2=>v= .non/\Q (.ref x) H2) (fun C d H'=>EH C d σ H')
end
theorem G2h{n:Nat}(h:n<=sizeLine):Builtin.Str.tooLong n=false:=by
 unfold Builtin.Str.tooLong
 exact decide_eq_false (by omega)
section
variable{X:Cx}
end
structure D3u(K:Frag)(x qual:Str)(st:Stmt)(dV:Value)(f:Addr)(fd:FuncData):Prop where
 ex:∃(oc:Value) (od:Option Addr) (kV doc pm:Value) (an:Option Addr) (cdv ct:Value) (osl:Array (Option Value)),
   fd=fnOf x qual (U6 st) (U2 st) (A6 st) dV kV doc pm an cdv ct/\K.lookup f=some ⟨oc,od,.func fd,osl⟩/\codeIn K cdv qual=true
 kp:keepIn K (.ref f)=true
section
variable{P:Program}{w:World}{K:Frag}{mg:Str ->Option Value}{base:Heap}
theorem C4v{x qual:Str}{st:Stmt}{dV:Value}{f:Addr}{oc:Value}{od an:Option Addr}{osl:Array (Option Value)}{kV doc pm cdv ct:Value}(l:K.lookup f=some ⟨oc,od,.func (fnOf x qual (U6 st) (U2 st) (A6 st) dV kV doc pm an cdv ct),osl⟩)
   (c:codeIn K cdv qual=true) (k:keepIn K (.ref f)=true):D3u K x qual st dV f (fnOf x qual (U6 st) (U2 st) (A6 st) dV kV doc pm an cdv ct):=⟨⟨oc,od,kV,doc,pm,an,cdv,ct,osl,rfl,l,c⟩,k⟩
theorem C1f{fd:FuncData}{ps:List Str}{ds:List Value}{T:Addr}{o:Obj}{items:Array Value}{n:Nat}(hd:fd.defaults= .ref T)(ho:K.lookup T=some o)(hs:o.data= .seq items n)
   (h:∀us:List Value,(us++ds).length=ps.length ->∃k,bindArgs fd ⟨us,[]⟩=seqItems? fd.defaults>>=k/\k (some items)=pure (ps.zip (us++ds))):Y6 K fd ps ds:=fun s us X hl=>by
 obtain⟨k,h1,h2⟩:=h us hl
 exact binds_K X hd ho hs h1 h2
end
section
variable{X:Cx}{k j:Nat}{f C:Addr}{fd:FuncData}{ps ks:List Str}{sp:Sp}{EH:EK}{x m:Str}{p pos apos:Pos}{e o:Expr}{es:List Expr}{kws:List Keyword}{ta:TE}{t tk:TA}{g:List Value ->List Value ->List Value}{gV:List V ->List V ->List V}
end
section
variable{X:Cx}{K:Frag}{e:Expr}{f:Str}{pos:Pos}{ta:TE}
theorem B8d(h:X.K=K):IxR X (G8y K):=by subst h;exact U5
theorem B0h(h:X.K=K):IxR X (J0s K):=by subst h;exact U8
theorem G0u(h:X.K=K)(he:PE X e ta)(hb:attributeBase e f X.env (eval e X.env)=eval e X.env):PE X (.Attribute e f pos) (G9u K ta f):=by subst h;exact J0 he hb
theorem A6h(h:X.K=K):OpR X (compareOp .In) (rIn K false):=by subst h;exact A3j
theorem B4a(h:X.K=K):OpR X (compareOp .NotIn) (rIn K true):=by subst h;exact A2b
theorem B4c(h:X.K=K):A0y X (.type "list") (fun xs H Q=>∃p ys,xs=[.ref p]/\(SqL K H p ys\/SqT K H p ys)/\∀l,H l=none ->Q (.ref l) (upd H l (.lst ys))):=by subst h;exact A3q
end
end L2
namespace TR
open PySem L2 PySem.W PyProof.Rows
structure Own(mg:Str ->Option Value):Prop where
 isi:mg "isinstance"=none
 int_:mg "int"=none
 bool_:mg "bool"=none
 str_:mg "str"=none
 list_:mg "list"=none
 tuple_:mg "tuple"=none
 dict_:mg "dict"=none
 len_:mg "len"=none
 range_:mg "range"=none
 min_:mg "min"=none
 max_:mg "max"=none
 abs_:mg "abs"=none
 any_:mg "any"=none
 all_:mg "all"=none
 sum_:mg "sum"=none
 repr_:mg "repr"=none
 enumerate_:mg "enumerate"=none
 reversed_:mg "reversed"=none
 zip_:mg "zip"=none
 sorted_:mg "sorted"=none
 divmod_:mg "divmod"=none
 set_:mg "set"=none
 ValueError_:mg "ValueError"=none
structure Kit(K:Frag):Prop where
 int_int:kitOne K (.type "int") (.type "int")=some true
 int_bool:kitOne K (.type "int") (.type "bool")=some false
 int_str:kitOne K (.type "int") (.type "str")=some false
 int_list:kitOne K (.type "int") (.type "list")=some false
 int_tuple:kitOne K (.type "int") (.type "tuple")=some false
 int_dict:kitOne K (.type "int") (.type "dict")=some false
 bool_int:kitOne K (.type "bool") (.type "int")=some true
 bool_bool:kitOne K (.type "bool") (.type "bool")=some true
 bool_str:kitOne K (.type "bool") (.type "str")=some false
 bool_list:kitOne K (.type "bool") (.type "list")=some false
 bool_tuple:kitOne K (.type "bool") (.type "tuple")=some false
 bool_dict:kitOne K (.type "bool") (.type "dict")=some false
 str_int:kitOne K (.type "str") (.type "int")=some false
 str_bool:kitOne K (.type "str") (.type "bool")=some false
 str_str:kitOne K (.type "str") (.type "str")=some true
 str_list:kitOne K (.type "str") (.type "list")=some false
 str_tuple:kitOne K (.type "str") (.type "tuple")=some false
 str_dict:kitOne K (.type "str") (.type "dict")=some false
 list_int:kitOne K (.type "list") (.type "int")=some false
 list_bool:kitOne K (.type "list") (.type "bool")=some false
 list_str:kitOne K (.type "list") (.type "str")=some false
 list_list:kitOne K (.type "list") (.type "list")=some true
 list_tuple:kitOne K (.type "list") (.type "tuple")=some false
 list_dict:kitOne K (.type "list") (.type "dict")=some false
 tuple_int:kitOne K (.type "tuple") (.type "int")=some false
 tuple_bool:kitOne K (.type "tuple") (.type "bool")=some false
 tuple_str:kitOne K (.type "tuple") (.type "str")=some false
 tuple_list:kitOne K (.type "tuple") (.type "list")=some false
 tuple_tuple:kitOne K (.type "tuple") (.type "tuple")=some true
 tuple_dict:kitOne K (.type "tuple") (.type "dict")=some false
 dict_int:kitOne K (.type "dict") (.type "int")=some false
 dict_bool:kitOne K (.type "dict") (.type "bool")=some false
 dict_str:kitOne K (.type "dict") (.type "str")=some false
 dict_list:kitOne K (.type "dict") (.type "list")=some false
 dict_tuple:kitOne K (.type "dict") (.type "tuple")=some false
 dict_dict:kitOne K (.type "dict") (.type "dict")=some true
 NoneType_int:kitOne K (.type "NoneType") (.type "int")=some false
 NoneType_bool:kitOne K (.type "NoneType") (.type "bool")=some false
 NoneType_str:kitOne K (.type "NoneType") (.type "str")=some false
 NoneType_list:kitOne K (.type "NoneType") (.type "list")=some false
 NoneType_tuple:kitOne K (.type "NoneType") (.type "tuple")=some false
 NoneType_dict:kitOne K (.type "NoneType") (.type "dict")=some false
theorem scK{N P:List Str}{sc:Scope}(a:sc.kind= .function:=by rfl)(b:sc.isCoroutine=false:=by rfl)(c:sc.isGenerator=false:=by rfl)(d:N.Nodup:=by decide+kernel)(e:N.take P.length=P:=by rfl)(f:∀x∈P,sc.names.lookup x=some .local\/sc.names.lookup x=some .cell:=by decide+kernel)(g:∀y∈sc.names,y.2≠ .free:=by decide+kernel):B8 N P sc:=⟨a,b,c,d,e,f,g⟩
theorem B9t{K:Frag}{H:Hp}(i:Int):TyE K H (.int i) (.type "int"):= .of (.int i)
theorem J4y{K:Frag}{H:Hp}(b:Bool):TyE K H (.bl b) (.type "bool"):= .of (.bl b)
theorem B8m{K:Frag}{H:Hp}(z:Str):TyE K H (.str z) (.type "str"):= .of (.str z)
theorem G8x{K:Frag}{H:Hp}:TyE K H .non (.type "NoneType"):= .of .non
theorem C5f{K:Frag}{H:Hp}{a:Addr}{xs:List V}(h:H a=some (.lst xs)):TyE K H (.ref a) (.type "list"):= .of (.lst h)
theorem G2y{K:Frag}{H:Hp}{a:Addr}{xs:List V}(h:H a=some (.tup xs)):TyE K H (.ref a) (.type "tuple"):= .of (.tup h)
theorem J1d{K:Frag}{H:Hp}{a:Addr}{xs:List (Key×V)}(h:H a=some (.dK xs)):TyE K H (.ref a) (.type "dict"):= .of (.dK h)
theorem A5c.same{K:Frag}{H H':Hp}{x:V}{t:Value}(h:A5c K H x t)(e:A8 H H'):A5c K H' x t:=by
 cases h with
 |non=>exact .non
 |bl x=>exact .bl x
 |int i=>exact .int i
 |str x=>exact .str x
 |flt x=>exact .flt x
 |lst z=>exact .lst (e _ _ z)
 |frz z=>exact .frz (e _ _ z)
 |tup z=>exact .tup (e _ _ z)
 |dK z=>exact .dK (e _ _ z)
 |dT z=>exact .dT (e _ _ z)
 |ins z a b c d f=>exact .ins (e _ _ z) a b c d f
theorem TyE.same{K:Frag}{H H':Hp}{x:V}{t:Value}(h:TyE K H x t)(e:A8 H H'):TyE K H' x t:=by
 cases h with
 |of h=>exact .of (A5c.same h e)
 |exc z k=>exact .exc (e _ _ z) k
 |excD z d k=>exact .excD (e _ _ z) (e _ _ d) k
 |tupK l c=>exact .tupK l c
def A3a (lo hi:Int) (v:V):Prop:=∃i,v= .int i/\lo<=i/\i<=hi
def B3x (K:Frag) (H:Hp) (lo hi:Int) (v:V):Prop:=∃t b1 b2,TyE K H v t/\kitOne K t (.type "int")=some b1/\kitOne K t (.type "bool")=some b2/\((b1&& !b2)=false\/∃i,v= .int i/\(i<lo\/hi<i))
section
variable{K:Frag}{H:Hp}{lo hi:Int}
end
def Exc (p:Addr) (H H':Hp):Prop:=∀b o,H b=some o ->b≠p ->H' b=some o
theorem Exc.refl(p:Addr)(H:Hp):Exc p H H:=fun _ _ h _=>h
theorem Exc.trans{p:Addr}{H H1 H2:Hp}(a:Exc p H H1)(b:Exc p H1 H2):Exc p H H2:=fun c o h n=>b c o (a c o h n) n
theorem Exc.upd{p:Addr}{H:Hp}{o:HO}:Exc p H (L2.upd H p o):=fun b u e n=>by rw[D0 n];exact e
theorem Exc.of{p:Addr}{H H':Hp}(s:A8 H H'):Exc p H H':=fun b o h _=>s b o h
def Has (P:Program) (w:World) (K:Frag) (mg:Str ->Option Value) (base:Heap) (C:Addr) (m:Str) (k:Nat) (ps:List Str) (sp:Sp):Prop:=∃f fd,A8b K C m f/\G6 P w K mg base (CX1 P w) k f fd ps sp/\Y6 K fd ps []
noncomputable def A4f (z:Str) (b:Bool):List Str:=if b then [z] else []
structure J5b(K:Frag)(C C1 C2 C3 C4 C5:Addr)(b1 b2 b3 b4 b5:Bool):Prop where
 k:B7x K C
 h1:kitOne K (.ref C) (.ref C1)=some b1
 h2:kitOne K (.ref C) (.ref C2)=some b2
 h3:kitOne K (.ref C) (.ref C3)=some b3
 h4:kitOne K (.ref C) (.ref C4)=some b4
 h5:kitOne K (.ref C) (.ref C5)=some b5
 hv:kitOne K (.ref C) (.type "ValueError")=some true
theorem J3e{us:List Value}(h:us.length=2):∃a b,us=[a,b]:=by
 obtain⟨a,t,rfl⟩:=List.exists_cons_of_length_eq_add_one h
 obtain⟨b,t,rfl⟩:=List.exists_cons_of_length_eq_add_one (Nat.succ.inj h)
 exact⟨a,b,by rw[List.eq_nil_of_length_eq_zero (Nat.succ.inj (Nat.succ.inj h))]⟩
theorem G3q{us:List Value}(h:us.length=3):∃a b c,us=[a,b,c]:=by
 obtain⟨a,t,rfl⟩:=List.exists_cons_of_length_eq_add_one h
 obtain⟨b,c,e⟩:=J3e (Nat.succ.inj h)
 exact⟨a,b,c,by rw[e]⟩
theorem G8p{us:List Value}(h:us.length=4):∃a b c d,us=[a,b,c,d]:=by
 obtain⟨a,t,rfl⟩:=List.exists_cons_of_length_eq_add_one h
 obtain⟨b,c,d,e⟩:=G3q (Nat.succ.inj h)
 exact⟨a,b,c,d,by rw[e]⟩
theorem J3z{us:List Value}(h:us.length=5):∃a b c d e,us=[a,b,c,d,e]:=by
 obtain⟨a,t,rfl⟩:=List.exists_cons_of_length_eq_add_one h
 obtain⟨b,c,d,e,z⟩:=G8p (Nat.succ.inj h)
 exact⟨a,b,c,d,e,by rw[z]⟩
theorem D9f{us ds:List Value}{n:Nat}(h:(us++ds).length=n):us.length=n-ds.length:=by rw[List.length_append] at h;omega
end TR
namespace L2
open PySem PySem.Spec PyProof.Rows
section
variable{κ:Type} [DecidableEq κ]
noncomputable def A8y (kvs:List (κ×V)) (k:κ):Option V:=(kvs.find? fun kv=>decide (kv.1=k)).map (·.2)
noncomputable def A8k (kvs:List (κ×V)) (k:κ) (v:V):List (κ×V):=
 if(kvs.any fun kv=>decide (kv.1=k))=true then kvs.map (fun kv=>if kv.1=k then(kv.1,v) else kv) else kvs++ [(k,v)]
theorem B3m{p:κ×V}{r:List (κ×V)}{k:κ}(e:p.1=k):A8y (p::r) k=some p.2:=by simp[A8y,List.find?_cons,e]
theorem B1k{p:κ×V}{r:List (κ×V)}{k:κ}(e:¬p.1=k):A8y (p::r) k=A8y r k:=by simp[A8y,List.find?_cons,e]
theorem B8q(k:κ):∀kvs:List (κ×V),(kvs.any fun kv=>decide (kv.1=k))=(A8y kvs k).isSome
 | []=>rfl
 | p::r=>by
   rw[List.any_cons]
   by_cases e:p.1=k
   . simp only[B3m e,decide_eq_true e,Bool.true_or,Option.isSome_some]
   . rw[B1k e,decide_eq_false e,Bool.false_or];exact B8q k r
theorem A9u(kvs:List (κ×V))(k:κ)(v:V):(A8k kvs k v).length<=kvs.length+1:=by
 unfold A8k
 split
 . rw[List.length_map];omega
 rw[List.length_append,List.length_cons,List.length_nil];omega
theorem A4g.isSome_eq{o:Option V}{u:Option Value}(r:A4g o u):o.isSome=u.isSome:=by
 cases o with
 | none=>cases u with
   |none=>rfl
   |some _=>exact(show False from r).elim
 | some _=>cases u with
   |none=>exact(show False from r).elim
   |some _=>rfl
theorem KV.val{kvs:List (κ×V)}{vs:List (κ×Value)}(r:KV kvs vs)(k:κ):A4g (A8y kvs k) (valueAt vs k):=by
 unfold KV at r
 induction r with
 |nil=>exact True.intro
 | @cons p q ps qs h t ih=>
   obtain⟨h1,h2⟩:=h
   by_cases e:p.1=k
   . have e':q.1=k:=h1.symm.trans e
     have b:valueAt (q::qs) k=some q.2:=by simp[valueAt,List.find?_cons,e']
     rw[B3m e,b];exact h2
   . have e':¬q.1=k:=fun z=>e (h1.trans z)
     have b:valueAt (q::qs) k=valueAt qs k:=by simp[valueAt,List.find?_cons,e']
     rw[B1k e,b];exact ih
theorem KV.any{kvs:List (κ×V)}{vs:List (κ×Value)}(r:KV kvs vs)(k:κ):(kvs.any fun kv=>decide (kv.1=k))=vs.any fun kv=>decide (kv.1=k):=by
 unfold KV at r
 induction r with
 |nil=>rfl
 |cons h t ih=>rw[List.any_cons,List.any_cons,ih,h.1]
theorem KV.repl{kvs:List (κ×V)}{vs:List (κ×Value)}(r:KV kvs vs)(k:κ){y:V}{u:Value}(ry:V4 y u):
   KV (kvs.map fun kv=>if kv.1=k then(kv.1,y) else kv) (vs.map fun kv=>if kv.1=k then(kv.1,u) else kv):=by
 unfold KV at r ⊢
 induction r with
 |nil=>exact .nil
 | @cons p q ps qs h t ih=>
   rw[List.map_cons,List.map_cons]
   refine .cons ?_ ih
   obtain⟨h1,h2⟩:=h
   by_cases e:p.1=k
   . rw[if_pos e,if_pos (h1.symm.trans e)];exact⟨h1,ry⟩
   . rw[if_neg e,if_neg (fun z=>e (h1.trans z))];exact⟨h1,h2⟩
theorem KV.put{kvs:List (κ×V)}{vs:List (κ×Value)}(r:KV kvs vs)(k:κ){y:V}{u:Value}(ry:V4 y u):KV (A8k kvs k y) (stored vs k u):=by
 unfold A8k stored
 rw[r.any k]
 by_cases e:(vs.any fun kv=>decide (kv.1=k))=true
 . rw[if_pos e,if_pos e];exact r.repl k ry
 rw[if_neg e,if_neg e];exact Paired.snoc r ⟨rfl,ry⟩
theorem KV.length{kvs:List (κ×V)}{vs:List (κ×Value)}(r:KV kvs vs):kvs.length=vs.length:=Paired.length r
end
theorem D1f{P:Program}{w:World}{k:Key}{u:Value}(r:V4 (kV k) u):(A0j P w).is k u=true:=by
 cases k with
 |inl i=>obtain⟨t,e⟩:=(show∃t,u=Value.int i t from r);subst e;exact C0d P w i t
 |inr x=>obtain⟨t,e⟩:=(show∃t,u=Value.str x t from r);subst e;exact B9z P w x t
theorem B5d{P:Program}{w:World}:∀{ks:List Key} {us:List Value},G7 (ks.map kV) us ->ItemsAre (A0j P w) ks us
 | [],_,r=>by rw[List.map_nil] at r;cases r;exact .nil
 | k::ks,_,r=>by
   rw[List.map_cons] at r
   cases r with
   |cons h t=>exact .cons (D1f h) (B5d t)
noncomputable abbrev KT (H:Hp):List (List Key×V) ->List (List Key×Addr×Value) ->Prop:=Paired fun p q=>p.1=q.1/\H q.2.1=some (.tup (p.1.map kV))/\V4 p.2 q.2.2
theorem KT.val{H:Hp}{kvs:List (List Key×V)}{xs:List (List Key×Addr×Value)}(r:KT H kvs xs)(k:List Key):A4g (A8y kvs k) ((atKey xs k).map (·.2)):=by
 induction r with
 |nil=>exact True.intro
 | @cons p q ps qs h t ih=>
   obtain⟨h1,_,h2⟩:=h
   by_cases e:p.1=k
   . have e':q.1=k:=h1.symm.trans e
     have b:atKey (q::qs) k=some q.2:=by simp[atKey,List.find?_cons,e']
     rw[B3m e,b];exact h2
   . have e':¬q.1=k:=fun z=>e (h1.trans z)
     have b:atKey (q::qs) k=atKey qs k:=by simp[atKey,List.find?_cons,e']
     rw[B1k e,b];exact ih
theorem KT.repl{H:Hp}{kvs:List (List Key×V)}{xs:List (List Key×Addr×Value)}(r:KT H kvs xs)(k:List Key){y:V}{u:Value}(ry:V4 y u):
   KT H (kvs.map fun kv=>if kv.1=k then(kv.1,y) else kv) (xs.map (putAt k u)):=by
 induction r with
 |nil=>exact .nil
 | @cons p q ps qs h t ih=>
   rw[List.map_cons,List.map_cons]
   refine .cons ?_ ih
   obtain⟨h1,h2,h3⟩:=h
   unfold putAt
   by_cases e:p.1=k
   . rw[if_pos e,if_pos (h1.symm.trans e)];exact⟨h1,h2,ry⟩
   . rw[if_neg e,if_neg (fun z=>e (h1.trans z))];exact⟨h1,h2,h3⟩
theorem KT.put{H:Hp}{kvs:List (List Key×V)}{xs:List (List Key×Addr×Value)}(r:KT H kvs xs)(k:List Key){b:Addr}{y:V}{u:Value}(hb:H b=some (.tup (k.map kV)))(ry:V4 y u):
   KT H (A8k kvs k y) (storedH xs k b u):=by
 have e:(kvs.any fun kv=>decide (kv.1=k))=(atKey xs k).isSome:=by
   rw[B8q,(r.val k).isSome_eq,Option.isSome_map]
 unfold A8k storedH
 rw[e]
 by_cases q:(atKey xs k).isSome=true
 . rw[if_pos q,if_pos q];exact r.repl k ry
 rw[if_neg q,if_neg q];exact Paired.snoc r ⟨rfl,hb,ry⟩
theorem KT.keeps{H H':Hp}{kvs:List (List Key×V)}{xs:List (List Key×Addr×Value)}(r:KT H kvs xs)(ht:∀b ys,H b=some (.tup ys) ->H' b=some (.tup ys)):KT H' kvs xs:=
 Paired.mapP r fun _ _ z=>⟨z.1,ht _ _ z.2.1,z.2.2⟩
section
variable{P:Program}{w:World}{H:Hp}{h:Heap}{a:Addr}
theorem G3b{u:HO}(ok:HOk P w H h)(e:Rd H a u):Z2 P w H h a u:=e.ok ok
theorem G2u{kvs:List (Key×V)}(ok:HOk P w H h)(e:Rd H a (.dK kvs)):kvs.length<=sizeLine/\(a==sysModules)=false/\∃vs,KV kvs vs/\h.DictOf (A0j P w) a vs:=
 show Z2 P w H h a (.dK kvs) from G3b ok e
theorem G9y{kvs:List (Key×V)}(ok:HOk P w H h)(e:H a=some (.dK kvs)):kvs.length<=sizeLine/\(a==sysModules)=false/\∃vs,KV kvs vs/\h.DictOf (A0j P w) a vs:=G2u ok (.inl e)
theorem C2g{ks:List Key}(ok:HOk P w H h)(e:H a=some (.tup (ks.map kV))):(tupleKind (A0j P w)).is h ks a:=by
 obtain⟨_,its,r,o,h1,h2,n,h3⟩:=(show Z2 P w H h a (.tup (ks.map kV)) from ok a _ e)
 exact⟨o,its.toArray,n,h1,h2,h3,by simpa using B5d r⟩
theorem G2w{kvs:List (List Key×V)}(ok:HOk P w H h)(e:Rd H a (.dT kvs)):kvs.length<=sizeLine/\(a==sysModules)=false/\
   ∃xs,KT H kvs xs/\h.DictOfH (tupleKind (A0j P w)) a xs:=by
 obtain⟨z,y,xs,r,o,es,ep,h1,h2,h3,h4,h5⟩:=(show Z2 P w H h a (.dT kvs) from G3b ok e)
 refine⟨z,y,xs,r,o,es,ep,h1,h2,h3,h4,fun x hx=>?_,h5⟩
 have all:∀{l:List (List Key×V)} {m:List (List Key×Addr×Value)},KT H l m ->∀x∈m,(tupleKind (A0j P w)).is h x.1 x.2.1:=by
   intro l m q
   induction q with
   |nil=>intro x hx;exact nomatch hx
   | @cons p q ps qs hq t ih=>
     intro x hx
     rcases List.mem_cons.mp hx with e|hx
     . subst e
       exact C2g ok (by rw[<-hq.1];exact hq.2.1)
     . exact ih x hx
 exact all r x hx
theorem J0u{kvs:List (List Key×V)}(ok:HOk P w H h)(e:H a=some (.dT kvs)):kvs.length<=sizeLine/\(a==sysModules)=false/\
   ∃xs,KT H kvs xs/\h.DictOfH (tupleKind (A0j P w)) a xs:=G2w ok (.inl e)
end
def C8w (H:Hp) (a:Addr) (y:V) (r:Option V):Prop:=
 (∃kvs k,Rd H a (.dK kvs)/\y=kV k/\r=A8y kvs k)\/∃kvs k b,Rd H a (.dT kvs)/\y= .ref b/\H b=some (.tup (k.map kV))/\r=A8y kvs k
def D3t (H:Hp) (a:Addr) (y v:V) (H':Hp):Prop:=
 (∃kvs k,H a=some (.dK kvs)/\y=kV k/\kvs.length<sizeLine/\H'=upd H a (.dK (A8k kvs k v)))\/
 ∃kvs k b,H a=some (.dT kvs)/\y= .ref b/\H b=some (.tup (k.map kV))/\kvs.length<sizeLine/\H'=upd H a (.dT (A8k kvs k v))
theorem C8w.k{H:Hp}{a:Addr}{kvs:List (Key×V)}{k:Key}(e:H a=some (.dK kvs)):C8w H a (kV k) (A8y kvs k):= .inl ⟨kvs,k,.inl e,rfl,rfl⟩
theorem D3t.k{H:Hp}{a:Addr}{kvs:List (Key×V)}{k:Key}{v:V}(e:H a=some (.dK kvs))(hl:kvs.length<sizeLine):D3t H a (kV k) v (upd H a (.dK (A8k kvs k v))):= .inl ⟨kvs,k,e,rfl,hl,rfl⟩
section
variable{X:Cx}{pins:List (Addr×Obj)}{σ:St}{H:Hp}{s:Shared}{a:Addr}{y v:V}{u r:Value}{o:Option V}{A:Around}{E:Value ->Shared ->Prop}
theorem J4d{Q:Value ->Shared ->Prop}(hu:A.units+1<cLine)(I:Inv X pins σ H s)(g:C8w H a y o)(ry:V4 y u)(h:∀s',Inv X pins σ H s' ->Q (.bool o.isSome) s'):
   wpAny (model X.prog X.w) A (compareOp .In u (.ref a)) Q E s:=by
 rcases g with⟨kvs,k,e,ey,l⟩|⟨kvs,k,b,e,ey,eb,l⟩
 . subst ey
   obtain⟨z,hd,vs,rel,dd⟩:=G2u I.hok e
   refine wpAny_in_of (D1f ry) hd dd.mapOf ?_
   rw[<-(rel.val k).isSome_eq, <-l]
   exact h _ (I.tok _)
 subst ey
 cases(show u=Value.ref b from ry)
 obtain⟨z,hd,xs,rel,dd⟩:=G2w I.hok e
 refine wpAny_in_heap (tupleKind_room_in1 hu) (C2g I.hok eb) hd dd ?_
 have q:=(rel.val k).isSome_eq
 rw[Option.isSome_map] at q
 rw[<-q, <-l]
 exact h _ (I.tok _)
theorem C4t{h':Heap}{t':Nat}{ob:HO}(I:Inv X pins σ H s)(mu:Mut (H a))(hs:Heap.SameBut a s.heap h')(he:∃q,h'.get? a=some q)(new:Z2 X.prog X.w (upd H a ob) h' a ob):
   Inv X pins σ (upd H a ob) {s with heap:=h',toks:=t'}:=
 I.write (x:=a) (e:=a) mu (.inl rfl) (fun b q hb z=>(hs.2 b hb).trans z) he new
theorem G6g{P:Program}{w:World}{H':Hp}{h':Heap}{kvs:List (Key×V)}{vs:List (Key×Value)}(z:kvs.length<=sizeLine)(hd:(a==sysModules)=false)(rel:KV kvs vs)(dd:h'.DictOf (A0j P w) a vs):
   Z2 P w H' h' a (.dK kvs):=⟨z,hd,vs,rel,dd⟩
theorem C6c{H':Hp}{Q:Unit ->Shared ->Prop}(hu:A.units+1<cLine)(I:Inv X pins σ H s)(g:D3t H a y v H')(ry:V4 y u)(rv:V4 v r)(h:∀s',Inv X pins σ H' s' ->Q () s'):
   wpAny (model X.prog X.w) A (setItem (.ref a) u r) Q E s:=by
 rcases g with⟨kvs,k,e,ey,l,eH⟩|⟨kvs,k,b,e,ey,eb,l,eH⟩
 . subst ey eH
   obtain⟨z,hd,vs,rel,dd⟩:=G9y I.hok e
   have hz:vs.length<=sizeLine:=by rw[<-rel.length];exact z
   have hl:(A8k kvs k v).length<=sizeLine:=by have:=A9u kvs k v;omega
   refine wpAny_setItem_pairs (hsz:=hz) (D1f ry) dd fun h' dd' hs=>h _ ?_
   have he:∃q,h'.get? a=some q:=let⟨q,_,_,hq,_⟩:=dd';⟨q,hq⟩
   exact C4t I (by rw[e];exact True.intro) hs he (G6g hl hd (rel.put k rv) dd')
 subst ey eH
 cases(show u=Value.ref b from ry)
 obtain⟨z,hd,xs,rel,dd⟩:=J0u I.hok e
 have hz:xs.length<=sizeLine:=by rw[<-Paired.length rel];exact z
 have hl:(A8k kvs k v).length<=sizeLine:=by have:=A9u kvs k v;omega
 refine wpAny_setItem_heap (hsz:=hz) (tupleKind_room_in1 hu) (C2g I.hok eb) dd fun h' dd' hs=>h _ ?_
 obtain⟨q,es,ep,hq,h2,h3,h4,_,h5⟩:=dd'
 refine C4t I (by rw[e];exact True.intro) hs ⟨q,hq⟩ ⟨hl,hd,_,(rel.put k eb rv).keeps fun c ys ec=>?_,q,es,ep,hq,h2,h3,h4,h5⟩
 rw[D0 (U4 ec e (fun z=>nomatch z))]
 exact ec
end
section
variable{X:Cx}{pins:List (Addr×Obj)}{σ:St}{H:Hp}{s:Shared}{a:Addr}{kvs:List (Key×V)}{k:Key}{u:Value}{A:Around}{E:Value ->Shared ->Prop}
end
def J3g (ty td:TE):TE:=fun σ H Q=>ty σ H fun y H1=>td σ H1 fun x H2=>∃a o,x= .ref a/\C8w H2 a y o/\Q (.bl o.isSome) H2
def G9w (td ty tv:TE):TS:=fun D σ H=>tv σ H fun v H1=>td σ H1 fun x H2=>ty σ H2 fun y H3=>∃a H4,x= .ref a/\D3t H3 a y v H4/\D.nx σ H4
section
variable{X:Cx}{o i e value:Expr}{pos pos' tpos:Pos}{td ty tv:TE}
theorem D2n(hu:X.A.units+1<cLine)(hi:PE X i ty)(ho:PE X o td):PC X .In i o (J3g ty td):=by
 intro pins s σ H Q I h
 refine thn (hi pins s σ H _ I h) fun iv s1 ⟨y,H1,I1,ry,q1⟩=>thn (ho pins s1 σ H1 _ I1 q1) fun u s2 hh_=>?_
 obtain⟨x,H2,I2,rx,a,ov,ex,g,q2⟩:=hh_
 subst ex
 obtain rfl:u=Value.ref a:=rx
 exact J4d hu I2 g ry fun s3 I3=>⟨.bl ov.isSome,H2,I3,rfl,q2⟩
theorem G1m(hu:X.A.units+1<cLine)(ho:PE X o td)(hi:PE X i ty)(hv:PE X value tv)(hs:swapsWith value (some (.Subscript o i pos')) pos.line X.env=pure false):
   PS X (.Assign [.Subscript o i pos'] value pos) (G9w td ty tv):=by
 intro pins s σ H D I h
 refine wpAny_Assign_Subscript (thn (hv pins s σ H _ I h) fun r s1 ⟨v,H1,I1,rv,q1⟩=>thn (ho pins s1 σ H1 _ I1 q1) fun u s2 ⟨x,H2,I2,rx,q2⟩=>thn (hi pins s2 σ H2 _ I2 q2) fun iv s3 hh_=>?_) hs
 obtain⟨y,H3,I3,ry,a,H4,ex,g,q3⟩:=hh_
 subst ex
 obtain rfl:u=Value.ref a:=rx
 exact C6c hu I3 g ry rv fun s4 I4=>⟨σ,H4,I4,q3⟩
end
section
variable{X:Cx}{pos:Pos}
end
end L2
namespace L2
open PySem PySem.Spec PyProof.Rows PySem.W
noncomputable def A1a (F:List Str) (env:Env):List (Str×Addr):=F.map fun x=>(x,(env.cells.lookup x).getD 0)
noncomputable def A2h (js:List Nat) (σ:St):St:=js.map fun j=>(σ[j]?).getD none
noncomputable abbrev Cx.compF (X:Cx) (scope:Scope) (N F:List Str) (C:Addr) (s₀:Shared) (H₀:Hp) (ex:List Addr) (pins:List (Addr×Obj)):Cx:=
 {X with N:=N++F,s₀:=s₀,H₀:=H₀,env:=compEnvC scope (A1a F X.env) C X.env,outer:=X.stack,ex:=ex,fn:=fun _=>false,pn:=pins,xe:=fun _ _=>False}
structure D3(N F:List Str)(js:List Nat)(sc:Scope)(XN:List Str)(env:Env):Prop where
 kind:sc.kind= .function
 cell:∀y∈sc.names,y.2≠ .cell
 loc:∀y∈sc.names,y.2= .local ->sc.names.lookup y.1=some .local
 nd:(N++F).Nodup
 clos:closureFor sc env=pure (A1a F env)
 fr:∀y∈(relabel sc env).names,y.2= .cell\/y.2= .free ->y.1∈F
 at_:∀(k:Nat) (x:Str),F[k]?=some x ->(∃j:Nat,js[k]?=some j/\XN[j]?=some x)/\(∃c,env.cells.lookup x=some c)/\env.kindOf x=some .cell/\(relabel sc env).names.lookup x=some .cell
 jl:js.length=F.length
def A6e (n:Nat) (js:List Nat) (wi:TI) (g:TG) (tc:TT) (te:TE):TE:=fun σ H Q=>wi σ H fun J H1=>∀D,H1 D=none ->
 ∃ (m:Nat) (W:Nat ->List V ->Hp ->Prop),W 0 [] (upd H1 D (.lst []))/\∀i ys H2,W i ys H2 ->i<=m/\H2 D=some (.lst ys)/\((J.stop i H2/\Q (.ref D) H2)\/(i<m/\J.go i H2/\∀x H3,J.yld i H2 x H3 ->
   g x (List.replicate n none++A2h js σ) H3 fun σ4 H4=>tc σ4 H4 fun b H5=>if b=true then te σ4 H5 fun y H6=>H6 D=some (.lst ys)/\ys.length<sizeLine/\W (i+1) (ys++ [y]) (upd H6 D (.lst (ys++ [y]))) else W (i+1) ys H5))
def A7d (n:Nat) (js:List Nat) (wi:TI) (g:TG) (te:TE):TE:=fun σ H Q=>wi σ H fun J H1=>∀D,H1 D=none ->
 ∃ (m:Nat) (W:Nat ->List V ->Hp ->Prop),W 0 [] (upd H1 D (.lst []))/\∀i ys H2,W i ys H2 ->i<=m/\H2 D=some (.lst ys)/\((J.stop i H2/\Q (.ref D) H2)\/(i<m/\J.go i H2/\∀x H3,J.yld i H2 x H3 ->
   g x (List.replicate n none++A2h js σ) H3 fun σ4 H4=>te σ4 H4 fun y H6=>H6 D=some (.lst ys)/\ys.length<sizeLine/\W (i+1) (ys++ [y]) (upd H6 D (.lst (ys++ [y])))))
theorem G6h{F:List Str}{env:Env}{x:Str}{c:Addr}(h:(A1a F env).lookup x=some c):x∈F/\c=(env.cells.lookup x).getD 0:=by
 have:=PySem.mem_of_lookup h
 obtain⟨y,hy,e⟩:=List.mem_map.mp this
 cases e
 exact⟨hy,rfl⟩
theorem D0y{env:Env}{x:Str}:∀{F:List Str},x∈F ->(A1a F env).lookup x=some ((env.cells.lookup x).getD 0)
 | y ::F,h=>by
   show List.lookup x ((y,(env.cells.lookup y).getD 0)::A1a F env)=_
   by_cases e:x=y
   . subst e;simp[List.lookup]
   . have hb:(x==y)=false:=beq_eq_false_iff_ne.mpr e
     rw[List.lookup_cons,hb]
     exact D0y (by rcases List.mem_cons.mp h with z|z;exact absurd z e;exact z)
section
variable{X:Cx}{N F:List Str}{js:List Nat}{scope:Scope}
theorem D3.sub(S:D3 N F js scope X.N X.env):∀x c,(A1a F X.env).lookup x=some c ->X.env.cells.lookup x=some c:=fun x c z=>by
 obtain⟨hx,rfl⟩:=G6h z
 obtain⟨k,hk⟩:=List.mem_iff_getElem?.mp hx
 obtain⟨_,⟨c,hc⟩,_⟩:=S.at_ k x hk
 rw[hc];rfl
theorem D3.has(S:D3 N F js scope X.N X.env){x:Str}(hx:x∈F):∃c,(A1a F X.env).lookup x=some c/\X.env.cells.lookup x=some c:=
 ⟨_,D0y hx,S.sub _ _ (D0y hx)⟩
theorem A5g{pins:List (Addr×Obj)}{σ:St}{H:Hp}{s:Shared}(S:D3 N F js scope X.N X.env)(I:Inv X pins σ H s){h':Heap}{m:Str ->Option Value}{C:Addr}(hc:∀x c v,X.env.cells.lookup x=some c ->s.heap.IsCell c v ->h'.IsCell c v):
   ∀(i:Nat) (x:Str) (v:V),(N++F)[i]?=some x ->(List.replicate N.length none++A2h js σ)[i]?=some (some v) ->∃u,V4 v u/\J0y (compEnvC scope (A1a F X.env) C X.env) h' m x u:=by
 intro i x v e1 e2
 by_cases hi:i<N.length
 . rw[List.getElem?_append_left (by simpa using hi),List.getElem?_replicate] at e2
   split at e2<;>cases e2
 rw[List.getElem?_append_right (by omega)] at e1
 rw[List.getElem?_append_right (by simp;omega)] at e2
 rw[List.length_replicate] at e2
 obtain⟨⟨j,hj,hx⟩,⟨c,hcc⟩,kx,kr⟩:=S.at_ _ x e1
 unfold A2h at e2
 rw[List.getElem?_map,hj] at e2
 have e2:(σ[j]?).getD none=some v:=Option.some.inj e2
 have e3:σ[j]?=some (some v):=by
   cases q:σ[j]? with
   |none=>rw[q] at e2;cases e2
   |some o=>rw[q] at e2;exact congrArg some e2
 obtain⟨m0,_,hl⟩:=I.loc
 obtain⟨u,r,l⟩:=hl j x v hx e3 (.inr (.inl kx))
 refine⟨u,r,.inr ⟨.inl kr,c,?_,?_⟩⟩
 . obtain⟨c',h1,h2⟩:=S.has (List.mem_of_getElem? e1)
   rw[hcc] at h2
   cases h2
   exact h1
 rcases l with⟨k,_⟩|⟨_,c',h1,h2⟩
 . rw[kx] at k;cases k
 rw[hcc] at h1
 cases h1
 exact hc x c _ hcc h2
theorem B7p(S:D3 N F js scope X.N X.env)(σ:St):(List.replicate N.length none++A2h js σ:St).length=(N++F).length:=by
 unfold A2h
 rw[List.length_append,List.length_replicate,List.length_map,S.jl,List.length_append]
theorem B4h{pins:List (Addr×Obj)}{σ:St}{H:Hp}{s:Shared}{it:Addr}{h':Heap}(S:D3 N F js scope X.N X.env)(I:Inv X pins σ H s)(hf:A0t X pins H it)(hit:∃o,s.heap.get? it=some o)(hnb:X.base.get? it=none)
   (hns:h'.Ns s.heap.objs.size (fun _=>none)) (hsb:∀b o,s.heap.get? b=some o ->h'.get? b=some o) {tk:Nat}:
   Inv (X.compF scope N F s.heap.objs.size s H [it] (X.pn++pins)) [] (List.replicate N.length none++A2h js σ) H {s with heap:=h',toks:=tk}:=by
 obtain⟨f0,f1,f2,f3,f4,f5⟩:=hf
 obtain⟨oi,ei⟩:=hit
 have lt:it<s.heap.objs.size:=Heap.lt_size ei
 have ck:∀c v,s.heap.IsCell c v ->h'.IsCell c v:=fun c v ⟨o,e,d⟩=>⟨o,hsb _ _ e,d⟩
 have inF:∀x,((compEnvC scope (A1a F X.env) s.heap.objs.size X.env).kindOf x=some .cell\/(compEnvC scope (A1a F X.env) s.heap.objs.size X.env).kindOf x=some .free) ->x∈F:=by
   intro x z
   have z:(relabel scope X.env).names.lookup x=some .cell\/(relabel scope X.env).names.lookup x=some .free:=z
   rcases z with z|z
   . exact S.fr _ (PySem.mem_of_lookup z) (.inl rfl)
   . exact S.fr _ (PySem.mem_of_lookup z) (.inr rfl)
 refine⟨⟨I.ok.mod,S.kind,I.ok.glob,I.ok.blt,Nat.le_refl _,fun x y c z z'=>I.ok.inj x y c (S.sub x c z) (S.sub y c z'),fun x z=>?_,fun x c z _=>(nomatch z),I.ok.hd,I.ok.frames,.inl rfl,fun b hb=>?_,I.bs,Nat.le_trans I.ok.bsz I.sz,fun b o e hb=>?_,fun b hb hfs=>?_,I.stack,I.stkFree⟩,
   rfl,I.bare,Un.kept hsb,⟨_,hns,fun i x v e1 e2 e3=>A5g S I (fun x c v _ z=>ck c v z) i x v e1 e2⟩,fun x c z=>?_,I.hok.fresh (Nat.le_refl _),fun x c z=>I.freeC x c (S.sub x c z),fun p hp=>?_,I.hok.kept hsb,B7p S σ⟩
 . obtain⟨c,h1,_⟩:=S.has (inF x z)
   exact⟨c,h1⟩
 . have e:b=it:=by simpa using hb
   subst e
   exact⟨Nat.ne_of_lt lt,fun x c z=>f4 x c (S.sub x c z)⟩
 . have e':b=it:=by simpa using hb
   subst e'
   rw[hnb] at e
   cases e
 . have e':b=it:=by simpa using hb
   subst e'
   rcases List.mem_cons.mp (I.stkSub b hfs) with z|z
   . exact f1 z
   . exact f2 z
 . obtain⟨v,z'⟩:=I.cell x c (S.sub x c z)
   exact⟨v,ck c v z'⟩
 have hp':p∈X.pn++pins:=by simpa using hp
 obtain⟨q1,q2,q3,q4,q5⟩:=I.pin p hp'
 refine⟨hsb _ _ q1,q2,Nat.ne_of_lt (Heap.lt_size q1),fun z=>?_,q5⟩
 rcases List.mem_cons.mp (I.stkSub p.1 z) with z|z
 . exact q3 z
 exact q4 z
theorem B4g{pins pl:List (Addr×Obj)}{σ σ':St}{H H':Hp}{s s':Shared}{it:Addr}(S:D3 N F js scope X.N X.env)(I:Inv X pins σ H s)(hf:A0t X pins H it)(J:Inv (X.compF scope N F s.heap.objs.size s H [it] (X.pn++pins)) pl σ' H' s'):
   Inv (X.compF scope N F s.heap.objs.size s H [it] (X.pn++pins)) [] (List.replicate N.length none++A2h js σ) H' s':=by
 obtain⟨m,hn,_⟩:=J.loc
 refine⟨J.ok,J.os,J.bare,J.base,⟨m,hn,fun i x v e1 e2 e3=>A5g S I (fun x c v z q=>?_) i x v e1 e2⟩,J.cell,J.free,J.freeC,fun p hp=>J.pin p (by
   have hp:p∈(X.pn++pins)++ []:=hp
   rw[List.append_nil] at hp
   exact List.mem_append_left _ hp),J.hok,B7p S σ⟩
 obtain⟨o,e,d⟩:=q
 have ne:c ∉ [it]:=fun w=>hf.2.2.2.2.1 x c z (by simpa using w)
 obtain⟨sl,q⟩:=J.base.any e (I.freeC x c z) ne
 exact⟨_,q,d⟩
theorem B1e{elt target iter c:Expr}{scope:Scope}{pos:Pos}{N F:List Str}{js:List Nat}{wi:TI}{g:TG}{tc:TT}{te:TE}(S:D3 N F js scope X.N X.env)(hd:Y0 X)(hi:PIH X target iter wi)(hex:X.ex=[])
   (hg:∀C s₀ H₀ ex pn,Y0 (X.compF scope N F C s₀ H₀ ex pn) ->PG (X.compF scope N F C s₀ H₀ ex pn) target g)
   (hc:∀C s₀ H₀ ex pn,Y0 (X.compF scope N F C s₀ H₀ ex pn) ->PT (X.compF scope N F C s₀ H₀ ex pn) c tc)
   (he:∀C s₀ H₀ ex pn,Y0 (X.compF scope N F C s₀ H₀ ex pn) ->PE (X.compF scope N F C s₀ H₀ ex pn) elt te)
   {pins:List (Addr×Obj)} {s:Shared} {σ:St} {H:Hp} {Q:VK} {RR:Value ->Env ->Result ->Shared ->Prop} (I:Inv X pins σ H s) (h:(A6e N.length js wi g tc te) σ H Q)
   (hRR:∀(D C:Addr) (s6:Shared) (H5:Hp) (mm:Str ->Option Value),Inv X pins σ H5 s6 ->s6.heap.Ns C mm ->A0t X pins H5 C ->Q (.ref D) H5 ->RR (.ref D) (compEnvC scope (A1a F X.env) C X.env) (.ok .next) s6):
   wpAny (model X.prog X.w) X.A (eval iter X.env) (fun v s1=>wpAny (model X.prog X.w) X.A (pyIter v) (fun itv s2=>wpAny (model X.prog X.w) X.A (newList []) (fun acc s3=>wpAny (model X.prog X.w) X.A (newFunctionEnv scope X.env.globals (A1a F X.env) [] X.env.qual none .none (some X.env)) (fun cenv s4=>
     codeAny (model X.prog X.w) X.A (.compStart (.ListComp elt [⟨target,iter,[c],0⟩] scope pos) 0 itv acc {cenv with scope:=relabel scope X.env}) (RR acc {cenv with scope:=relabel scope X.env}) s4) X.xe s3) X.xe s2) X.xe s1) X.xe s:=by
 refine thn (hi pins s σ H _ I h) fun v s1 h1=>thn h1 fun itv s2 h2=>?_
 obtain⟨it,tn,J,H2,rfl,I2,T,st2,f2,R⟩:=h2
 obtain⟨oi,ei,di⟩:=T.obj _ _ st2
 have hf2:=I2.hok.fresh (Nat.le_refl _)
 refine wpAny_newObj_type ?_
 have I3:Inv X pins σ (upd H2 s2.heap.objs.size (.lst [])) {s2 with heap:=s2.heap.push {cls:= .type "list",dict:=none,data:= .seq ([]:List Value).toArray}}:=Inv.lnew (t':=s2.toks) I2 .nil (Nat.zero_le _)
 refine wpAny_newFunctionEnv S.cell (by intro y hy;simp at hy) (fun h4 hns hsb=>?_) S.kind
 dsimp only at hns hsb ⊢
 generalize hG:s2.heap.push {cls:= .type "list",dict:=none,data:= .seq ([]:List Value).toArray}=G at I3 hns hsb ⊢
 generalize hD:s2.heap.objs.size=D at I3 hf2
 have nD:it≠D:=by rw[<-hD];exact Nat.ne_of_lt (Heap.lt_size ei)
 have eiG:G.get? it=some oi:=by rw[<-hG];exact Heap.get?_push_of_some _ ei
 have kp:∀b o,G.get? b=some o ->h4.get? b=some o:=fun b o e=>hsb.extBut b o (Nat.ne_of_lt (Heap.lt_size e)) (Heap.get?_push_of_some _ e)
 have f3:A0t X pins (upd H2 D (.lst [])) it:=⟨by rw[D0 nD];exact f2.1,f2.2⟩
 have nb:X.base.get? it=none:=by
   cases q:X.base.get? it with
   |none=>rfl
   | some o=>
     have:=(I.ok.bs it o q).1
     rcases f2.2.2.2.1 with z|z
     . rw[hex] at z;simp at z
     . exact absurd (Nat.lt_of_lt_of_le (Heap.lt_size this) z) (Nat.lt_irrefl _)
 have hns':h4.Ns G.objs.size (fun _=>none):=by
   obtain⟨o,es,ep,q1,q2,q3,q4⟩:=hns
   exact⟨o,es,ep,q1,q2,q3,fun x=>by rw[q4];rfl⟩
 have I4:=B4h (tk:=s2.toks+([]:List (Str×Value)).length) S I3 f3 ⟨oi,eiG⟩ nb hns' kp
 have hdc:Y0 (X.compF scope N F G.objs.size {s2 with heap:=G} (upd H2 D (.lst [])) [it] (X.pn++pins)):=by
   rcases hd with z|⟨x,o,u,vs,z,e,d,n⟩
   . exact .inl z
   . refine .inr ⟨x,o,u,vs,z,?_,d,n⟩
     have q:=I2.base.frzs x o u e
     show upd H2 D (.lst []) x=_
     rw[D0 fun w=>by rw[w,hf2] at q;cases q]
     exact q
 obtain⟨m,W,w0,turn⟩:=R D hf2
 have gg:=hg _ _ _ _ _ hdc
 have cc:=hc _ _ _ _ _ hdc
 have ee:=he _ _ _ _ _ hdc
 have fpc:∀{H':Hp} {σ':St} {s':Shared} {pl:List (Addr×Obj)},Inv (X.compF scope N F G.objs.size {s2 with heap:=G} (upd H2 D (.lst [])) [it] (X.pn++pins)) pl σ' H' s' ->H' it=none ->(∀p∈pl,p.1≠it) ->A0t (X.compF scope N F G.objs.size {s2 with heap:=G} (upd H2 D (.lst [])) [it] (X.pn++pins)) pl H' it:=by
   intro H' σ' s' pl J' hn hp
   refine⟨hn,Nat.ne_of_lt (Heap.lt_size eiG),?_,.inl (List.mem_singleton.mpr rfl),(fun x c z=>f2.2.2.2.2.1 x c (S.sub x c z)),fun p hpp=>?_⟩
   . intro z
     rcases List.mem_cons.mp (I.stkSub it z) with z|z
     . exact f2.2.1 z
     . exact f2.2.2.1 z
   . rcases List.mem_append.mp hpp with z|z
     . exact f2.2.2.2.2.2 p z
     . exact hp p z
 have loop:codeAny (model X.prog X.w) X.A (.compLoop (.ListComp elt [⟨target,iter,[c],0⟩] scope pos) 0 (.ref it) (.ref D) (compEnvC scope (A1a F X.env) G.objs.size X.env))
     (RR (.ref D) (compEnvC scope (A1a F X.env) G.objs.size X.env))
     {s2 with heap:=h4,toks:=s2.toks+([]:List (Str×Value)).length}:=by
   refine kct_loop (fun k s'=>∃i ys H',k=m+1-i/\Inv (X.compF scope N F G.objs.size {s2 with heap:=G} (upd H2 D (.lst [])) [it] (X.pn++pins)) [] (List.replicate N.length none++A2h js σ) H' s'/\tn i s'.heap/\H' it=none/\W i ys H') ?_ (m+1)
     ⟨0,[],_,rfl,I4,T.keep _ _ _ st2 fun o e=>kp it o (by rw[<-hG];exact Heap.get?_push_of_some _ e),f3.1,w0⟩
   rintro k s5 ⟨i,ys,H5,rfl,I5,st5,n5,w5⟩
   obtain⟨hi5,hD5,w5⟩:=turn i ys H5 w5
   rcases w5 with⟨stop,q⟩|⟨lt5,go,step⟩
   . refine wpAny_mono (T.done (X.compF scope N F G.objs.size {s2 with heap:=G} (upd H2 D (.lst [])) [it] (X.pn++pins)) rfl rfl rfl hdc i [] s5 _ H5 (fun _ _=>False) I5 (fpc I5 n5 (by simp)) st5 stop) (fun r s6 z=>?_) (fun _ _ z=>z.elim)
     obtain⟨rfl,I6⟩:=z
     obtain⟨mm,hn6,_⟩:=I6.loc
     have B6:=I6.base
     have J6:Inv X pins σ H5 s6:=by
       refine I3.call' (ch:=[it]) I6.os ⟨B6.keep,B6.slot,B6.free,B6.there,B6.tups,B6.frzs,B6.tbls⟩ I6.hok I6.bare (fun b hb=>?_)
       have e:b=it:=by simpa using hb
       subst e
       exact⟨f2.2.2.2.1,f2.2.1,f2.2.2.2.2.1,f2.2.2.2.2.2⟩
     have szG:X.s₀.heap.objs.size<=G.objs.size:=I3.sz
     refine hRR D G.objs.size s6 H5 mm J6 hn6 ⟨I6.free,?_,?_,.inr szG,?_,?_⟩ q
     . exact Nat.ne_of_gt I3.lt
     . intro z
       obtain⟨_,o,ho,_⟩:=I3.funs.mem z
       exact Nat.lt_irrefl _ (Heap.lt_size ho)
     . rintro x c z rfl
       obtain⟨v',o,ho,_⟩:=I3.cell x _ z
       exact Nat.lt_irrefl _ (Heap.lt_size ho)
     . rintro p hp z
       have zz:=(I3.pin p hp).1
       rw[z] at zz
       exact Nat.lt_irrefl _ (Heap.lt_size zz)
   . refine wpAny_mono (T.item (X.compF scope N F G.objs.size {s2 with heap:=G} (upd H2 D (.lst [])) [it] (X.pn++pins)) rfl rfl rfl hdc i [] s5 _ H5 (fun _ _=>False) I5 (fpc I5 n5 (by simp)) st5 go) (fun r s6 z=>?_) (fun _ _ z=>z.elim)
     obtain⟨u,rfl,z⟩:=z
     refine wpAny_mono z (fun _ s7 z=>?_) (fun _ _ z=>z.elim)
     obtain⟨x,I7,rx,yl,st7⟩:=z
     obtain⟨o7,e7,d7⟩:=T.obj _ _ st7
     obtain⟨p0,p1,p2,_⟩:=fpc I7 n5 (by simp)
     have I7':Inv (X.compF scope N F G.objs.size {s2 with heap:=G} (upd H2 D (.lst [])) [it] (X.pn++pins)) [(it,o7)] (List.replicate N.length none++A2h js σ) H5 s7:=I7.pins_of fun p hp=>by
       have e:p=(it,o7):=by simpa using hp
       subst e
       exact⟨e7,p0,p1,p2,d7⟩
     have back:∀{i':Nat} {ys':List V} {H':Hp} {σ':St} {s':Shared},i'=i+1 ->Inv (X.compF scope N F G.objs.size {s2 with heap:=G} (upd H2 D (.lst [])) [it] (X.pn++pins)) [(it,o7)] σ' H' s' ->W i' ys' H' ->
         ∃k',k'<m+1-i/\∃i ys H',k'=m+1-i/\Inv (X.compF scope N F G.objs.size {s2 with heap:=G} (upd H2 D (.lst [])) [it] (X.pn++pins)) [] (List.replicate N.length none++A2h js σ) H' s'/\tn i s'.heap/\H' it=none/\W i ys H':=by
       rintro i' ys' H' σ' s' rfl J' w'
       obtain⟨q1,q2,_⟩:=J'.pin (it,o7) (List.mem_append_right _ (List.mem_singleton.mpr rfl))
       refine⟨m+1-(i+1),by omega,i+1,ys',H',rfl,B4g S I3 f3 J',T.keep _ _ _ st7 fun o z=>?_,q2,w'⟩
       rw[e7] at z
       cases z
       exact q1
     refine wpAny_mono (gg [(it,o7)] s7 _ H5 x u _ I7' rx (step x H5 yl)) (fun _ s8 z=>?_) (fun _ _ z=>z.elim)
     obtain⟨σ8,H8,I8,q8⟩:=z
     refine wpAny_mono (cc [(it,o7)] s8 σ8 H8 _ I8 q8) (fun b s9 z=>?_) (fun _ _ z=>z.elim)
     obtain⟨H9,I9,q9⟩:=z
     cases b with
     | false=>
       simp only[Bool.false_eq_true,if_false] at q9 ⊢
       exact back rfl I9 q9
     | true=>
       simp only[if_true] at q9 ⊢
       refine wpAny_mono (ee [(it,o7)] s9 σ8 H9 _ I9 q9) (fun y s10 z=>?_) (fun _ _ z=>z.elim)
       obtain⟨yv,H10,I10,ry,hD10,hz10,w10⟩:=z
       refine wpAny_mono (A3d (X:=X.compF scope N F G.objs.size {s2 with heap:=G} (upd H2 D (.lst [])) [it] (X.pn++pins)) [(it,o7)] s10 σ8 H10 (.ref D) [yv] (.ref D) [y] (fun _ H11=>W (i+1) (ys++ [yv]) H11) I10 rfl (.cons ry .nil) ⟨D,ys,yv,rfl,rfl,hD10,hz10,w10⟩) (fun _ s11 z=>?_) (fun _ _ z=>z.elim)
       obtain⟨_,H11,I11,_,w11⟩:=z
       exact back rfl I11 w11
 exact codeAny_compStart_list loop (T.self _ 0 _ _ _ (T.keep _ _ _ st2 fun o e=>kp it o (by rw[<-hG];exact Heap.get?_push_of_some _ e)) loop)
theorem B9c{elt target iter:Expr}{scope:Scope}{pos:Pos}{N F:List Str}{js:List Nat}{wi:TI}{g:TG}{te:TE}(S:D3 N F js scope X.N X.env)(hd:Y0 X)(hi:PIH X target iter wi)(hex:X.ex=[])
   (hg:∀C s₀ H₀ ex pn,Y0 (X.compF scope N F C s₀ H₀ ex pn) ->PG (X.compF scope N F C s₀ H₀ ex pn) target g)
   (he:∀C s₀ H₀ ex pn,Y0 (X.compF scope N F C s₀ H₀ ex pn) ->PE (X.compF scope N F C s₀ H₀ ex pn) elt te)
   {pins:List (Addr×Obj)} {s:Shared} {σ:St} {H:Hp} {Q:VK} {RR:Value ->Env ->Result ->Shared ->Prop} (I:Inv X pins σ H s) (h:(A7d N.length js wi g te) σ H Q)
   (hRR:∀(D C:Addr) (s6:Shared) (H5:Hp) (mm:Str ->Option Value),Inv X pins σ H5 s6 ->s6.heap.Ns C mm ->A0t X pins H5 C ->Q (.ref D) H5 ->RR (.ref D) (compEnvC scope (A1a F X.env) C X.env) (.ok .next) s6):
   wpAny (model X.prog X.w) X.A (eval iter X.env) (fun v s1=>wpAny (model X.prog X.w) X.A (pyIter v) (fun itv s2=>wpAny (model X.prog X.w) X.A (newList []) (fun acc s3=>wpAny (model X.prog X.w) X.A (newFunctionEnv scope X.env.globals (A1a F X.env) [] X.env.qual none .none (some X.env)) (fun cenv s4=>
     codeAny (model X.prog X.w) X.A (.compStart (.ListComp elt [⟨target,iter,[],0⟩] scope pos) 0 itv acc {cenv with scope:=relabel scope X.env}) (RR acc {cenv with scope:=relabel scope X.env}) s4) X.xe s3) X.xe s2) X.xe s1) X.xe s:=by
 refine thn (hi pins s σ H _ I h) fun v s1 h1=>thn h1 fun itv s2 h2=>?_
 obtain⟨it,tn,J,H2,rfl,I2,T,st2,f2,R⟩:=h2
 obtain⟨oi,ei,di⟩:=T.obj _ _ st2
 have hf2:=I2.hok.fresh (Nat.le_refl _)
 refine wpAny_newObj_type ?_
 have I3:Inv X pins σ (upd H2 s2.heap.objs.size (.lst [])) {s2 with heap:=s2.heap.push {cls:= .type "list",dict:=none,data:= .seq ([]:List Value).toArray}}:=Inv.lnew (t':=s2.toks) I2 .nil (Nat.zero_le _)
 refine wpAny_newFunctionEnv S.cell (by intro y hy;simp at hy) (fun h4 hns hsb=>?_) S.kind
 dsimp only at hns hsb ⊢
 generalize hG:s2.heap.push {cls:= .type "list",dict:=none,data:= .seq ([]:List Value).toArray}=G at I3 hns hsb ⊢
 generalize hD:s2.heap.objs.size=D at I3 hf2
 have nD:it≠D:=by rw[<-hD];exact Nat.ne_of_lt (Heap.lt_size ei)
 have eiG:G.get? it=some oi:=by rw[<-hG];exact Heap.get?_push_of_some _ ei
 have kp:∀b o,G.get? b=some o ->h4.get? b=some o:=fun b o e=>hsb.extBut b o (Nat.ne_of_lt (Heap.lt_size e)) (Heap.get?_push_of_some _ e)
 have f3:A0t X pins (upd H2 D (.lst [])) it:=⟨by rw[D0 nD];exact f2.1,f2.2⟩
 have nb:X.base.get? it=none:=by
   cases q:X.base.get? it with
   |none=>rfl
   | some o=>
     have:=(I.ok.bs it o q).1
     rcases f2.2.2.2.1 with z|z
     . rw[hex] at z;simp at z
     . exact absurd (Nat.lt_of_lt_of_le (Heap.lt_size this) z) (Nat.lt_irrefl _)
 have hns':h4.Ns G.objs.size (fun _=>none):=by
   obtain⟨o,es,ep,q1,q2,q3,q4⟩:=hns
   exact⟨o,es,ep,q1,q2,q3,fun x=>by rw[q4];rfl⟩
 have I4:=B4h (tk:=s2.toks+([]:List (Str×Value)).length) S I3 f3 ⟨oi,eiG⟩ nb hns' kp
 have hdc:Y0 (X.compF scope N F G.objs.size {s2 with heap:=G} (upd H2 D (.lst [])) [it] (X.pn++pins)):=by
   rcases hd with z|⟨x,o,u,vs,z,e,d,n⟩
   . exact .inl z
   . refine .inr ⟨x,o,u,vs,z,?_,d,n⟩
     have q:=I2.base.frzs x o u e
     show upd H2 D (.lst []) x=_
     rw[D0 fun w=>by rw[w,hf2] at q;cases q]
     exact q
 obtain⟨m,W,w0,turn⟩:=R D hf2
 have gg:=hg _ _ _ _ _ hdc
 have ee:=he _ _ _ _ _ hdc
 have fpc:∀{H':Hp} {σ':St} {s':Shared} {pl:List (Addr×Obj)},Inv (X.compF scope N F G.objs.size {s2 with heap:=G} (upd H2 D (.lst [])) [it] (X.pn++pins)) pl σ' H' s' ->H' it=none ->(∀p∈pl,p.1≠it) ->A0t (X.compF scope N F G.objs.size {s2 with heap:=G} (upd H2 D (.lst [])) [it] (X.pn++pins)) pl H' it:=by
   intro H' σ' s' pl J' hn hp
   refine⟨hn,Nat.ne_of_lt (Heap.lt_size eiG),?_,.inl (List.mem_singleton.mpr rfl),(fun x c z=>f2.2.2.2.2.1 x c (S.sub x c z)),fun p hpp=>?_⟩
   . intro z
     rcases List.mem_cons.mp (I.stkSub it z) with z|z
     . exact f2.2.1 z
     . exact f2.2.2.1 z
   . rcases List.mem_append.mp hpp with z|z
     . exact f2.2.2.2.2.2 p z
     . exact hp p z
 have loop:codeAny (model X.prog X.w) X.A (.compLoop (.ListComp elt [⟨target,iter,[],0⟩] scope pos) 0 (.ref it) (.ref D) (compEnvC scope (A1a F X.env) G.objs.size X.env))
     (RR (.ref D) (compEnvC scope (A1a F X.env) G.objs.size X.env))
     {s2 with heap:=h4,toks:=s2.toks+([]:List (Str×Value)).length}:=by
   refine B1n (fun k s'=>∃i ys H',k=m+1-i/\Inv (X.compF scope N F G.objs.size {s2 with heap:=G} (upd H2 D (.lst [])) [it] (X.pn++pins)) [] (List.replicate N.length none++A2h js σ) H' s'/\tn i s'.heap/\H' it=none/\W i ys H') ?_ (m+1)
     ⟨0,[],_,rfl,I4,T.keep _ _ _ st2 fun o e=>kp it o (by rw[<-hG];exact Heap.get?_push_of_some _ e),f3.1,w0⟩
   rintro k s5 ⟨i,ys,H5,rfl,I5,st5,n5,w5⟩
   obtain⟨hi5,hD5,w5⟩:=turn i ys H5 w5
   rcases w5 with⟨stop,q⟩|⟨lt5,go,step⟩
   . refine wpAny_mono (T.done (X.compF scope N F G.objs.size {s2 with heap:=G} (upd H2 D (.lst [])) [it] (X.pn++pins)) rfl rfl rfl hdc i [] s5 _ H5 (fun _ _=>False) I5 (fpc I5 n5 (by simp)) st5 stop) (fun r s6 z=>?_) (fun _ _ z=>z.elim)
     obtain⟨rfl,I6⟩:=z
     obtain⟨mm,hn6,_⟩:=I6.loc
     have B6:=I6.base
     have J6:Inv X pins σ H5 s6:=by
       refine I3.call' (ch:=[it]) I6.os ⟨B6.keep,B6.slot,B6.free,B6.there,B6.tups,B6.frzs,B6.tbls⟩ I6.hok I6.bare (fun b hb=>?_)
       have e:b=it:=by simpa using hb
       subst e
       exact⟨f2.2.2.2.1,f2.2.1,f2.2.2.2.2.1,f2.2.2.2.2.2⟩
     have szG:X.s₀.heap.objs.size<=G.objs.size:=I3.sz
     refine hRR D G.objs.size s6 H5 mm J6 hn6 ⟨I6.free,?_,?_,.inr szG,?_,?_⟩ q
     . exact Nat.ne_of_gt I3.lt
     . intro z
       obtain⟨_,o,ho,_⟩:=I3.funs.mem z
       exact Nat.lt_irrefl _ (Heap.lt_size ho)
     . rintro x c z rfl
       obtain⟨v',o,ho,_⟩:=I3.cell x _ z
       exact Nat.lt_irrefl _ (Heap.lt_size ho)
     . rintro p hp z
       have zz:=(I3.pin p hp).1
       rw[z] at zz
       exact Nat.lt_irrefl _ (Heap.lt_size zz)
   . refine wpAny_mono (T.item (X.compF scope N F G.objs.size {s2 with heap:=G} (upd H2 D (.lst [])) [it] (X.pn++pins)) rfl rfl rfl hdc i [] s5 _ H5 (fun _ _=>False) I5 (fpc I5 n5 (by simp)) st5 go) (fun r s6 z=>?_) (fun _ _ z=>z.elim)
     obtain⟨u,rfl,z⟩:=z
     refine wpAny_mono z (fun _ s7 z=>?_) (fun _ _ z=>z.elim)
     obtain⟨x,I7,rx,yl,st7⟩:=z
     obtain⟨o7,e7,d7⟩:=T.obj _ _ st7
     obtain⟨p0,p1,p2,_⟩:=fpc I7 n5 (by simp)
     have I7':Inv (X.compF scope N F G.objs.size {s2 with heap:=G} (upd H2 D (.lst [])) [it] (X.pn++pins)) [(it,o7)] (List.replicate N.length none++A2h js σ) H5 s7:=I7.pins_of fun p hp=>by
       have e:p=(it,o7):=by simpa using hp
       subst e
       exact⟨e7,p0,p1,p2,d7⟩
     have back:∀{i':Nat} {ys':List V} {H':Hp} {σ':St} {s':Shared},i'=i+1 ->Inv (X.compF scope N F G.objs.size {s2 with heap:=G} (upd H2 D (.lst [])) [it] (X.pn++pins)) [(it,o7)] σ' H' s' ->W i' ys' H' ->
         ∃k',k'<m+1-i/\∃i ys H',k'=m+1-i/\Inv (X.compF scope N F G.objs.size {s2 with heap:=G} (upd H2 D (.lst [])) [it] (X.pn++pins)) [] (List.replicate N.length none++A2h js σ) H' s'/\tn i s'.heap/\H' it=none/\W i ys H':=by
       rintro i' ys' H' σ' s' rfl J' w'
       obtain⟨q1,q2,_⟩:=J'.pin (it,o7) (List.mem_append_right _ (List.mem_singleton.mpr rfl))
       refine⟨m+1-(i+1),by omega,i+1,ys',H',rfl,B4g S I3 f3 J',T.keep _ _ _ st7 fun o z=>?_,q2,w'⟩
       rw[e7] at z
       cases z
       exact q1
     refine wpAny_mono (gg [(it,o7)] s7 _ H5 x u _ I7' rx (step x H5 yl)) (fun _ s8 z=>?_) (fun _ _ z=>z.elim)
     obtain⟨σ8,H8,I8,q8⟩:=z
     refine wpAny_mono (ee [(it,o7)] s8 σ8 H8 _ I8 q8) (fun y s10 z=>?_) (fun _ _ z=>z.elim)
     obtain⟨yv,H10,I10,ry,hD10,hz10,w10⟩:=z
     refine wpAny_mono (A3d (X:=X.compF scope N F G.objs.size {s2 with heap:=G} (upd H2 D (.lst [])) [it] (X.pn++pins)) [(it,o7)] s10 σ8 H10 (.ref D) [yv] (.ref D) [y] (fun _ H11=>W (i+1) (ys++ [yv]) H11) I10 rfl (.cons ry .nil) ⟨D,ys,yv,rfl,rfl,hD10,hz10,w10⟩) (fun _ s11 z=>?_) (fun _ _ z=>z.elim)
     obtain⟨_,H11,I11,_,w11⟩:=z
     exact back rfl I11 w11
 exact codeAny_compStart_list loop (T.self _ 0 _ _ _ (T.keep _ _ _ st2 fun o e=>kp it o (by rw[<-hG];exact Heap.get?_push_of_some _ e)) loop)
theorem C0b{elt target iter:Expr}{c:Expr}{tc:TT}{pos:Pos}{wi:TI}{g:TG}{te:TE}(S:D3 N F js scope X.N X.env)(hd:Y0 X)(hi:PIH X target iter wi)(hex:X.ex=[])
   (hg:∀C s₀ H₀ ex pn,Y0 (X.compF scope N F C s₀ H₀ ex pn) ->PG (X.compF scope N F C s₀ H₀ ex pn) target g)
   (hc:∀C s₀ H₀ ex pn,Y0 (X.compF scope N F C s₀ H₀ ex pn) ->PT (X.compF scope N F C s₀ H₀ ex pn) c tc)
   (he:∀C s₀ H₀ ex pn,Y0 (X.compF scope N F C s₀ H₀ ex pn) ->PE (X.compF scope N F C s₀ H₀ ex pn) elt te)
   (hs:∀x,foldedSetIterable iter X.env x=pure x:=by intro _;rfl):PE X (.ListComp elt [⟨target,iter,[c],0⟩] scope pos) (A6e N.length js wi g tc te):=by
 intro pins s σ H Q I h
 rw[eval_ListComp]
 refine wpAny_comprehension_free (use:=none) rfl hs S.clos S.kind S.loc (B1e S hd hi hex hg hc he I h (RR:=fun acc ce r s'=>compPost (model X.prog X.w) X.A X.xe none (EP X pins σ Q) acc ce.locals r s') ?_)
 intro D C s6 H5 mm I6 n6 f6 q
 exact⟨mm,n6,fun h' sb=>⟨.ref D,H5,A9q I6 f6 sb,rfl,q⟩⟩
theorem C7b{elt target iter:Expr}{pos:Pos}{wi:TI}{g:TG}{te:TE}(S:D3 N F js scope X.N X.env)(hd:Y0 X)(hi:PIH X target iter wi)(hex:X.ex=[])
   (hg:∀C s₀ H₀ ex pn,Y0 (X.compF scope N F C s₀ H₀ ex pn) ->PG (X.compF scope N F C s₀ H₀ ex pn) target g)
   (he:∀C s₀ H₀ ex pn,Y0 (X.compF scope N F C s₀ H₀ ex pn) ->PE (X.compF scope N F C s₀ H₀ ex pn) elt te)
   (hs:∀x,foldedSetIterable iter X.env x=pure x:=by intro _;rfl):PE X (.ListComp elt [⟨target,iter,[],0⟩] scope pos) (A7d N.length js wi g te):=by
 intro pins s σ H Q I h
 rw[eval_ListComp]
 refine wpAny_comprehension_free (use:=none) rfl hs S.clos S.kind S.loc (B9c S hd hi hex hg he I h (RR:=fun acc ce r s'=>compPost (model X.prog X.w) X.A X.xe none (EP X pins σ Q) acc ce.locals r s') ?_)
 intro D C s6 H5 mm I6 n6 f6 q
 exact⟨mm,n6,fun h' sb=>⟨.ref D,H5,A9q I6 f6 sb,rfl,q⟩⟩
theorem C9h{i:Nat}{y:Str}{py spos:Pos}{elt target iter:Expr}{c:Expr}{tc:TT}{pos:Pos}{wi:TI}{g:TG}{te:TE}(S:D3 N F js scope X.N X.env)(hd:Y0 X)(hi:PIH X target iter wi)(hex:X.ex=[])
   (hg:∀C s₀ H₀ ex pn,Y0 (X.compF scope N F C s₀ H₀ ex pn) ->PG (X.compF scope N F C s₀ H₀ ex pn) target g)
   (hc:∀C s₀ H₀ ex pn,Y0 (X.compF scope N F C s₀ H₀ ex pn) ->PT (X.compF scope N F C s₀ H₀ ex pn) c tc)
   (he:∀C s₀ H₀ ex pn,Y0 (X.compF scope N F C s₀ H₀ ex pn) ->PE (X.compF scope N F C s₀ H₀ ex pn) elt te) (hN:X.N.Nodup) (hi':X.N[i]?=some y) (hy:Loc X.env.scope y)
   (hf:X.fn y=true\/X.env.scope.names.lookup y=some .local:=by first|exact .inl rfl|exact .inr rfl|assumption)
   (hsw:swapsWith (.ListComp elt [⟨target,iter,[c],0⟩] scope pos) (some (.Name y py)) spos.line X.env=pure true:=by rfl)
   (hs:∀x,foldedSetIterable iter X.env x=pure x:=by intro _;rfl):PS X (.Assign [.Name y py] (.ListComp elt [⟨target,iter,[c],0⟩] scope pos) spos) (C9e (A6e N.length js wi g tc te) (B5f i)):=by
 intro pins s σ H D I h
 rw[exec_Assign_Name_used _ _ _ _ hsw]
 refine wpAny_bind (wpAny_standAt (wpAny_bind ?_))
 show wpAny _ X.A (do let _<-comprehension (.ListComp elt [⟨target,iter,[c],0⟩] scope pos) scope X.env _ (newList []) false (eval iter X.env) (some (assign (.Name y py) X.env))) _ _ s
 refine wpAny_bind (wpAny_mono (wpAny_comprehension_free (Q:=fun _ s'=>SP X pins D .next s') rfl hs S.clos S.kind S.loc (B1e S hd hi hex hg hc he I h (RR:=fun acc ce r s'=>compPost (model X.prog X.w) X.A X.xe (some (assign (.Name y py) X.env)) (fun _ s'=>SP X pins D .next s') acc ce.locals r s') ?_))
   (fun _ s' hq=>wpAny_pure (wpAny_pure hq)) fun _ _ e=>e)
 intro D' C s6 H5 mm I6 n6 f6 q
 refine wpAny_assign_Name (A5k (v:= .ref D') I6 hN hi' hy rfl (fun s7 I7 st=>?_) hf)
 obtain⟨a,sb,ha⟩:=st
 have na:C≠a:=by
   rcases ha with rfl|ha
   . exact f6.2.1
   . exact(f6.2.2.2.2.1 y a ha).symm
 exact⟨mm,n6.sameBut sb na,fun h' sb'=>⟨_,_,A9q I7 f6 sb',q⟩⟩
end
structure D3v(N F:List Str)(sc:Scope):Prop where
 kind:sc.kind= .function
 cell:∀y∈sc.names,y.2≠ .cell
 loc:∀y∈sc.names,y.2= .local ->sc.names.lookup y.1=some .local
 fr:∀y∈sc.names,y.2= .free ->y.1∈F
 nd:(N++F).Nodup
theorem A6f{sc:Scope}{env:Env}{F:List Str}(cell:∀y∈sc.names,y.2≠ .cell)(fr:∀y∈sc.names,y.2= .free ->y.1∈F):∀y∈(relabel sc env).names,y.2= .cell\/y.2= .free ->y.1∈F:=by
 intro y hy h
 obtain⟨⟨n,k⟩,hm,e⟩:=List.mem_map.mp hy
 dsimp only at e
 split at e
 . rename_i hc
   subst e
   simp only[Bool.and_eq_true] at hc
   exact fr (n,k) hm (by simpa using hc.1.1)
 subst e
 rcases h with h|h
 . exact absurd h (cell (n,k) hm)
 exact fr (n,k) hm h
theorem D3.of1{N:List Str}{x:Str}{j:Nat}{sc:Scope}{XN:List Str}{env:Env}(S:D3v N [x] sc)(clos:closureFor sc env=pure (A1a [x] env))(hj:XN[j]?=some x)(hc:∃c,env.cells.lookup x=some c)(hk:env.kindOf x=some .cell)
   (hr:(relabel sc env).names.lookup x=some .cell):D3 N [x] [j] sc XN env:=
 ⟨S.kind,S.cell,S.loc,S.nd,clos,A6f S.cell S.fr,fun k y h=>match k,h with
   |0,h=>by cases h;exact⟨⟨j,rfl,hj⟩,hc,hk,hr⟩
   |k+1,h=>by simp at h,rfl⟩
theorem D3.of2{N:List Str}{x y:Str}{j k:Nat}{sc:Scope}{XN:List Str}{env:Env}(S:D3v N [x,y] sc)(clos:closureFor sc env=pure (A1a [x,y] env))(hj:XN[j]?=some x)(hc:∃c,env.cells.lookup x=some c)(hk:env.kindOf x=some .cell)
   (hr:(relabel sc env).names.lookup x=some .cell) (hj':XN[k]?=some y) (hc':∃c,env.cells.lookup y=some c) (hk':env.kindOf y=some .cell) (hr':(relabel sc env).names.lookup y=some .cell):D3 N [x,y] [j,k] sc XN env:=
 ⟨S.kind,S.cell,S.loc,S.nd,clos,A6f S.cell S.fr,fun i z h=>match i,h with
   |0,h=>by cases h;exact⟨⟨j,rfl,hj⟩,hc,hk,hr⟩
   |1,h=>by cases h;exact⟨⟨k,rfl,hj'⟩,hc',hk',hr'⟩
   |i+2,h=>by simp at h,rfl⟩
theorem A0s(z:Str):∀zs:List Str,inV (.str z) (zs.map V.str)=zs.contains z
 | []=>rfl
 | y::zs=>by
   show(eqV (.str y) (.str z)||inV (.str z) (zs.map V.str))=_
   rw[A0s z zs,List.contains_cons]
   show((y==z)||_)=_
   rw[BEq.comm]
theorem A1d:∀zs:List Str,(zs.map V.str).all A7y=true
 | []=>rfl
 |_::zs=>A1d zs
theorem A7j{K:Frag}{H:Hp}{σ σf:L2.St}{a:Addr}{zs:List Str}{f:Str ->Bool}{tc:TT}{te:TE}{Q:VK}(hl:∀H,SqT K H a (zs.map V.str))(hz:zs.length<=100)
   (ht:∀(z:Str) (H':Hp) (Qb:Bool ->Hp ->Prop),A8 H H' ->Qb (f z) H' ->tc (some (.str z)::σf) H' Qb) (he:∀(z:Str) (H':Hp) (Qv:VK),Qv (.str z) H' ->te (some (.str z)::σf) H' Qv)
   (k:∀D H',A8 H H' ->H D=none ->H' D=some (.lst ((zs.filter f).map V.str)) ->Q (.ref D) H') {js:List Nat} (hj:A2h js σ=σf):A6e 1 js (G5e K (tC (.ref a))) (B5f 0) tc te σ H Q:=by
 refine⟨a,rfl,⟨_,hl H⟩,fun D hD=>⟨zs.length,fun i ys H2=>i<=zs.length/\ys=((zs.take i).filter f).map V.str/\H2=upd H D (.lst ys),⟨Nat.zero_le _,rfl,rfl⟩,?_⟩⟩
 rintro i ys H2 ⟨hi,rfl,rfl⟩
 refine⟨hi,A4,?_⟩
 have sm:A8 H (upd H D (.lst (((zs.take i).filter f).map V.str))):=A8.upd hD
 have lz:(((zs.take i).filter f).map V.str).length<=100:=by
   rw[List.length_map]
   exact Nat.le_trans (List.length_filter_le _ _) (by rw[List.length_take];omega)
 by_cases hlt:i<zs.length
 . refine .inr ⟨hlt,⟨_,V.str zs[i],hl _,by simp[hlt]⟩,fun x H3 y=>?_⟩
   obtain⟨rfl,y⟩:=y
   have ex:x=V.str zs[i]:=by
     have:=y _ (hl _)
     simp[hlt] at this
     exact this.symm
   subst ex
   rw[hj]
   show tc (some (.str zs[i])::σf) _ _
   refine ht _ _ _ sm ?_
   have et:(zs.take (i+1)).filter f=(zs.take i).filter f++(if f zs[i] then [zs[i]] else []):=by
     rw[List.take_succ_eq_append_getElem hlt,List.filter_append]
     congr 1
     cases hb:f zs[i]<;>simp[hb]
   cases hb:f zs[i] with
   | false=>
     refine Y3 ⟨hlt,?_,rfl⟩
     rw[et,hb];simp
   | true=>
     refine Z0 (he _ _ _ ⟨A4,Nat.lt_of_le_of_lt lz (A1c (by decide)),hlt,?_,?_⟩)
     . rw[et,hb];simp
     . rw[G0z]
 have e:i=zs.length:=by omega
 subst e
 refine .inl ⟨⟨_,hl _,by simp⟩,k D _ sm hD ?_⟩
 rw[List.take_length]
 exact A4
end L2
namespace L2
open PySem
section
variable{prog:Program}{w:World}{A:Around}{E:Value ->Shared ->Prop}{h:Heap}{g:Array GenState}{d:Drawn}{t:Nat}{os:OsState}
variable{nm q:Str}{C N:Addr}{bs bm bmB:List Value}{hdct:Bool}{sn:List Str}{sub:List Value}{ab:Bool}{col:Option Bool}{dd:Option Addr}{k0 k1 k2 k3 k5:Option Value}{B newId initId:String}
theorem A5v(F:ExcBaseFacts B newId initId bmB)(T:OwnTail h bmB bm){mN:Str ->Option Value}{rest:List Value}{fI:Addr}{oI:Obj}{Q:Fin ->Shared ->Prop}
   (hC:h.get? C=some (excClassObj nm q C N bs bm hdct sn sub ab col dd k0 k1 k2 k3 k5 newId)) (hn:h.Ns N mN) (hi:mN "__init__"=some (.ref fI))
   (hfI:h.get? fI=some oI) (hfc:oI.cls= .type "function")
   (hq:∀h' e,Heap.MadeExcOf h h' e (.ref C) rest ->
     wpAny (model prog w) A (call (.ref fI) (.ref e::rest)) (fun r s'=>r= .none/\Q (.done (.ret (.ref e))) s') E ⟨h',g,d,t,os⟩) (hrest:rest.length<=sizeLine):
   wpAny (model prog w) A (Builtin.«type.__call__» ⟨.ref C :: rest, []⟩) Q E ⟨h, g, d, t, os⟩ := by
 repeat (first|with_reducible refine wpAny_loadPart_at hC ?_|with_reducible refine wpAny_madeBy_exc hC ?_|wp_step)
 refine codeAny_call_builtin_code (Code.quiet_builtin _ F.quiet) (wpAny_check_new_subT F T hC ?_)
 refine codeAny_exc_new_subT F T hC ?_ hrest
 show wpAny _ _ _ _ _ _
 have hC₁:=Heap.get?_push_of_some {cls:= .ref C,data:= .fields #[.ref h.objs.size,.none,.none,.none,.bool false,.none]}
   (Heap.get?_push_of_some {cls:= .type "tuple",data:= .seq rest.toArray} hC)
 have hfI₁:=Heap.get?_push_of_some {cls:= .ref C,data:= .fields #[.ref h.objs.size,.none,.none,.none,.bool false,.none]}
   (Heap.get?_push_of_some {cls:= .type "tuple",data:= .seq rest.toArray} hfI)
 have hn₁:((h.push {cls:= .type "tuple",data:= .seq rest.toArray}).push {cls:= .ref C,data:= .fields #[.ref h.objs.size,.none,.none,.none,.bool false,.none]}).Ns N mN:=
   let⟨o,es,ep,e,r⟩:=hn;⟨o,es,ep,Heap.get?_push_of_some _ (Heap.get?_push_of_some _ e),r⟩
 have hget:((h.push {cls:= .type "tuple",data:= .seq rest.toArray}).push
     {cls:= .ref C,data:= .fields #[.ref h.objs.size,.none,.none,.none,.bool false,.none]}).get? (h.objs.size+1)=some
     {cls:= .ref C,data:= .fields #[.ref h.objs.size,.none,.none,.none,.bool false,.none]}:=by heap_get
 have hcC:(Value.ref C::bm).contains (.ref C)=true:=by simp
 have T₁:=T.keeps (h':=(h.push {cls:= .type "tuple",data:= .seq rest.toArray}).push {cls:= .ref C,data:= .fields #[.ref h.objs.size,.none,.none,.none,.bool false,.none]})
   fun b o e=>Heap.get?_push_of_some _ (Heap.get?_push_of_some _ e)
 unfold isInstance
 repeat (first|with_reducible refine wpAny_loadPart_at hget ?_|(with_reducible refine wpAny_isSubtype_exc hC₁ ?_;rw[hcC])|wp_step)
 show wpAny _ _ (typeLookup (.ref C) _) _ _ _
 refine wpAny_typeLookup_tail hC₁ hn₁ T₁ F.mroIs F.init.lookup ?_
 rw[hi]
 refine wpAny_holding (wpAny_bind ?_)
 unfold bindSpecial
 refine wpAny_bind (wpAny_typeOf (T:="function") ⟨_,hfI₁,hfc⟩ ?_)
 rw[if_pos (by decide)]
 refine wpAny_pure (wpAny_bind (wpAny_mono (hq _ (h.objs.size+1) ⟨fun b o hb=>Heap.get?_push_of_some _ (Heap.get?_push_of_some _ hb),Heap.get?_none_of_le (Nat.le_succ _),h.objs.size,hget,Heap.get?_none_of_le (Nat.le_refl _),?_⟩) (fun r s' hr=>?_) fun _ _ x=>x))
 . exact Heap.get?_push_of_some _ (Heap.get?_push_at rfl rfl)
 obtain⟨rfl,hQ⟩:=hr
 wp_walk
 exact hQ
theorem B2v(F:ExcBaseFacts B newId initId bmB)(T:OwnTail h bmB bm){mN:Str ->Option Value}{rest:List Value}{fI:Addr}{oI:Obj}{Q:Value ->Shared ->Prop}
   (hC:h.get? C=some (excClassObj nm q C N bs bm hdct sn sub ab col dd k0 k1 k2 k3 k5 newId)) (hn:h.Ns N mN) (hi:mN "__init__"=some (.ref fI))
   (hfI:h.get? fI=some oI) (hfc:oI.cls= .type "function")
   (hq:∀h' e,Heap.MadeExcOf h h' e (.ref C) rest ->
     wpAny (model prog w) (A.under (.builtin "type.__call__" ⟨.ref C::rest,[]⟩)) (call (.ref fI) (.ref e::rest)) (fun r s'=>r= .none/\Q (.ref e) s') E ⟨h',g,d,t,os⟩) (hrest:rest.length<=sizeLine):
   wpAny (model prog w) A (call (.ref C) rest) Q E ⟨h,g,d,t,os⟩:=by
 have f1:=tc_lookup
 have f2:=tc_bind (.ref C)
 have hT:(⟨h,g,d,t,os⟩:Shared).TypeIs (.ref C) "type":=⟨_,hC,rfl⟩
 refine wpAny_call (codeAny_of_tree ?_)
 show wpAny _ _ (callAny (.ref C) _) _ _ _
 repeat (any_goals (first|assumption|with_reducible refine wpAny_loadPart_at hC ?_|wp_step))
 refine⟨rfl,?_⟩
 refine codeAny_call_builtin_at (Code.quiet_builtin _ (by decide+kernel)) entry_typeCall (wpAny_check_type_call_sub hC (A5v (hrest:=hrest) F T hC hn hi hfI hfc fun h' e hm=>?_))
 exact hq h' e hm
end
section
variable{M:Model}{prog:Program}{w:World}{A:Around}{E:Value ->Shared ->Prop}{s:Shared}{env:Env}
variable{nm q:Str}{C N:Addr}{bs bm bmB:List Value}{hdct:Bool}{sn:List Str}{sub:List Value}{ab:Bool}{col:Option Bool}{dd:Option Addr}{k0 k1 k2 k3 k5:Option Value}{B newId initId:String}
theorem A4s{x:Sem Value}{Q:Flow ->Shared ->Prop}(hbase:bm.contains (.type "BaseException")=true)(hh:A.handled=none)
   (h:wpAny M A x (fun v s₁=>∃e t de,v= .ref e/\s₁.heap.get? C=some (excClassObj nm q C N bs bm hdct sn sub ab col dd k0 k1 k2 k3 k5 newId)/\
     s₁.heap.get? e=some {cls:= .ref C,dict:=de,data:= .fields #[.ref t,.none,.none,.none,.bool false,.none]}/\E (.ref e) s₁) E s):
   wpAny M A (raiseStmt env (some x) none) Q E s:=by
 have hcB:(Value.ref C::bm).contains (.type "BaseException")=true:=by rw[List.contains_cons,hbase,Bool.or_true]
 unfold raiseStmt
 refine wpAny_bind (wpAny_mono h (fun v s₁ h₁=>?_) fun _ _ x=>x)
 obtain⟨e,t,de,rfl,hC,he,hE⟩:=h₁
 obtain⟨hp,g,d,tk,os⟩:=s₁
 repeat (first|with_reducible refine wpAny_loadPart_at he ?_|with_reducible refine wpAny_loadPart_at hC ?_|(with_reducible refine wpAny_isSubtype_exc hC ?_;rw[hcB])|wp_step)
 exact wpAny_raiseNew_none hh hE
theorem A8h(F:ExcBaseFacts B newId initId bmB){mN:Str ->Option Value}{x:Str}{np cpos pos:Pos}{args:List Expr}{Q:Flow ->Shared ->Prop}{fI:Addr}{oI:Obj}
   (hbase:bm.contains (.type "BaseException")=true) (hh:A.handled=none) (hplain:(backTo cpos (starEach args env)).any (·.1)=false) (hi:mN "__init__"=some (.ref fI)) (hfc:oI.cls= .type "function")
   (h:wpAny (model prog w) A (eval (.Name x np) env) (fun f s₁=>f= .ref C/\wpAny (model prog w) A (evalArgs (.ref C) true (backTo cpos (starEach args env)) [])
     (fun a s₂=>a.kw=[]/\a.pos.length<=sizeLine/\s₂.heap.get? C=some (excClassObj nm q C N bs bm hdct sn sub ab col dd k0 k1 k2 k3 k5 newId)/\s₂.heap.Ns N mN/\OwnTail s₂.heap bmB bm/\s₂.heap.get? fI=some oI/\
       ∀ h' e,Heap.MadeExcOf s₂.heap h' e (.ref C) a.pos ->wpAny (model prog w) (A.under (.builtin "type.__call__" ⟨.ref C::a.pos,[]⟩)) (call (.ref fI) (.ref e::a.pos))
         (fun r s₃=>r= .none/\s₃.heap.get? C=some (excClassObj nm q C N bs bm hdct sn sub ab col dd k0 k1 k2 k3 k5 newId)/\(∃t de,s₃.heap.get? e=some {cls:= .ref C,dict:=de,data:= .fields #[.ref t,.none,.none,.none,.bool false,.none]})/\E (.ref e) s₃) E {s₂ with heap:=h'}) E s₁) E s):
   wpAny (model prog w) A (exec (.Raise (some (.Call (.Name x np) args [] cpos)) none pos) env) Q E s:=by
 rw[arm_exec_Raise]
 first
   |refine wpAny_bind (wpAny_standAt (A4s (C:=C) (nm:=nm) (q:=q) (N:=N) (bs:=bs) (bm:=bm) (hdct:=hdct) (sn:=sn) (sub:=sub) (ab:=ab) (col:=col) (dd:=dd) (k0:=k0) (k1:=k1) (k2:=k2) (k3:=k3) (k5:=k5) (newId:=newId) hbase hh (wpAny_bind (wpAny_mono (wpAny_Call_ofName (wpAny_mono h (fun f s₁ h₁=>?_) fun _ _ x=>x)) (fun v s₃ h₃=>wpAny_bind (wpAny_standAt (wpAny_pure h₃))) fun _ _ x=>x))))
   |(simp only[evalOpt,Option.map];refine wpAny_bind (wpAny_standAt (A4s (C:=C) (nm:=nm) (q:=q) (N:=N) (bs:=bs) (bm:=bm) (hdct:=hdct) (sn:=sn) (sub:=sub) (ab:=ab) (col:=col) (dd:=dd) (k0:=k0) (k1:=k1) (k2:=k2) (k3:=k3) (k5:=k5) (newId:=newId) hbase hh (wpAny_bind (wpAny_mono (wpAny_Call_ofName (wpAny_mono h (fun f s₁ h₁=>?_) fun _ _ x=>x)) (fun v s₃ h₃=>wpAny_bind (wpAny_standAt (wpAny_pure h₃))) fun _ _ x=>x)))))
 obtain⟨rfl,h₁⟩:=h₁
 unfold callWith
 refine wpAny_bind (wpAny_holding (wpAny_mono h₁ (fun a s₂ h₂=>wpAny_bind (wpAny_standAt ?_)) fun _ _ x=>x))
 obtain⟨apos,akw⟩:=a
 obtain⟨hkw,hlen,hC,hn,T,hf,h₂⟩:=h₂
 obtain rfl:akw=[]:=hkw
 obtain⟨hp,g,d,tk,os⟩:=s₂
 simp only[hplain]
 refine wpAny_bind (wpAny_keeperOf_exc hC ?_)
 refine wpAny_bind (B2v F T hC hn hi hf hfc (fun h' e hm=>wpAny_mono (h₂ h' e hm) (fun r s₃ z=>⟨z.1,wpAny_bind (wpAny_holding (wpAny_point (wpAny_pure ?_)))⟩) fun _ _ x=>x) hlen)
 obtain⟨_,hC3,⟨t,de,he⟩,hE⟩:=z
 exact⟨e,t,de,rfl,hC3,he,hE⟩
end
end L2
namespace L2
open PySem PySem.Spec PyProof.Rows PySem.W
noncomputable abbrev C5u:List Value:=[.type "ValueError",.type "Exception",.type "BaseException",.type "object"]
structure C3d(K:Frag)(C fI:Addr):Prop where
 cls:∃nm q N bs bm sn sub ab col dd k0 k1 k2 k3 k5,K.lookup C=some (excClassObj nm q C N bs bm true sn sub ab col dd k0 k1 k2 k3 k5 "ValueError.__new__")/\nsOkIn K N=true/\nsIn K N "__init__"=some (some (.ref fI))/\tailIn K C5u bm=true
 fn:∃o,K.lookup fI=some o/\o.cls= .type "function"
 sa:findIn K (.ref C) "__setattr__"=some (some (.builtin "object.__setattr__"))
 ob:mroIn K C (.type "object")=some true
theorem C2u{K:Frag}{h:Heap}{N:Addr}{mg:Str ->Option Value}{n:Str}{v:Value}(X:K.In h)(G:h.Ns N mg)(e:nsIn K N n=some (some v)):mg n=some v:=by
 obtain⟨o,es,ep,ho,hd,_,hf⟩:=G
 unfold nsIn at e
 split at e
 . rename_i c d es' n' sl q
   have:=X _ _ q
   rw[ho] at this
   cases this
   cases hd
   split at e
   . rename_i en he
     cases e
     rw[<-hf]
     unfold nsFind findBy
     rw[<-Array.find?_toList,he]
     rfl
   . split at e<;>cases e
 cases e
theorem A9s{h:Heap}(self:Value):∀{l:List Value},OwnTail h C5u l ->refuseLoop self "__setattr__" l=pure ()
 |_,.base=>PySem.F.store_ValueError.passes self
 |_,.own _ _ _ t=>by rw[refuseLoop_ref];exact A9s self t
section
variable{prog:Program}{w:World}{A:Around}{s:Shared}{K:Frag}{C e fI:Addr}{t:Addr}{R:Result ->Shared ->Prop}{name:Str}{tk:Tok}{v:Value}
theorem G0g(X:K.In s.heap)(F:C3d K C fI)(he:s.heap.get? e=some (A0c (.ref C) t none .none))(ht:findIn K (.ref C) name=some none)
   (h:∀h' tk' d,(∀b ob,b≠e ->s.heap.get? b=some ob ->h'.get? b=some ob) ->h'.get? e=some (A0c (.ref C) t (some d) .none) ->h'.Ns1 d (fun y=>if y=name then some v else none) ->s.heap.get? d=none ->d≠e ->
     R (.ok (.ret .none)) {s with heap:=h',toks:=tk'}):
   codeAny (model prog w) A (.call (.builtin "object.__setattr__") ⟨[.ref e,.str name tk,v],[]⟩) R s:=by
 have SF:=PySem.F.store_object
 obtain⟨nm,q,N,bs,bm,sn,sub,ab,col,dd,k0,k1,k2,k3,k5,lC,nO,nI,tl⟩:=F.cls
 have hC:=X _ _ lC
 have I:PySem.W.InstAt s.heap e (A0c (.ref C) t none .none) C none:=⟨he,rfl,rfl,trivial⟩
 have hc:clsIn K C=some {name:=nm,bases:=bs,mro:= .ref C::bm,ns:=N,qualname:=q,hasDict:=true,slotNames:=sn,subclasses:=sub,abstract:=ab,collection:=col,hasDel:=false}:=by
   unfold clsIn
   rw[lC]
 have sub':Looks (model prog w) s.heap (isInstance (.ref e) (.type "object")) true:=I.type.andThen (looks_mroIn X F.ob)
 refine codeAny_call_builtin SF.slot.plain SF.entry (@check_slot (model prog w) _ _ s "object.__setattr__" "object" "__setattr__" (.ref e) [.str name tk,v] [] _ SF.kind SF.split sub' (SF.args (.ref e) (.str name tk) v) ?_)
 have hm:Looks (model prog w) s.heap (mroOf (.ref C)) (.ref C::bm):=(looks_clsIn X hc).andThen .now
 have L3:Looks (model prog w) s.heap (Builtin.ObjectAttr.storeTaker? none) none:= .now
 rw[osa_eq,refuse_eq]
 refine wpAny_bind (wpAny_bind (I.type.here (wpAny_bind (hm.here ?_))))
 rw[refuseLoop_ref,A9s _ (tail_of_in X tl)]
 refine wpAny_pure (wpAny_bind (I.type.here (wpAny_bind ((looks_findIn X ht).here (wpAny_bind (L3.here ?_))))))
 dsimp only
 refine wpAny_bind (wpAny_pure (wpAny_bind (wpAny_bind (wpAny_loadPart he (wpAny_bind (PySem.W.Looks.here (PySem.W.looks_clsIn X hc) ?_))))))
 have hx₁:(s.heap.push {cls:= .type "dict",data:= .dict #[]}).get? e=some (A0c (.ref C) t none .none):=Heap.get?_push_of_some _ he
 have hxs:e≠s.heap.objs.size:=Nat.ne_of_lt (Heap.lt_size he)
 show wpAny (model prog w) A.in1 (do
     let d<-alloc {cls:=Value.type "dict",data:=Data.dict #[]}
     update e fun o=>{cls:=o.cls,dict:=some d,data:=o.data,slots:=o.slots}
     pure (some d)) _ _ _
 refine wpAny_bind (wpAny_alloc' ?_)
 refine wpAny_bind (wpAny_update' hx₁ ?_)
 refine wpAny_pure ?_
 have hgd:((s.heap.push {cls:= .type "dict",data:= .dict #[]}).update e fun o=>{cls:=o.cls,dict:=some s.heap.objs.size,data:=o.data,slots:=o.slots}).get? s.heap.objs.size
     =some {cls:= .type "dict",data:= .dict #[]}:=
   (Heap.get?_update_ne _ _ _ _ hxs.symm).trans (Heap.get?_push_at rfl rfl)
 have hnd:((s.heap.push {cls:= .type "dict",data:= .dict #[]}).update e fun o=>{cls:=o.cls,dict:=some s.heap.objs.size,data:=o.data,slots:=o.slots}).Ns s.heap.objs.size (fun _=>none):=
   ⟨_, #[],_,hgd,rfl,fun e he=>absurd he (by simp),fun _=>rfl⟩
 show wpAny _ _ (Builtin.ObjectAttr.storeInDict s.heap.objs.size (.str name tk) name v) _ _ _
 unfold Builtin.ObjectAttr.storeInDict Builtin.ObjectAttr.newKeyGuard
 refine wpAny_bind (wpAny_pure (wpAny_bind (wpAny_nsSet1 (Heap.Ns1.of_empty hnd) fun h' hn' hs=>?_)))
 obtain⟨oD,esD,epD,hoD,hdD,hcD⟩:=hn'.count (Within.cons name v Within.nil)
 refine wpAny_bind (wpAny_lookBehind hoD (by rw[hdD];exact pastItsLine_dict (Nat.le_trans hcD (by rw[List.length_cons,List.length_nil,sizeLine_eq];omega))) ?_)
 have hx':h'.get? e=some (A0c (.ref C) t (some s.heap.objs.size) .none):=(hs.2 e hxs).trans (Heap.get?_update_self _ hx₁ rfl)
 refine wpAny_pure (h h' _ s.heap.objs.size (fun b ob hbx hb=>?_) hx' hn' (Heap.get?_none_of_le (Nat.le_refl _)) hxs.symm)
 exact(hs.2 b (Nat.ne_of_lt (Heap.lt_size hb))).trans ((Heap.get?_update_ne _ _ _ _ hbx).trans (Heap.get?_push_of_some _ hb))
end
def A2s (e C t:Addr) (d:Option Addr):Heap ->Prop:=fun h=>h.get? e=some (A0c (.ref C) t d .none)
theorem C9a{P:Program}{w:World}{H:Hp}{h:Heap}{e C t:Addr}{d:Option Addr}(q:h.get? e=some (A0c (.ref C) t d .none)):Z2 P w H h e (.ext (A2s e C t d)):=
 ⟨q,⟨_,q⟩,fun _ _ z k=>k _ z⟩
section
variable{X:Cx}{pins:List (Addr×Obj)}{σ:St}{H:Hp}{s:Shared}
theorem Inv.trackO{a:Addr}{ho:HO}(I:Inv X pins σ H s)(n:Nw X pins H a)(ok:Z2 X.prog X.w (upd H a ho) s.heap a ho):Inv X pins σ (upd H a ho) s:=by
 have ne:∀b u,H b=some u ->b≠a:=fun b u z q=>by rw[q,n.un] at z;cases z
 have up:∀b,b≠a ->upd H a ho b=H b:=fun b hb=>D0 hb
 refine⟨I.ok,I.os,I.bare,⟨I.base.keep,I.base.slot,fun b u z m hx=>?_,I.base.there,fun b xs z=>?_,fun b u v z=>?_,fun b ps z=>?_⟩,I.loc,I.cell,?_,fun x c z=>?_,fun p hp=>?_,fun b u z=>?_,I.len⟩
 . rw[up b fun q=>by rw[q,n.old] at z;cases z]
   exact I.base.free b u z m hx
 . have:=I.base.tups b xs z
   rw[up b (ne b _ this)];exact this
 . have:=I.base.frzs b u v z
   rw[up b (ne b _ this)];exact this
 . obtain⟨more,this⟩:=I.base.tbls b ps z
   exact⟨more,by rw[up b (ne b _ this)];exact this⟩
 . rw[up _ (Ne.symm n.loc)];exact I.free
 . rw[up _ (n.cell x c z)];exact I.freeC x c z
 . obtain⟨q1,q2,q3⟩:=I.pin p hp
   exact⟨q1,by rw[up _ (n.pin p hp)];exact q2,q3⟩
 by_cases hb:b=a
 . subst hb
   rw[A4] at z
   cases z
   exact ok
 rw[up b hb] at z
 exact(I.hok b u z).stay (fun _ _ _ q=>q) (fun c q=>by rw[up c (ne c _ q)];exact q) (fun c xs q=>by rw[up c (ne c _ q)];exact q)
noncomputable def rem (H:Hp) (a:Addr):Hp:=fun b=>if b=a then none else H b
theorem B3p{a:Addr}:rem H a a=none:=by unfold rem;rw[if_pos rfl]
theorem A3n{a b:Addr}(h:b≠a):rem H a b=H b:=by unfold rem;rw[if_neg h]
theorem Inv.forget{a:Addr}{φ:Heap ->Prop}(I:Inv X pins σ H s)(e:H a=some (.ext φ)):Inv X pins σ (rem H a) s:=by
 have ne:∀b u,H b=some u ->(∀φ,u≠ .ext φ) ->b≠a:=fun b u z q w=>by rw[w,e] at z;cases z;exact q _ rfl
 have non:∀b,H b=none ->rem H a b=none:=fun b z=>by
   by_cases q:b=a
   . rw[q];exact B3p
   . rw[A3n q];exact z
 refine⟨I.ok,I.os,I.bare,⟨I.base.keep,I.base.slot,fun b u z m hx=>non b (I.base.free b u z m hx),I.base.there,fun b xs z=>?_,fun b u v z=>?_,fun b ps z=>?_⟩,I.loc,I.cell,non _ I.free,fun x c z=>non _ (I.freeC x c z),fun p hp=>?_,fun b u z=>?_,I.len⟩
 . have:=I.base.tups b xs z
   rw[A3n (ne b _ this (fun _ q=>nomatch q))];exact this
 . have:=I.base.frzs b u v z
   rw[A3n (ne b _ this (fun _ q=>nomatch q))];exact this
 . obtain⟨more,this⟩:=I.base.tbls b ps z
   exact⟨more,by rw[A3n (ne b _ this (fun _ q=>nomatch q))];exact this⟩
 . obtain⟨q1,q2,q3⟩:=I.pin p hp
   exact⟨q1,non _ q2,q3⟩
 have hb:b≠a:=fun q=>by rw[q,B3p] at z;cases z
 rw[A3n hb] at z
 exact(I.hok b u z).stay (fun _ _ _ q=>q) (fun c q=>by rw[A3n (ne c _ q (fun _ w=>nomatch w))];exact q) (fun c xs q=>by rw[A3n (ne c _ q (fun _ w=>nomatch w))];exact q)
end
def G8q (C:Addr) (ta tv:TE) (f:Str):TS:=fun D σ H=>tv σ H fun y H1=>ta σ H1 fun x H2=>∃e t,x= .ref e/\H2 e=some (.ext (A2s e C t none))/\
 ∀d,H2 d=none ->d≠e ->D.nx σ (upd (upd H2 e (.ext (A2s e C t (some d)))) d (.xd [(f,y)]))
section
variable{X:Cx}{o value:Expr}{f:Str}{pos pos':Pos}{ta tv:TE}{C fI:Addr}
theorem D8z(F:C3d X.K C fI)(hf:findIn X.K (.ref C) f=some none)(ha:PE X o ta)(hv:PE X value tv)(hs:swapsWith value (some (.Attribute o f pos')) pos.line X.env=pure false)(hex:X.ex=[]:=by rfl):
   PS X (.Assign [.Attribute o f pos'] value pos) (G8q C ta tv f):=by
 intro pins s σ H D I h
 refine plainObj_wpAny_Assign_Attribute (thn (hv pins s σ H _ I h) fun u s1 ⟨y,H1,I1,ry,q⟩=>thn (ha pins s1 σ H1 _ I1 q) fun ov s2 hh_=>?_) hs
 obtain⟨x,H2,I2,rx,e,t,ex,ea,q2⟩:=hh_
 subst ex
 obtain rfl:ov=Value.ref e:=rx
 have he:s2.heap.get? e=some (A0c (.ref C) t none .none):=(I2.hok e _ ea).1
 refine set_plain I2.kIn (⟨he,rfl,rfl,trivial⟩:PySem.W.InstAt s2.heap e (A0c (.ref C) t none .none) C none) F.sa (G0g (s:={s2 with toks:=s2.toks+1}) I2.kIn F he hf fun h' tk' d k1 k2 k3 k4 k5=>?_)
 have nd:H2 d=none:=I2.hok.new k4
 have I3:Inv X pins σ (upd H2 e (.ext (A2s e C t (some d)))) {s2 with heap:=h',toks:=tk'}:=
   I2.write (x:=e) (e:=e) (by rw[ea];exact trivial) (.inl rfl) (fun b u hb z=>k1 b u hb z) ⟨_,k2⟩ (C9a k2)
 have nw:Nw X pins (upd H2 e (.ext (A2s e C t (some d)))) d:=I2.nw hex k4 (by rw[D0 k5];exact nd)
 refine⟨σ,_,I3.trackO (ho:= .xd [(f,y)]) nw ⟨_,k3,fun g=>?_⟩,q2 d nd k5⟩
 show A4g (List.lookup g [(f,y)]) (if g=f then some u else none)
 by_cases z:g=f
 . rw[if_pos z,z]
   have:List.lookup f [(f,y)]=some y:=by simp[List.lookup]
   rw[this];exact ry
 rw[if_neg z]
 have:List.lookup g [(f,y)]=none:=by
   have hb:(g==f)=false:=beq_eq_false_iff_ne.mpr z
   simp[List.lookup,hb]
 rw[this];exact trivial
end
def B2g (C:Addr) (f:Str):Sp:=fun vs H Q _=>∃e t v,vs=[.ref e,v]/\H e=some (.ext (A2s e C t none))/\∀d,H d=none ->d≠e ->Q .non (upd (upd H e (.ext (A2s e C t (some d)))) d (.xd [(f,v)]))
def C4e (C:Addr) (f:Str) (EH:EK) (t:TA):TS:=fun _ σ H=>t σ H fun vs H1=>∃v,vs=[v]/\∀d H2,A8 H1 H2 ->H1 d=none ->H2 d=some (.xd [(f,v)]) ->EH (.ref C) (some d) σ H2
section
variable{X:Cx}{x f:Str}{p cpos pos:Pos}{e:Expr}{t:TA}{C fI:Addr}{fdI:FuncData}{ps:List Str}{EH:EK}{j k:Nat}
theorem C7e(hm:X.mg x=some (.ref C))(F:C3d X.K C fI)(G:G6 X.prog X.w X.K X.mg X.base CX0 j fI fdI ps (B2g C f))(bI:Y6 X.K fdI ps [])(hr:A0r k X.A)(hx:Y1 X EH)(ha:PA X [e] t)(hj:j+1<=k:=by decide)(hg:Gl X x:=by rfl)(hex:X.ex=[]:=by rfl)
   (hdb:(x==("__debug__":Str))=false:=by decide) (he:starEach [e] X.env=(false,eval e X.env)::starEach [] X.env:=by rfl) (hpl:(backTo cpos (starEach [] X.env)).any (·.1)=false:=by rfl):
   PS X (.Raise (some (.Call (.Name x p) [e] [] cpos)) none pos) (C4e C f EH t):=by
 intro pins s σ H D I h
 obtain⟨nm,q,N,bs,bm,sn,sub,ab,col,dd,k0,k1,k2,k3,k5,lC,nO,nI,tl⟩:=F.cls
 obtain⟨oI,lI,cI⟩:=F.fn
 have T0:OwnTail X.base C5u bm:=tail_of_in I.ok.mod.kin tl
 have hN0:X.base.Ns N (X.base.nsMap N):= .of_isNs (isNs_of_in I.ok.mod.kin nO)
 have hi0:X.base.nsMap N "__init__"=some (.ref fI):=C2u I.ok.mod.kin hN0 nI
 refine A8h (C:=C) (nm:=nm) (q:=q) (N:=N) (bs:=bs) (bm:=bm) (hdct:=true) (sn:=sn) (sub:=sub) (ab:=ab) (col:=col) (dd:=dd) (k0:=k0) (k1:=k1) (k2:=k2) (k3:=k3) (k5:=k5) (oI:=oI) PySem.F.excBase_ValueError (mN:=X.base.nsMap N) (T0.hasType PySem.F.excBase_ValueError.hasBase) hr.hd
   (by rw[he];show(false||(backTo cpos (starEach [] X.env)).any (·.1))=false;rw[hpl];rfl) hi0 cI (Z9 I hg hm ⟨rfl,?_⟩ hdb)
 have ha':=ha cpos pins s σ H _ I h
 rw[he] at ha' ⊢
 refine Calls.evalArgs_plain (wpAny_mono ha' (fun us s2 hh_=>?_) fun _ _ y=>y)
 obtain⟨vs,H1,I1,r,v,ev,z⟩:=hh_
 subst ev
 obtain⟨u,rfl,ru⟩:=r.one
 refine⟨rfl,C9 (by show 1<=1000;decide),I1.kIn _ _ lC,hN0.keeps I1.bk,T0.keeps I1.bk,I1.kIn _ _ lI,fun h' a m=>?_⟩
 obtain⟨t',e1,tn,e2⟩:=m.there
 have I2:Inv X pins σ H1 {s2 with heap:=h'}:=I1.kept (t':=s2.toks) m.keeps
 have na:H1 a=none:=I1.hok.new m.new
 have I3:=I2.trackO (ho:= .ext (A2s a C t' none)) (I1.nw hex m.new na) (C9a e1)
 have sp0:B2g C f [.ref a,v] (upd H1 a (.ext (A2s a C t' none))) (fun v0 H'=>v0= .non/\∃d,H1 d=none/\d≠a/\H'=upd (upd (upd H1 a (.ext (A2s a C t' none))) a (.ext (A2s a C t' (some d)))) d (.xd [(f,v)])) E0:=
   ⟨a,t',v,rfl,A4,fun d nd nda=>⟨rfl,d,by rw[D0 nda] at nd;exact nd,nda,rfl⟩⟩
 have rr:G7 [.ref a,v] [.ref a,u]:= .cons rfl (.cons ru .nil)
 have hl:([Value.ref a,u]++ []).length=ps.length:=by
   have:=G.len _ _ _ _ sp0
   rw[<-this];rfl
 refine wpAny_call (codeAny_mono (G.run _ X.stack _ _ ⟨[.ref a,u],[]⟩ ([.ref a,u]++ []) [.ref a,v] _ E0 ((hr.mono hj).make C [u] []) (I3.env0.make C [u] []) (bI _ [.ref a,u] I3.kIn hl) rr sp0) fun r s' hq=>?_)
 cases r with
 |error e=>exact hq.elim
 | ok fl=>
   cases fl with
   | ret u0=>
     obtain⟨v0,H',I4,rv,ev,d,nd,nda,eH⟩:=I3.after hq
     subst ev eH
     have ea:(upd (upd (upd H1 a (.ext (A2s a C t' none))) a (.ext (A2s a C t' (some d)))) d (.xd [(f,v)])) a=some (.ext (A2s a C t' (some d))):=by
       rw[D0 (Ne.symm nda),A4]
     have g1:s'.heap.get? a=some (A0c (.ref C) t' (some d) .none):=(I4.hok a _ ea).1
     refine⟨rv,I4.kIn _ _ lC,⟨t',some d,g1⟩,?_⟩
     refine hx pins σ _ s' a t' (.ref C) (some d) (I4.forget ea) ⟨I1.nw hex m.new B3p,.none,g1,.inl rfl,fun T z=>nomatch z⟩ (z d _ (fun b ob q=>?_) nd ?_)
     . have nb:b≠a:=D8 q na
       have nbd:b≠d:=D8 q nd
       rw[A3n nb,D0 nbd,D0 nb,D0 nb]
       exact q
     . rw[A3n nda,A4]
   |next=>exact hq.elim
   |brk=>exact hq.elim
   |cont=>exact hq.elim
end
theorem D1c{prog:Program}{w:World}{A:Around}{E:Value ->Shared ->Prop}{s:Shared}{K:Frag}{a C:Addr}{oa:Obj}{od:Option Obj}{name:Str}{v:Value}{b:Bool}{Q:Value ->Shared ->Prop}(F:B7x K C)(X:K.In s.heap)(I:PySem.W.InstAt s.heap a oa C od)
   (hf:findObj K C od name=some (.value v)) (hh:handedIn v=true) (h:Q v {s with toks:=s.toks+1}):wpAny (model prog w) A (getAttr (.ref a) name b) Q E s:=by
 obtain⟨hp,g,d,t,os⟩:=s
 have L0:=I.type (M:=model prog w)
 have L1:=looks_findIn (M:=model prog w) X F.ga
 have L2:=looks_findIn (M:=model prog w) X F.gh
 have L3:Looks (model prog w) hp (isInstance (.ref a) (.type "BaseException")) true:=L0.andThen (looks_subIn X F.be)
 have L4:=looks_find (M:=model prog w) X I hf
 have hk:builtinKind "BaseException.__getattribute__"=some .slot:=by decide+kernel
 have hsplit:splitId "BaseException.__getattribute__"=some ("BaseException","__getattribute__"):=by decide+kernel
 have hargs:=PySem.F.args_bexc_ga (.ref a) (.str name t)
 have hb:=PySem.F.attr_ValueError.ga.bind (.ref a)
 unfold getAttr getAttrBy
 refine wpAny_bind (wpAny_mkText (wpAny_holding (wpAny_bind (L0.at (wpAny_bind (L1.at ?_))))))
 dsimp only
 rw[if_neg (show¬((onTheHeap (Value.ref C)&&Value.builtin "BaseException.__getattribute__"==Value.builtin "object.__getattribute__")=true) by
   rw[show(Value.builtin "BaseException.__getattribute__"==Value.builtin "object.__getattribute__")=false by decide+kernel,Bool.and_false];exact Bool.false_ne_true)]
 unfold getAttrByItsOwn
 refine wpAny_bind (m:=hookBefore (.ref C)) (L2.at ?_)
 refine wpAny_bind (wpAny_attempt (wpAny_holding ?_))
 unfold callGetattribute
 rw[if_neg (show¬((b&&onTheHeap (Value.builtin "BaseException.__getattribute__"))=true) by
   rw[show onTheHeap (Value.builtin "BaseException.__getattribute__")=false from rfl,Bool.and_false];exact Bool.false_ne_true)]
 unfold boundAndCalled
 rw[hb]
 refine wpAny_bind (wpAny_pure ?_)
 refine wpAny_call (codeAny_call_builtin PySem.F.attr_ValueError.ga.plain PySem.F.entry_bexc_ga ?_)
 have chk:∀{A':Around} {Q':Unit ->Shared ->Prop} {E':Value ->Shared ->Prop},Q' () ⟨hp,g,d,t+1,os⟩ ->wpAny (model prog w) A' (checkBuiltinCall "BaseException.__getattribute__" ⟨[.ref a,.str name t],[]⟩) Q' E' ⟨hp,g,d,t+1,os⟩:=by
   intro A' Q' E' hq
   simp only[checkBuiltinCall,hk,hsplit]
   refine wpAny_bind ?_
   refine L3.at ?_
   repeat (first|assumption|wp_step)
 refine chk ?_
 show wpAny _ _ (Builtin.«object.__getattribute__» ⟨[.ref a, .str name t], []⟩) _ _ _
 unfold Builtin.«object.__getattribute__»
 refine wpAny_bind (wpAny_pure ?_)
 refine wpAny_bind (wpAny_pure ?_)
 refine wpAny_bind (L0.at (wpAny_bind (L4.at ?_)))
 dsimp only
 refine wpAny_pure ?_
 exact handed_on hh h
def G2z (K:Frag) (ta:TE) (f:Str):TE:=fun σ H Q=>ta σ H fun x H1=>∃a C t T d u fs v,x= .ref a/\H1 a=some (.frz (A0c (.ref C) t (some d) T) u)/\H1 d=some (.xd fs)/\B7x K C/\(∃cd,clsIn K C=some cd/\cd.hasDict=true)/\findIn K (.ref C) f=some none/\fs.lookup f=some v/\Q v H1
section
variable{X:Cx}{e:Expr}{f:Str}{pos:Pos}{ta:TE}
theorem G1h(he:PE X e ta)(hb:attributeBase e f X.env (eval e X.env)=eval e X.env):PE X (.Attribute e f pos) (G2z X.K ta f):=by
 intro pins s σ H Q I h
 refine C4h hb (thn (he pins s σ H _ I h) fun u s1 hh_=>?_)
 obtain⟨x,H1,I1,rx,a,C,t,T,d,u0,fs,v,ex,ea,hd,k,⟨cd,hc,hD⟩,hn,l,q⟩:=hh_
 subst ex
 obtain rfl:u=Value.ref a:=rx
 have o1:s1.heap.get? a=some (A0c (.ref C) t (some d) T):=(I1.hok a _ ea).1
 obtain⟨mA,nA,rA⟩:=(show∃mA,s1.heap.Ns1 d mA/\∀f,A4g (fs.lookup f) (mA f) from I1.hok d _ hd)
 obtain⟨od,o2,lk⟩:=A8m nA
 obtain⟨uv,hu,ru⟩:=A4g.some_of (v:=v) (o:=mA f) (by rw[<-l];exact rA f)
 have J:PySem.W.InstAt s1.heap a (A0c (.ref C) t (some d) T) C (some od):=⟨o1,rfl,rfl,o2⟩
 have hf:findObj X.K C (some od) f=some (.value uv):=by
   unfold findObj
   rw[hc,Option.bind_some,hn,Option.bind_some]
   show((PySem.W.ownOf cd (some od) f).bind _)=_
   unfold PySem.W.ownOf
   rw[hD,if_pos rfl]
   show((lookIn f od).bind _)=_
   rw[lk f,hu]
   rfl
 exact D1c k I1.kIn J hf (B4q ru) ⟨v,H1,I1.tok _,ru,q⟩
end
noncomputable def A4z (z:Str) (n:Int):Str:=if n<1 then Str.empty else if(n==1||z.length==0)=true then z else⟨(List.replicate n.toNat z.cps).foldl (· ++ ·) #[]⟩
def G4p:R2:=fun x y H Q=>∃z n,x= .str z/\y= .int n/\ -(2^63)<=n/\n<2^63/\z.length*n.toNat<=sizeLine/\Q (.str (A4z z n)) H
theorem B5p(z:Array Nat):∀(k:Nat) (acc:Array Nat),((List.replicate k z).foldl (· ++ ·) acc).toList=acc.toList++(List.replicate k z.toList).flatten
 |0,acc=>by simp
 | k+1,acc=>by
   rw[List.replicate_succ,List.foldl_cons,B5p z k,Array.toList_append,List.replicate_succ,List.flatten_cons,List.append_assoc]
theorem A1p(z:Str):z.cps.toList.length=z.length:=Array.length_toList
theorem A9n(z:Str)(n:Int):(A4z z n).cps.toList=(List.replicate n.toNat z.cps.toList).flatten:=by
 unfold A4z
 split
 . have:n.toNat=0:=by omega
   rw[this];rfl
 split
 . rename_i h1 h2
   rcases Bool.or_eq_true _ _|>.mp h2 with h|h
   . have:n=1:=by simpa using h
     subst this
     simp
   . have e:z.length=0:=by simpa using h
     have e2:z.cps.toList=[]:=List.eq_nil_of_length_eq_zero (by rw[A1p];exact e)
     rw[e2]
     have:∀k:Nat,(List.replicate k ([]:List Nat)).flatten=[]:=fun k=>by simp
     rw[this]
 show((List.replicate n.toNat z.cps).foldl (· ++ ·) #[]).toList=_
 rw[B5p]
 rfl
theorem B2u(z:Str)(n:Int):(A4z z n).length=n.toNat*z.length:=by
 rw[<-A1p,A9n,C3r,A1p]
section
variable{X:Cx}
theorem C1s:OpR X (binaryOp .Mult) G4p:=by
 intro pins s σ H x y v u Q I rx ry h
 obtain⟨z,n,rfl,rfl,h1,h2,hz,q⟩:=h
 obtain⟨t,rfl⟩:=rx
 obtain⟨t',rfl⟩:=ry
 have lo:¬n< -(2^63:Int):=by omega
 have hi:¬n>=(2^63:Int):=by omega
 have hl:=B2u z n
 have hs:(A4z z n).length<=sizeLine:=by rw[hl,Nat.mul_comm];exact hz
 refine PySem.P.mul_str (by rw[decide_eq_false lo,decide_eq_false hi];rfl) (fun n1 n2=>?_) (fun n1 n2=>G2h hz) ?_
 . intro g
   have p:0<n:=by omega
   have e:((z.length*n.toNat:Nat):Int)=(z.length:Int)*n:=by rw[Int.natCast_mul,Int.toNat_of_nonneg (by omega)]
   have c:((z.length*n.toNat:Nat):Int)<=(sizeLine:Nat):=Int.ofNat_le.mpr hz
   have k:(sizeLine:Nat)<=2^63-1:=by decide
   have k':((sizeLine:Nat):Int)<=(2^63-1:Int):=by
     have:=Int.ofNat_le.mpr k
     exact this
   have:(z.length:Int)<=(2^63-1)/n:=(Int.le_ediv_iff_mul_le p).mpr (by omega)
   omega
 unfold A4z at q hs
 split
 . rw[if_pos (by assumption)] at q
   exact⟨by decide,.str _,H,I.tok _,⟨_,rfl⟩,q⟩
 rw[if_neg (by assumption)] at q hs
 split
 . rw[if_pos (by assumption)] at q
   exact⟨.str _,H,I,⟨_,rfl⟩,q⟩
 rw[if_neg (by assumption)] at q hs
 exact⟨hs,.str _,H,I.tok _,⟨_,rfl⟩,q⟩
end
noncomputable def C6b (n:Nat):Str:=("1":Str)++A4z ("0":Str) (n:Int)
theorem C6f(n:Nat):(List.replicate n [48]).flatten=List.replicate n 48:=by
 induction n with
 |zero=>rfl
 |succ n ih=>rw[List.replicate_succ,List.flatten_cons,ih,List.replicate_succ];rfl
theorem A5t(n:Nat):(C6b n).cps.toList=49::List.replicate n 48:=by
 unfold C6b
 show(("1":Str).cps++(A4z ("0":Str) (n:Int)).cps).toList=_
 rw[Array.toList_append,A9n]
 have a:("1":Str).cps.toList=[49]:=by decide+kernel
 have b:("0":Str).cps.toList=[48]:=by decide+kernel
 rw[a,b]
 show [49]++(List.replicate n [48]).flatten=_
 rw[C6f]
 rfl
theorem B9a(n:Nat):(C6b n).length=n+1:=by
 rw[<-A1p,A5t]
 simp
theorem C0s(n:Nat):∀a:Nat,(List.replicate n 48).foldl (fun acc c=>acc*10+(c-48)) a=a*10^n:=by
 induction n with
 |zero=>intro a;simp
 | succ n ih=>
   intro a
   rw[List.replicate_succ,List.foldl_cons,ih,Nat.pow_succ]
   show(a*10+0)*10^n=_
   rw[Nat.add_zero,Nat.mul_assoc,Nat.mul_comm 10]
section
variable{X:Cx}
theorem B8y(hc:X.A.handled=none):A0y X (.builtin "all") (fun xs H Q=>∃(l:Addr) (bs:List Bool),xs=[.ref l]/\SqL X.K H l (bs.map V.bl)/\Q (.bl (bs.all id)) H):=by
 intro pins s σ H xs us Q I r h
 obtain⟨l,bs,rfl,hl,q⟩:=h
 obtain⟨u,rfl,ru⟩:=G7.one r
 cases ru
 obtain⟨its,rv,p,hz⟩:=I.list hl
 obtain⟨o,e,_⟩:=id p.isList
 have hlt:l<s.heap.objs.size:=Heap.lt_size e
 have hlen:its.length=bs.length:=by rw[<-rv.length,List.length_map]
 refine call_all_walk (wpAny_pyIter_list p.isList ?_)
 refine⟨s.heap.objs.size,[s.heap.objs.size,l],[s.heap.objs.size],its.toArray.size,_,_,fun i=>(bs[i]?).getD true,rfl,Walks.list (A:=X.A.in1) hc _ l (Nat.ne_of_lt hlt) its.toArray,⟨⟨_,Heap.get?_push_size _ rfl,rfl,rfl⟩,p.isList.push _⟩,fun i v s' Q' E' hP hQ=>?_,fun h' tk hk=>?_⟩
 . have hP:its[i]?=some v:=by simpa using hP
   have hi:i<bs.length:=by rw[<-hlen];exact(List.getElem?_eq_some_iff.mp hP).1
   obtain⟨u',hu',ru'⟩:=rv.get (i:=i) (x:=V.bl bs[i]) (by simp[hi])
   rw[hP] at hu'
   cases hu'
   cases ru'
   have z:(bs[i]?).getD true=bs[i]:=by simp[hi]
   dsimp only at hQ
   rw[z] at hQ
   exact wpAny_truthy_bool hQ
 have z:((List.range its.toArray.size).all fun i=>(bs[i]?).getD true)=bs.all id:=by
   rw[List.size_toArray,hlen]
   exact LSm.range_all bs
 rw[z]
 exact⟨.bl (bs.all id),H,I.kept fun b x e=>hk b x (fun hm=>by rw[List.mem_singleton.mp hm] at e;exact Nat.lt_irrefl _ (Heap.lt_size e)) (Heap.get?_push_of_some _ e),rfl,q⟩
def J1a:V ->List V ->Hp ->VK ->Prop:=fun x vs H Q=>∃i,x= .int i/\vs=[]/\Q (.int ((Builtin.Int.intBits i:Nat):Int)) H
theorem B4b:MtR X "int.bit_length" J1a:=by
 intro pins s σ H x xs v us Q I rx rs h
 obtain⟨i,rfl,rfl,q⟩:=h
 obtain⟨t,rfl⟩:=rx
 cases rs
 exact call_int_bit_length ⟨.int _,H,I.tok _,⟨_,rfl⟩,q⟩
end
section
variable{X:Cx}{a b:Expr}{rest:List Expr}{pos:Pos}{ta tb:TE}
end
section
variable{X:Cx}{j k:Nat}{f C:Addr}{fd:FuncData}{ps:List Str}{sp:Sp}{dvs:List V}{ds:List Value}{x m:Str}{p pos apos:Pos}{e o:Expr}{es:List Expr}{ta:TE}{t:TA}{st:Stmt}
theorem D9y{pins:List (Addr×Obj)}{σ:St}{H:Hp}{s:Shared}{Q:VK}{us:List Value}{vs:List V}(F:G6 X.prog X.w X.K X.mg X.base (CX1 X.prog X.w) k f fd ps sp)(hr:A0r k X.A)(hb:Y6 X.K fd ps ds)(hd:G7 dvs ds)
   (I:Inv X pins σ H s) (r:G7 vs us) (h:sp (vs++dvs) H Q (fun C d H'=>EKF C d σ H')):wpAny (model X.prog X.w) X.A (call (.ref f) us) (EP X pins σ Q) X.xe s:=by
 have r2:G7 (vs++dvs) (us++ds):=r.append hd
 have hl:(us++ds).length=ps.length:=by rw[<-r2.length];exact F.len _ _ _ _ h
 refine wpAny_call (codeAny_mono (F.run X.A X.stack s H ⟨us,[]⟩ (us++ds) (vs++dvs) Q _ hr I.env0 (hb s us I.kIn hl) r2 h) fun r s' hq=>?_)
 cases r with
 | error e=>
   obtain⟨a,t,C,dd,H',_,_,_,_,_,hE,_⟩:=hq
   exact False.elim hE
 | ok fl=>
   cases fl with
   |ret u=>exact I.after hq
   |next=>exact False.elim hq
   |brk=>exact False.elim hq
   |cont=>exact False.elim hq
theorem A4a(D:Def X.K X.mg x ps st f fd)(F:G6 X.prog X.w X.K X.mg X.base (CX1 X.prog X.w) j f fd ps sp)(hr:A0r k X.A)(ha:PA X (e::es) t)(hj:j<=k:=by decide)(hg:Gl X x:=by rfl)(hdb:(x==("__debug__":Str))=false:=by decide)
   (he:starEach (e::es) X.env=(false,eval e X.env)::starEach es X.env:=by rfl) (hpl:(backTo pos (starEach es X.env)).any (·.1)=false:=by rfl):PE X (.Call (.Name x p) (e::es) [] pos) (A2v sp [] EKF t):=by
 intro pins s σ H Q I h
 refine wpAny_Call_Name_kw (Z9 I hg D.g ?_ hdb)
 refine PySem.W.callWith_K (h₀:=X.base) I.ok.mod.kin D.F.kp (thn (ha pos pins s σ H _ I h) fun us s1 ⟨vs,H1,I1,r,q⟩=>⟨I1.kIn,?_⟩) he hpl
 exact D9y (F.mono hj) hr D.b .nil I1 r q
end
section
variable{X:Cx}{N F:List Str}{js:List Nat}{scope:Scope}
theorem B5k{pins:List (Addr×Obj)}{σ:St}{H:Hp}{s:Shared}{fp:List Addr}{h':Heap}(S:D3 N F js scope X.N X.env)(I:Inv X pins σ H s)(hf:∀b∈fp,A0t X pins H b)(hit:∀b∈fp,∃o,s.heap.get? b=some o)(hnb:∀b∈fp,X.base.get? b=none)
   (hns:h'.Ns s.heap.objs.size (fun _=>none)) (hsb:∀b o,s.heap.get? b=some o ->h'.get? b=some o) {tk:Nat}:
   Inv (X.compF scope N F s.heap.objs.size s H fp (X.pn++pins)) [] (List.replicate N.length none++A2h js σ) H {s with heap:=h',toks:=tk}:=by
 have ck:∀c v,s.heap.IsCell c v ->h'.IsCell c v:=fun c v ⟨o,e,d⟩=>⟨o,hsb _ _ e,d⟩
 have inF:∀x,((compEnvC scope (A1a F X.env) s.heap.objs.size X.env).kindOf x=some .cell\/(compEnvC scope (A1a F X.env) s.heap.objs.size X.env).kindOf x=some .free) ->x∈F:=by
   intro x z
   have z:(relabel scope X.env).names.lookup x=some .cell\/(relabel scope X.env).names.lookup x=some .free:=z
   rcases z with z|z
   . exact S.fr _ (PySem.mem_of_lookup z) (.inl rfl)
   . exact S.fr _ (PySem.mem_of_lookup z) (.inr rfl)
 refine⟨⟨I.ok.mod,S.kind,I.ok.glob,I.ok.blt,Nat.le_refl _,fun x y c z z'=>I.ok.inj x y c (S.sub x c z) (S.sub y c z'),fun x z=>?_,fun x c z _=>(nomatch z),I.ok.hd,I.ok.frames,.inl rfl,fun b hb=>?_,I.bs,Nat.le_trans I.ok.bsz I.sz,fun b o e hb=>?_,fun b hb hfs=>?_,I.stack,I.stkFree⟩,
   rfl,I.bare,Un.kept hsb,⟨_,hns,fun i x v e1 e2 e3=>A5g S I (fun x c v _ z=>ck c v z) i x v e1 e2⟩,fun x c z=>?_,I.hok.fresh (Nat.le_refl _),fun x c z=>I.freeC x c (S.sub x c z),fun p hp=>?_,I.hok.kept hsb,B7p S σ⟩
 . obtain⟨c,h1,_⟩:=S.has (inF x z)
   exact⟨c,h1⟩
 . obtain⟨oi,ei⟩:=hit b hb
   exact⟨Nat.ne_of_lt (Heap.lt_size ei),fun x c z=>(hf b hb).2.2.2.2.1 x c (S.sub x c z)⟩
 . rw[hnb b hb] at e
   cases e
 . rcases List.mem_cons.mp (I.stkSub b hfs) with z|z
   . exact(hf b hb).2.1 z
   . exact(hf b hb).2.2.1 z
 . obtain⟨v,z'⟩:=I.cell x c (S.sub x c z)
   exact⟨v,ck c v z'⟩
 have hp':p∈X.pn++pins:=by simpa using hp
 obtain⟨q1,q2,q3,q4,q5⟩:=I.pin p hp'
 refine⟨hsb _ _ q1,q2,Nat.ne_of_lt (Heap.lt_size q1),fun z=>?_,q5⟩
 rcases List.mem_cons.mp (I.stkSub p.1 z) with z|z
 . exact q3 z
 exact q4 z
theorem B3e{pins pl:List (Addr×Obj)}{σ σ':St}{H H':Hp}{s s':Shared}{fp:List Addr}(S:D3 N F js scope X.N X.env)(I:Inv X pins σ H s)(hf:∀b∈fp,A0t X pins H b)(J:Inv (X.compF scope N F s.heap.objs.size s H fp (X.pn++pins)) pl σ' H' s'):
   Inv (X.compF scope N F s.heap.objs.size s H fp (X.pn++pins)) [] (List.replicate N.length none++A2h js σ) H' s':=by
 obtain⟨m,hn,_⟩:=J.loc
 refine⟨J.ok,J.os,J.bare,J.base,⟨m,hn,fun i x v e1 e2 e3=>A5g S I (fun x c v z q=>?_) i x v e1 e2⟩,J.cell,J.free,J.freeC,fun p hp=>J.pin p (by
   have hp:p∈(X.pn++pins)++ []:=hp
   rw[List.append_nil] at hp
   exact List.mem_append_left _ hp),J.hok,B7p S σ⟩
 obtain⟨o,e,d⟩:=q
 have ne:c ∉ fp:=fun w=>(hf c w).2.2.2.2.1 x c z rfl
 obtain⟨sl,q⟩:=J.base.any e (I.freeC x c z) ne
 exact⟨_,q,d⟩
theorem B2b{elt target iter c:Expr}{scope:Scope}{pos:Pos}{N F:List Str}{js:List Nat}{wi:TI}{g:TG}{tc:TT}{te:TE}(S:D3 N F js scope X.N X.env)(hd:Y0 X)(hc0:X.calm=true)(hi:PI X target iter wi)(hex:X.ex=[])
   (hg:∀C s₀ H₀ ex pn,Y0 (X.compF scope N F C s₀ H₀ ex pn) ->PG (X.compF scope N F C s₀ H₀ ex pn) target g)
   (hc:∀C s₀ H₀ ex pn,Y0 (X.compF scope N F C s₀ H₀ ex pn) ->PT (X.compF scope N F C s₀ H₀ ex pn) c tc)
   (he:∀C s₀ H₀ ex pn,Y0 (X.compF scope N F C s₀ H₀ ex pn) ->PE (X.compF scope N F C s₀ H₀ ex pn) elt te)
   {pins:List (Addr×Obj)} {s:Shared} {σ:St} {H:Hp} {Q:VK} {RR:Value ->Env ->Result ->Shared ->Prop} (I:Inv X pins σ H s) (h:(A6e N.length js wi g tc te) σ H Q)
   (hRR:∀(D C:Addr) (s6:Shared) (H5:Hp) (mm:Str ->Option Value),Inv X pins σ H5 s6 ->s6.heap.Ns C mm ->A0t X pins H5 C ->Q (.ref D) H5 ->RR (.ref D) (compEnvC scope (A1a F X.env) C X.env) (.ok .next) s6):
   wpAny (model X.prog X.w) X.A (eval iter X.env) (fun v s1=>wpAny (model X.prog X.w) X.A (pyIter v) (fun itv s2=>wpAny (model X.prog X.w) X.A (newList []) (fun acc s3=>wpAny (model X.prog X.w) X.A (newFunctionEnv scope X.env.globals (A1a F X.env) [] X.env.qual none .none (some X.env)) (fun cenv s4=>
     codeAny (model X.prog X.w) X.A (.compStart (.ListComp elt [⟨target,iter,[c],0⟩] scope pos) 0 itv acc {cenv with scope:=relabel scope X.env}) (RR acc {cenv with scope:=relabel scope X.env}) s4) X.xe s3) X.xe s2) X.xe s1) X.xe s:=by
 refine thn (hi pins s σ H _ I h) fun v s1 h1=>thn h1 fun itv s2 h2=>?_
 obtain⟨it,fp,tn,J,H2,rfl,I2,T,st2,f2,R⟩:=h2
 have ob2:=T.obj _ _ st2
 have hf2:=I2.hok.fresh (Nat.le_refl _)
 refine wpAny_newObj_type ?_
 have I3:Inv X pins σ (upd H2 s2.heap.objs.size (.lst [])) {s2 with heap:=s2.heap.push {cls:= .type "list",dict:=none,data:= .seq ([]:List Value).toArray}}:=Inv.lnew (t':=s2.toks) I2 .nil (Nat.zero_le _)
 refine wpAny_newFunctionEnv S.cell (by intro y hy;simp at hy) (fun h4 hns hsb=>?_) S.kind
 dsimp only at hns hsb ⊢
 generalize hG:s2.heap.push {cls:= .type "list",dict:=none,data:= .seq ([]:List Value).toArray}=G at I3 hns hsb ⊢
 generalize hD:s2.heap.objs.size=D at I3 hf2
 have nD:∀b∈fp,b≠D:=fun b hb=>by
   obtain⟨o,eo,_⟩:=ob2 b hb
   rw[<-hD];exact Nat.ne_of_lt (Heap.lt_size eo)
 have eiG:∀b∈fp,∃o,G.get? b=some o:=fun b hb=>by
   obtain⟨o,eo,_⟩:=ob2 b hb
   exact⟨o,by rw[<-hG];exact Heap.get?_push_of_some _ eo⟩
 have kp:∀b o,G.get? b=some o ->h4.get? b=some o:=fun b o e=>hsb.extBut b o (Nat.ne_of_lt (Heap.lt_size e)) (Heap.get?_push_of_some _ e)
 have f3:∀b∈fp,A0t X pins (upd H2 D (.lst [])) b:=fun b hb=>⟨by rw[D0 (nD b hb)];exact(f2 b hb).1,(f2 b hb).2⟩
 have nb:∀b∈fp,X.base.get? b=none:=fun b hb=>by
   cases q:X.base.get? b with
   |none=>rfl
   | some o=>
     have:=(I.ok.bs b o q).1
     rcases(f2 b hb).2.2.2.1 with z|z
     . rw[hex] at z;simp at z
     . exact absurd (Nat.lt_of_lt_of_le (Heap.lt_size this) z) (Nat.lt_irrefl _)
 have hns':h4.Ns G.objs.size (fun _=>none):=by
   obtain⟨o,es,ep,q1,q2,q3,q4⟩:=hns
   exact⟨o,es,ep,q1,q2,q3,fun x=>by rw[q4];rfl⟩
 have I4:=B5k (tk:=s2.toks+([]:List (Str×Value)).length) S I3 f3 eiG nb hns' kp
 have hdc:Y0 (X.compF scope N F G.objs.size {s2 with heap:=G} (upd H2 D (.lst [])) fp (X.pn++pins)):=by
   rcases hd with z|⟨x,o,u,vs,z,e,d,n⟩
   . exact .inl z
   . refine .inr ⟨x,o,u,vs,z,?_,d,n⟩
     have q:=I2.base.frzs x o u e
     show upd H2 D (.lst []) x=_
     rw[D0 fun w=>by rw[w,hf2] at q;cases q]
     exact q
 obtain⟨m,W,w0,turn⟩:=R D hf2
 have gg:=hg _ _ _ _ _ hdc
 have cc:=hc _ _ _ _ _ hdc
 have ee:=he _ _ _ _ _ hdc
 have fpc:∀{H':Hp} {σ':St} {s':Shared} {pl:List (Addr×Obj)},Inv (X.compF scope N F G.objs.size {s2 with heap:=G} (upd H2 D (.lst [])) fp (X.pn++pins)) pl σ' H' s' ->(∀b∈fp,H' b=none) ->(∀b∈fp,∀p∈pl,p.1≠b) ->∀b∈fp,A0t (X.compF scope N F G.objs.size {s2 with heap:=G} (upd H2 D (.lst [])) fp (X.pn++pins)) pl H' b:=by
   intro H' σ' s' pl J' hn hp b hb
   obtain⟨oi,ei⟩:=eiG b hb
   refine⟨hn b hb,Nat.ne_of_lt (Heap.lt_size ei),?_,.inl hb,(fun x c z=>(f2 b hb).2.2.2.2.1 x c (S.sub x c z)),fun p hpp=>?_⟩
   . intro z
     rcases List.mem_cons.mp (I.stkSub b z) with z|z
     . exact(f2 b hb).2.1 z
     . exact(f2 b hb).2.2.1 z
   . rcases List.mem_append.mp hpp with z|z
     . exact(f2 b hb).2.2.2.2.2 p z
     . exact hp b hb p z
 have loop:codeAny (model X.prog X.w) X.A (.compLoop (.ListComp elt [⟨target,iter,[c],0⟩] scope pos) 0 (.ref it) (.ref D) (compEnvC scope (A1a F X.env) G.objs.size X.env))
     (RR (.ref D) (compEnvC scope (A1a F X.env) G.objs.size X.env))
     {s2 with heap:=h4,toks:=s2.toks+([]:List (Str×Value)).length}:=by
   refine kct_loop (fun k s'=>∃i ys H',k=m+1-i/\Inv (X.compF scope N F G.objs.size {s2 with heap:=G} (upd H2 D (.lst [])) fp (X.pn++pins)) [] (List.replicate N.length none++A2h js σ) H' s'/\tn i s'.heap/\(∀b∈fp,H' b=none)/\W i ys H') ?_ (m+1)
     ⟨0,[],_,rfl,I4,T.keep _ _ _ st2 fun b hb o e=>kp b o (by rw[<-hG];exact Heap.get?_push_of_some _ e),fun b hb=>(f3 b hb).1,w0⟩
   rintro k s5 ⟨i,ys,H5,rfl,I5,st5,n5,w5⟩
   obtain⟨hi5,hD5,w5⟩:=turn i ys H5 w5
   rcases w5 with⟨stop,q⟩|⟨lt5,go,step⟩
   . refine wpAny_mono (T.done (X.compF scope N F G.objs.size {s2 with heap:=G} (upd H2 D (.lst [])) fp (X.pn++pins)) rfl rfl rfl hc0 i [] s5 _ H5 (fun _ _=>False) I5 (fpc I5 n5 (by simp)) st5 stop) (fun r s6 z=>?_) (fun _ _ z=>z.elim)
     obtain⟨rfl,I6⟩:=z
     obtain⟨mm,hn6,_⟩:=I6.loc
     have B6:=I6.base
     have J6:Inv X pins σ H5 s6:=by
       refine I3.call' (ch:=fp) I6.os ⟨B6.keep,B6.slot,B6.free,B6.there,B6.tups,B6.frzs,B6.tbls⟩ I6.hok I6.bare (fun b hb=>⟨(f2 b hb).2.2.2.1,(f2 b hb).2.1,(f2 b hb).2.2.2.2.1,(f2 b hb).2.2.2.2.2⟩)
     have szG:X.s₀.heap.objs.size<=G.objs.size:=I3.sz
     refine hRR D G.objs.size s6 H5 mm J6 hn6 ⟨I6.free,?_,?_,.inr szG,?_,?_⟩ q
     . exact Nat.ne_of_gt I3.lt
     . intro z
       obtain⟨_,o,ho,_⟩:=I3.funs.mem z
       exact Nat.lt_irrefl _ (Heap.lt_size ho)
     . rintro x c z rfl
       obtain⟨v',o,ho,_⟩:=I3.cell x _ z
       exact Nat.lt_irrefl _ (Heap.lt_size ho)
     . rintro p hp z
       have zz:=(I3.pin p hp).1
       rw[z] at zz
       exact Nat.lt_irrefl _ (Heap.lt_size zz)
   . refine wpAny_mono (T.item (X.compF scope N F G.objs.size {s2 with heap:=G} (upd H2 D (.lst [])) fp (X.pn++pins)) rfl rfl rfl hc0 i [] s5 _ H5 (fun _ _=>False) I5 (fpc I5 n5 (by simp)) st5 go) (fun r s6 z=>?_) (fun _ _ z=>z.elim)
     obtain⟨u,rfl,z⟩:=z
     refine wpAny_mono z (fun _ s7 z=>?_) (fun _ _ z=>z.elim)
     obtain⟨x,H7,I7,rx,yl,st7,fr7⟩:=z
     have ob7:=T.obj _ _ st7
     have I7':Inv (X.compF scope N F G.objs.size {s2 with heap:=G} (upd H2 D (.lst [])) fp (X.pn++pins)) (A0w fp s7.heap) (List.replicate N.length none++A2h js σ) H7 s7:=I7.pinned (fpc I7 fr7 (by simp)) ob7
     have back:∀{i':Nat} {ys':List V} {H':Hp} {σ':St} {s':Shared},i'=i+1 ->Inv (X.compF scope N F G.objs.size {s2 with heap:=G} (upd H2 D (.lst [])) fp (X.pn++pins)) (A0w fp s7.heap) σ' H' s' ->W i' ys' H' ->
         ∃k',k'<m+1-i/\∃i ys H',k'=m+1-i/\Inv (X.compF scope N F G.objs.size {s2 with heap:=G} (upd H2 D (.lst [])) fp (X.pn++pins)) [] (List.replicate N.length none++A2h js σ) H' s'/\tn i s'.heap/\(∀b∈fp,H' b=none)/\W i ys H':=by
       rintro i' ys' H' σ' s' rfl J' w'
       refine⟨m+1-(i+1),by omega,i+1,ys',H',rfl,B3e S I3 f3 J',T.keep _ _ _ st7 fun b hb o z=>(J'.pin (b,o) (List.mem_append_right _ (A0m hb z))).1,fun b hb=>?_,w'⟩
       obtain⟨o,eo,_⟩:=ob7 b hb
       exact(J'.pin (b,o) (List.mem_append_right _ (A0m hb eo))).2.1
     refine wpAny_mono (gg (A0w fp s7.heap) s7 _ H7 x u _ I7' rx (step x H7 yl)) (fun _ s8 z=>?_) (fun _ _ z=>z.elim)
     obtain⟨σ8,H8,I8,q8⟩:=z
     refine wpAny_mono (cc (A0w fp s7.heap) s8 σ8 H8 _ I8 q8) (fun b s9 z=>?_) (fun _ _ z=>z.elim)
     obtain⟨H9,I9,q9⟩:=z
     cases b with
     | false=>
       simp only[Bool.false_eq_true,if_false] at q9 ⊢
       exact back rfl I9 q9
     | true=>
       simp only[if_true] at q9 ⊢
       refine wpAny_mono (ee (A0w fp s7.heap) s9 σ8 H9 _ I9 q9) (fun y s10 z=>?_) (fun _ _ z=>z.elim)
       obtain⟨yv,H10,I10,ry,hD10,hz10,w10⟩:=z
       refine wpAny_mono (A3d (X:=X.compF scope N F G.objs.size {s2 with heap:=G} (upd H2 D (.lst [])) fp (X.pn++pins)) (A0w fp s7.heap) s10 σ8 H10 (.ref D) [yv] (.ref D) [y] (fun _ H11=>W (i+1) (ys++ [yv]) H11) I10 rfl (.cons ry .nil) ⟨D,ys,yv,rfl,rfl,hD10,hz10,w10⟩) (fun _ s11 z=>?_) (fun _ _ z=>z.elim)
       obtain⟨_,H11,I11,_,w11⟩:=z
       exact back rfl I11 w11
 exact codeAny_compStart_list loop (T.self _ 0 _ _ _ (T.keep _ _ _ st2 fun b hb o e=>kp b o (by rw[<-hG];exact Heap.get?_push_of_some _ e)) loop)
theorem A9p{elt target iter:Expr}{scope:Scope}{pos:Pos}{N F:List Str}{js:List Nat}{wi:TI}{g:TG}{te:TE}(S:D3 N F js scope X.N X.env)(hd:Y0 X)(hc0:X.calm=true)(hi:PI X target iter wi)(hex:X.ex=[])
   (hg:∀C s₀ H₀ ex pn,Y0 (X.compF scope N F C s₀ H₀ ex pn) ->PG (X.compF scope N F C s₀ H₀ ex pn) target g)
   (he:∀C s₀ H₀ ex pn,Y0 (X.compF scope N F C s₀ H₀ ex pn) ->PE (X.compF scope N F C s₀ H₀ ex pn) elt te)
   {pins:List (Addr×Obj)} {s:Shared} {σ:St} {H:Hp} {Q:VK} {RR:Value ->Env ->Result ->Shared ->Prop} (I:Inv X pins σ H s) (h:(A7d N.length js wi g te) σ H Q)
   (hRR:∀(D C:Addr) (s6:Shared) (H5:Hp) (mm:Str ->Option Value),Inv X pins σ H5 s6 ->s6.heap.Ns C mm ->A0t X pins H5 C ->Q (.ref D) H5 ->RR (.ref D) (compEnvC scope (A1a F X.env) C X.env) (.ok .next) s6):
   wpAny (model X.prog X.w) X.A (eval iter X.env) (fun v s1=>wpAny (model X.prog X.w) X.A (pyIter v) (fun itv s2=>wpAny (model X.prog X.w) X.A (newList []) (fun acc s3=>wpAny (model X.prog X.w) X.A (newFunctionEnv scope X.env.globals (A1a F X.env) [] X.env.qual none .none (some X.env)) (fun cenv s4=>
     codeAny (model X.prog X.w) X.A (.compStart (.ListComp elt [⟨target,iter,[],0⟩] scope pos) 0 itv acc {cenv with scope:=relabel scope X.env}) (RR acc {cenv with scope:=relabel scope X.env}) s4) X.xe s3) X.xe s2) X.xe s1) X.xe s:=by
 refine thn (hi pins s σ H _ I h) fun v s1 h1=>thn h1 fun itv s2 h2=>?_
 obtain⟨it,fp,tn,J,H2,rfl,I2,T,st2,f2,R⟩:=h2
 have ob2:=T.obj _ _ st2
 have hf2:=I2.hok.fresh (Nat.le_refl _)
 refine wpAny_newObj_type ?_
 have I3:Inv X pins σ (upd H2 s2.heap.objs.size (.lst [])) {s2 with heap:=s2.heap.push {cls:= .type "list",dict:=none,data:= .seq ([]:List Value).toArray}}:=Inv.lnew (t':=s2.toks) I2 .nil (Nat.zero_le _)
 refine wpAny_newFunctionEnv S.cell (by intro y hy;simp at hy) (fun h4 hns hsb=>?_) S.kind
 dsimp only at hns hsb ⊢
 generalize hG:s2.heap.push {cls:= .type "list",dict:=none,data:= .seq ([]:List Value).toArray}=G at I3 hns hsb ⊢
 generalize hD:s2.heap.objs.size=D at I3 hf2
 have nD:∀b∈fp,b≠D:=fun b hb=>by
   obtain⟨o,eo,_⟩:=ob2 b hb
   rw[<-hD];exact Nat.ne_of_lt (Heap.lt_size eo)
 have eiG:∀b∈fp,∃o,G.get? b=some o:=fun b hb=>by
   obtain⟨o,eo,_⟩:=ob2 b hb
   exact⟨o,by rw[<-hG];exact Heap.get?_push_of_some _ eo⟩
 have kp:∀b o,G.get? b=some o ->h4.get? b=some o:=fun b o e=>hsb.extBut b o (Nat.ne_of_lt (Heap.lt_size e)) (Heap.get?_push_of_some _ e)
 have f3:∀b∈fp,A0t X pins (upd H2 D (.lst [])) b:=fun b hb=>⟨by rw[D0 (nD b hb)];exact(f2 b hb).1,(f2 b hb).2⟩
 have nb:∀b∈fp,X.base.get? b=none:=fun b hb=>by
   cases q:X.base.get? b with
   |none=>rfl
   | some o=>
     have:=(I.ok.bs b o q).1
     rcases(f2 b hb).2.2.2.1 with z|z
     . rw[hex] at z;simp at z
     . exact absurd (Nat.lt_of_lt_of_le (Heap.lt_size this) z) (Nat.lt_irrefl _)
 have hns':h4.Ns G.objs.size (fun _=>none):=by
   obtain⟨o,es,ep,q1,q2,q3,q4⟩:=hns
   exact⟨o,es,ep,q1,q2,q3,fun x=>by rw[q4];rfl⟩
 have I4:=B5k (tk:=s2.toks+([]:List (Str×Value)).length) S I3 f3 eiG nb hns' kp
 have hdc:Y0 (X.compF scope N F G.objs.size {s2 with heap:=G} (upd H2 D (.lst [])) fp (X.pn++pins)):=by
   rcases hd with z|⟨x,o,u,vs,z,e,d,n⟩
   . exact .inl z
   . refine .inr ⟨x,o,u,vs,z,?_,d,n⟩
     have q:=I2.base.frzs x o u e
     show upd H2 D (.lst []) x=_
     rw[D0 fun w=>by rw[w,hf2] at q;cases q]
     exact q
 obtain⟨m,W,w0,turn⟩:=R D hf2
 have gg:=hg _ _ _ _ _ hdc
 have ee:=he _ _ _ _ _ hdc
 have fpc:∀{H':Hp} {σ':St} {s':Shared} {pl:List (Addr×Obj)},Inv (X.compF scope N F G.objs.size {s2 with heap:=G} (upd H2 D (.lst [])) fp (X.pn++pins)) pl σ' H' s' ->(∀b∈fp,H' b=none) ->(∀b∈fp,∀p∈pl,p.1≠b) ->∀b∈fp,A0t (X.compF scope N F G.objs.size {s2 with heap:=G} (upd H2 D (.lst [])) fp (X.pn++pins)) pl H' b:=by
   intro H' σ' s' pl J' hn hp b hb
   obtain⟨oi,ei⟩:=eiG b hb
   refine⟨hn b hb,Nat.ne_of_lt (Heap.lt_size ei),?_,.inl hb,(fun x c z=>(f2 b hb).2.2.2.2.1 x c (S.sub x c z)),fun p hpp=>?_⟩
   . intro z
     rcases List.mem_cons.mp (I.stkSub b z) with z|z
     . exact(f2 b hb).2.1 z
     . exact(f2 b hb).2.2.1 z
   . rcases List.mem_append.mp hpp with z|z
     . exact(f2 b hb).2.2.2.2.2 p z
     . exact hp b hb p z
 have loop:codeAny (model X.prog X.w) X.A (.compLoop (.ListComp elt [⟨target,iter,[],0⟩] scope pos) 0 (.ref it) (.ref D) (compEnvC scope (A1a F X.env) G.objs.size X.env))
     (RR (.ref D) (compEnvC scope (A1a F X.env) G.objs.size X.env))
     {s2 with heap:=h4,toks:=s2.toks+([]:List (Str×Value)).length}:=by
   refine B1n (fun k s'=>∃i ys H',k=m+1-i/\Inv (X.compF scope N F G.objs.size {s2 with heap:=G} (upd H2 D (.lst [])) fp (X.pn++pins)) [] (List.replicate N.length none++A2h js σ) H' s'/\tn i s'.heap/\(∀b∈fp,H' b=none)/\W i ys H') ?_ (m+1)
     ⟨0,[],_,rfl,I4,T.keep _ _ _ st2 fun b hb o e=>kp b o (by rw[<-hG];exact Heap.get?_push_of_some _ e),fun b hb=>(f3 b hb).1,w0⟩
   rintro k s5 ⟨i,ys,H5,rfl,I5,st5,n5,w5⟩
   obtain⟨hi5,hD5,w5⟩:=turn i ys H5 w5
   rcases w5 with⟨stop,q⟩|⟨lt5,go,step⟩
   . refine wpAny_mono (T.done (X.compF scope N F G.objs.size {s2 with heap:=G} (upd H2 D (.lst [])) fp (X.pn++pins)) rfl rfl rfl hc0 i [] s5 _ H5 (fun _ _=>False) I5 (fpc I5 n5 (by simp)) st5 stop) (fun r s6 z=>?_) (fun _ _ z=>z.elim)
     obtain⟨rfl,I6⟩:=z
     obtain⟨mm,hn6,_⟩:=I6.loc
     have B6:=I6.base
     have J6:Inv X pins σ H5 s6:=by
       refine I3.call' (ch:=fp) I6.os ⟨B6.keep,B6.slot,B6.free,B6.there,B6.tups,B6.frzs,B6.tbls⟩ I6.hok I6.bare (fun b hb=>⟨(f2 b hb).2.2.2.1,(f2 b hb).2.1,(f2 b hb).2.2.2.2.1,(f2 b hb).2.2.2.2.2⟩)
     have szG:X.s₀.heap.objs.size<=G.objs.size:=I3.sz
     refine hRR D G.objs.size s6 H5 mm J6 hn6 ⟨I6.free,?_,?_,.inr szG,?_,?_⟩ q
     . exact Nat.ne_of_gt I3.lt
     . intro z
       obtain⟨_,o,ho,_⟩:=I3.funs.mem z
       exact Nat.lt_irrefl _ (Heap.lt_size ho)
     . rintro x c z rfl
       obtain⟨v',o,ho,_⟩:=I3.cell x _ z
       exact Nat.lt_irrefl _ (Heap.lt_size ho)
     . rintro p hp z
       have zz:=(I3.pin p hp).1
       rw[z] at zz
       exact Nat.lt_irrefl _ (Heap.lt_size zz)
   . refine wpAny_mono (T.item (X.compF scope N F G.objs.size {s2 with heap:=G} (upd H2 D (.lst [])) fp (X.pn++pins)) rfl rfl rfl hc0 i [] s5 _ H5 (fun _ _=>False) I5 (fpc I5 n5 (by simp)) st5 go) (fun r s6 z=>?_) (fun _ _ z=>z.elim)
     obtain⟨u,rfl,z⟩:=z
     refine wpAny_mono z (fun _ s7 z=>?_) (fun _ _ z=>z.elim)
     obtain⟨x,H7,I7,rx,yl,st7,fr7⟩:=z
     have ob7:=T.obj _ _ st7
     have I7':Inv (X.compF scope N F G.objs.size {s2 with heap:=G} (upd H2 D (.lst [])) fp (X.pn++pins)) (A0w fp s7.heap) (List.replicate N.length none++A2h js σ) H7 s7:=I7.pinned (fpc I7 fr7 (by simp)) ob7
     have back:∀{i':Nat} {ys':List V} {H':Hp} {σ':St} {s':Shared},i'=i+1 ->Inv (X.compF scope N F G.objs.size {s2 with heap:=G} (upd H2 D (.lst [])) fp (X.pn++pins)) (A0w fp s7.heap) σ' H' s' ->W i' ys' H' ->
         ∃k',k'<m+1-i/\∃i ys H',k'=m+1-i/\Inv (X.compF scope N F G.objs.size {s2 with heap:=G} (upd H2 D (.lst [])) fp (X.pn++pins)) [] (List.replicate N.length none++A2h js σ) H' s'/\tn i s'.heap/\(∀b∈fp,H' b=none)/\W i ys H':=by
       rintro i' ys' H' σ' s' rfl J' w'
       refine⟨m+1-(i+1),by omega,i+1,ys',H',rfl,B3e S I3 f3 J',T.keep _ _ _ st7 fun b hb o z=>(J'.pin (b,o) (List.mem_append_right _ (A0m hb z))).1,fun b hb=>?_,w'⟩
       obtain⟨o,eo,_⟩:=ob7 b hb
       exact(J'.pin (b,o) (List.mem_append_right _ (A0m hb eo))).2.1
     refine wpAny_mono (gg (A0w fp s7.heap) s7 _ H7 x u _ I7' rx (step x H7 yl)) (fun _ s8 z=>?_) (fun _ _ z=>z.elim)
     obtain⟨σ8,H8,I8,q8⟩:=z
     refine wpAny_mono (ee (A0w fp s7.heap) s8 σ8 H8 _ I8 q8) (fun y s10 z=>?_) (fun _ _ z=>z.elim)
     obtain⟨yv,H10,I10,ry,hD10,hz10,w10⟩:=z
     refine wpAny_mono (A3d (X:=X.compF scope N F G.objs.size {s2 with heap:=G} (upd H2 D (.lst [])) fp (X.pn++pins)) (A0w fp s7.heap) s10 σ8 H10 (.ref D) [yv] (.ref D) [y] (fun _ H11=>W (i+1) (ys++ [yv]) H11) I10 rfl (.cons ry .nil) ⟨D,ys,yv,rfl,rfl,hD10,hz10,w10⟩) (fun _ s11 z=>?_) (fun _ _ z=>z.elim)
     obtain⟨_,H11,I11,_,w11⟩:=z
     exact back rfl I11 w11
 exact codeAny_compStart_list loop (T.self _ 0 _ _ _ (T.keep _ _ _ st2 fun b hb o e=>kp b o (by rw[<-hG];exact Heap.get?_push_of_some _ e)) loop)
theorem C0e{elt target iter:Expr}{c:Expr}{tc:TT}{pos:Pos}{wi:TI}{g:TG}{te:TE}(S:D3 N F js scope X.N X.env)(hd:Y0 X)(hc0:X.calm=true)(hi:PI X target iter wi)(hex:X.ex=[])
   (hg:∀C s₀ H₀ ex pn,Y0 (X.compF scope N F C s₀ H₀ ex pn) ->PG (X.compF scope N F C s₀ H₀ ex pn) target g)
   (hc:∀C s₀ H₀ ex pn,Y0 (X.compF scope N F C s₀ H₀ ex pn) ->PT (X.compF scope N F C s₀ H₀ ex pn) c tc)
   (he:∀C s₀ H₀ ex pn,Y0 (X.compF scope N F C s₀ H₀ ex pn) ->PE (X.compF scope N F C s₀ H₀ ex pn) elt te)
   (hs:∀x,foldedSetIterable iter X.env x=pure x:=by intro _;rfl):PE X (.ListComp elt [⟨target,iter,[c],0⟩] scope pos) (A6e N.length js wi g tc te):=by
 intro pins s σ H Q I h
 rw[eval_ListComp]
 refine wpAny_comprehension_free (use:=none) rfl hs S.clos S.kind S.loc (B2b S hd hc0 hi hex hg hc he I h (RR:=fun acc ce r s'=>compPost (model X.prog X.w) X.A X.xe none (EP X pins σ Q) acc ce.locals r s') ?_)
 intro D C s6 H5 mm I6 n6 f6 q
 exact⟨mm,n6,fun h' sb=>⟨.ref D,H5,A9q I6 f6 sb,rfl,q⟩⟩
theorem B5m{elt target iter:Expr}{pos:Pos}{wi:TI}{g:TG}{te:TE}(S:D3 N F js scope X.N X.env)(hd:Y0 X)(hc0:X.calm=true)(hi:PI X target iter wi)(hex:X.ex=[])
   (hg:∀C s₀ H₀ ex pn,Y0 (X.compF scope N F C s₀ H₀ ex pn) ->PG (X.compF scope N F C s₀ H₀ ex pn) target g)
   (he:∀C s₀ H₀ ex pn,Y0 (X.compF scope N F C s₀ H₀ ex pn) ->PE (X.compF scope N F C s₀ H₀ ex pn) elt te)
   (hs:∀x,foldedSetIterable iter X.env x=pure x:=by intro _;rfl):PE X (.ListComp elt [⟨target,iter,[],0⟩] scope pos) (A7d N.length js wi g te):=by
 intro pins s σ H Q I h
 rw[eval_ListComp]
 refine wpAny_comprehension_free (use:=none) rfl hs S.clos S.kind S.loc (A9p S hd hc0 hi hex hg he I h (RR:=fun acc ce r s'=>compPost (model X.prog X.w) X.A X.xe none (EP X pins σ Q) acc ce.locals r s') ?_)
 intro D C s6 H5 mm I6 n6 f6 q
 exact⟨mm,n6,fun h' sb=>⟨.ref D,H5,A9q I6 f6 sb,rfl,q⟩⟩
theorem D1t{i:Nat}{y:Str}{py spos:Pos}{elt target iter:Expr}{c:Expr}{tc:TT}{pos:Pos}{wi:TI}{g:TG}{te:TE}(S:D3 N F js scope X.N X.env)(hd:Y0 X)(hc0:X.calm=true)(hi:PI X target iter wi)(hex:X.ex=[])
   (hg:∀C s₀ H₀ ex pn,Y0 (X.compF scope N F C s₀ H₀ ex pn) ->PG (X.compF scope N F C s₀ H₀ ex pn) target g)
   (hc:∀C s₀ H₀ ex pn,Y0 (X.compF scope N F C s₀ H₀ ex pn) ->PT (X.compF scope N F C s₀ H₀ ex pn) c tc)
   (he:∀C s₀ H₀ ex pn,Y0 (X.compF scope N F C s₀ H₀ ex pn) ->PE (X.compF scope N F C s₀ H₀ ex pn) elt te) (hN:X.N.Nodup) (hi':X.N[i]?=some y) (hy:Loc X.env.scope y)
   (hf:X.fn y=true\/X.env.scope.names.lookup y=some .local:=by first|exact .inl rfl|exact .inr rfl|assumption)
   (hsw:swapsWith (.ListComp elt [⟨target,iter,[c],0⟩] scope pos) (some (.Name y py)) spos.line X.env=pure true:=by rfl)
   (hs:∀x,foldedSetIterable iter X.env x=pure x:=by intro _;rfl):PS X (.Assign [.Name y py] (.ListComp elt [⟨target,iter,[c],0⟩] scope pos) spos) (C9e (A6e N.length js wi g tc te) (B5f i)):=by
 intro pins s σ H D I h
 rw[exec_Assign_Name_used _ _ _ _ hsw]
 refine wpAny_bind (wpAny_standAt (wpAny_bind ?_))
 show wpAny _ X.A (do let _<-comprehension (.ListComp elt [⟨target,iter,[c],0⟩] scope pos) scope X.env _ (newList []) false (eval iter X.env) (some (assign (.Name y py) X.env))) _ _ s
 refine wpAny_bind (wpAny_mono (wpAny_comprehension_free (Q:=fun _ s'=>SP X pins D .next s') rfl hs S.clos S.kind S.loc (B2b S hd hc0 hi hex hg hc he I h (RR:=fun acc ce r s'=>compPost (model X.prog X.w) X.A X.xe (some (assign (.Name y py) X.env)) (fun _ s'=>SP X pins D .next s') acc ce.locals r s') ?_))
   (fun _ s' hq=>wpAny_pure (wpAny_pure hq)) fun _ _ e=>e)
 intro D' C s6 H5 mm I6 n6 f6 q
 refine wpAny_assign_Name (A5k (v:= .ref D') I6 hN hi' hy rfl (fun s7 I7 st=>?_) hf)
 obtain⟨a,sb,ha⟩:=st
 have na:C≠a:=by
   rcases ha with rfl|ha
   . exact f6.2.1
   . exact(f6.2.2.2.2.1 y a ha).symm
 exact⟨mm,n6.sameBut sb na,fun h' sb'=>⟨_,_,A9q I7 f6 sb',q⟩⟩
theorem A3f{i:Nat}{y:Str}{py spos:Pos}{elt target iter:Expr}{pos:Pos}{wi:TI}{g:TG}{te:TE}(S:D3 N F js scope X.N X.env)(hd:Y0 X)(hc0:X.calm=true)(hi:PI X target iter wi)(hex:X.ex=[])
   (hg:∀C s₀ H₀ ex pn,Y0 (X.compF scope N F C s₀ H₀ ex pn) ->PG (X.compF scope N F C s₀ H₀ ex pn) target g)
   (he:∀C s₀ H₀ ex pn,Y0 (X.compF scope N F C s₀ H₀ ex pn) ->PE (X.compF scope N F C s₀ H₀ ex pn) elt te) (hN:X.N.Nodup) (hi':X.N[i]?=some y) (hy:Loc X.env.scope y)
   (hf:X.fn y=true\/X.env.scope.names.lookup y=some .local:=by first|exact .inl rfl|exact .inr rfl|assumption)
   (hsw:swapsWith (.ListComp elt [⟨target,iter,[],0⟩] scope pos) (some (.Name y py)) spos.line X.env=pure true:=by rfl)
   (hs:∀x,foldedSetIterable iter X.env x=pure x:=by intro _;rfl):PS X (.Assign [.Name y py] (.ListComp elt [⟨target,iter,[],0⟩] scope pos) spos) (C9e (A7d N.length js wi g te) (B5f i)):=by
 intro pins s σ H D I h
 rw[exec_Assign_Name_used _ _ _ _ hsw]
 refine wpAny_bind (wpAny_standAt (wpAny_bind ?_))
 show wpAny _ X.A (do let _<-comprehension (.ListComp elt [⟨target,iter,[],0⟩] scope pos) scope X.env _ (newList []) false (eval iter X.env) (some (assign (.Name y py) X.env))) _ _ s
 refine wpAny_bind (wpAny_mono (wpAny_comprehension_free (Q:=fun _ s'=>SP X pins D .next s') rfl hs S.clos S.kind S.loc (A9p S hd hc0 hi hex hg he I h (RR:=fun acc ce r s'=>compPost (model X.prog X.w) X.A X.xe (some (assign (.Name y py) X.env)) (fun _ s'=>SP X pins D .next s') acc ce.locals r s') ?_))
   (fun _ s' hq=>wpAny_pure (wpAny_pure hq)) fun _ _ e=>e)
 intro D' C s6 H5 mm I6 n6 f6 q
 refine wpAny_assign_Name (A5k (v:= .ref D') I6 hN hi' hy rfl (fun s7 I7 st=>?_) hf)
 obtain⟨a,sb,ha⟩:=st
 have na:C≠a:=by
   rcases ha with rfl|ha
   . exact f6.2.1
   . exact(f6.2.2.2.2.1 y a ha).symm
 exact⟨mm,n6.sameBut sb na,fun h' sb'=>⟨_,_,A9q I7 f6 sb',q⟩⟩
end
theorem D3.of0{N:List Str}{sc:Scope}{XN:List Str}{env:Env}(S:D3v N [] sc)(clos:closureFor sc env=pure (A1a [] env)):D3 N [] [] sc XN env:=
 ⟨S.kind,S.cell,S.loc,S.nd,clos,A6f S.cell S.fr,fun k y h=>by simp at h,rfl⟩
theorem B2k:bootBuiltins "enumerate"=some (.type "enumerate"):=by decide+kernel
theorem D1j:bootBuiltins "zip"=some (.type "zip"):=by decide+kernel
section
variable{X:Cx}{pins:List (Addr×Obj)}{σ:St}{H:Hp}{s:Shared}{h':Heap}
theorem Inv.turnedL{t':Nat}{fp:List Addr}(I:Inv X pins σ H s)(k:∀b o,b ∉ fp ->s.heap.get? b=some o ->h'.get? b=some o)(hf:∀b∈fp,A0t X pins H b):Inv X pins σ H {s with heap:=h',toks:=t'}:=by
 have nit:∀b u,H b=some u ->b ∉ fp:=fun b u e z=>by rw[(hf b z).1] at e;cases e
 refine I.step (g':=s.gens) (d':=s.drawn) (ch:=fp) (fun b hb=>?_) (fun b o _ _ hc e _=>k b o hc e) (fun b o _ _ hc e _=>⟨o.slots,k b o hc e⟩) (fun _ _ _ _ n=>n)
   (fun b o hc e=>⟨o,k b o hc e⟩) (fun _ _ e=>e) (fun _ _ _ e=>e) (fun b ps e=>⟨#[],by rw[e];simp⟩) (fun m hm=>?_) (fun b u e=>?_) I.bare
 . obtain⟨_,f1,_,f3,f4,f5⟩:=hf b hb
   exact⟨f3,f1,f4,f5⟩
 . obtain⟨o,es,ep,ho,r⟩:=hm
   exact⟨o,es,ep,k _ o (fun z=>(hf _ z).2.1 rfl) ho,r⟩
 refine(I.hok b u e).stay (fun c v hc q=>k c v ?_ q) (fun _ q=>q) fun _ _ q=>q
 rcases hc with z|z
 . rw[z];exact nit b u e
 exact nit c _ z
theorem Inv.paired{t':Nat}{fp:List Addr}{x y:V}{u v:Value}(I:Inv X pins σ H s)(rx:V4 x u)(ry:V4 y v)(hf:∀b∈fp,A0t X pins H b)(hl:∀b∈fp,b<s.heap.objs.size)
   (k:∀b o,b ∉ fp ->s.heap.get? b=some o ->h'.get? b=some o) (hT:h'.get? s.heap.objs.size=some {cls:= .type "tuple",data:= .seq #[u,v]}):
   Inv X pins σ (upd H s.heap.objs.size (.tup [x,y])) {s with heap:=h',toks:=t'}/\∀b∈fp,upd H s.heap.objs.size (.tup [x,y]) b=none:=by
 have hn:∀b∈fp,upd H s.heap.objs.size (.tup [x,y]) b=none:=fun b hb=>by rw[D0 (Nat.ne_of_lt (hl b hb))];exact(hf b hb).1
 have I1:Inv X pins σ (upd H s.heap.objs.size (.tup [x,y])) {s with heap:=s.heap.push {cls:= .type "tuple",data:= .seq #[u,v]},toks:=t'}:=
   I.laid (fun b o z=>Heap.get?_push_of_some _ z) (Nat.le_refl _) ⟨C9 (by show 2<=1000;decide),[u,v],.cons rx (.cons ry .nil),⟨_,Heap.get?_push_size _ rfl,rfl,_,rfl⟩⟩
 have I2:Inv X pins σ (upd H s.heap.objs.size (.tup [x,y])) {heap:=h',gens:=s.gens,drawn:=s.drawn,toks:=t',os:=s.os}:=Inv.turnedL (s:={heap:=s.heap.push {cls:= .type "tuple",data:= .seq #[u,v]},gens:=s.gens,drawn:=s.drawn,toks:=t',os:=s.os}) (h':=h') (t':=t') (fp:=fp) I1 (fun b o hb z=>?_) (fun b hb=>⟨hn b hb,(hf b hb).2⟩)
 . exact⟨I2,hn⟩
 rcases Heap.get?_push_cases z with⟨rfl,rfl⟩|z
 . exact hT
 exact k b o hb z
end
noncomputable def Itz (K:Frag) (a b:Addr):It:=
 ⟨fun i H=>∃xs ys x y,SqL K H a xs/\SqL K H b ys/\xs[i]?=some x/\ys[i]?=some y,
  fun i H x H'=>∃t u v,x= .ref t/\H t=none/\H'=upd H t (.tup [u,v])/\(∀xs,SqL K H a xs ->xs[i]?=some u)/\∀ys,SqL K H b ys ->ys[i]?=some v,
  fun i H=>∃xs ys,SqL K H a xs/\SqL K H b ys/\(xs.length<=i\/ys.length<=i)⟩
theorem D2u{P:Program}{w:World}{K:Frag}{es:List Expr}{k:Nat}{pos:Pos}(a b z TI TO i1 i2:Addr)(D:ZipApart z TI TO i1 i2 a b):
   C8v P w K (.Tuple es k pos) (Itz K a b) [z,TI,TO,i1,i2] z (fun i h=>IsZip h z TI TO .none/\IsPair h TI (.ref i1) (.ref i2)/\(∃u v,IsPair h TO u v)/\h.IsListIter i1 a i/\h.IsListIter i2 b i) where
 mem:=by simp
 obj:=fun i h st c hc=>by
   obtain⟨hz,hTI,⟨u,v,hTO⟩,⟨o1,e1,c1,d1⟩,o2,e2,c2,d2⟩:=st
   rcases(by simpa using hc:c=z\/c=TI\/c=TO\/c=i1\/c=i2) with rfl|rfl|rfl|rfl|rfl
   . exact⟨_,hz,fun v z=>by
       have z':Data.fields _=Data.cell v:=z
       cases z'⟩
   . exact⟨_,hTI,fun v z=>by
       have z':Data.seq _ _=Data.cell v:=z
       cases z'⟩
   . exact⟨_,hTO,fun v z=>by
       have z':Data.seq _ _=Data.cell v:=z
       cases z'⟩
   . exact⟨o1,e1,fun v z=>by rw[d1] at z;cases z⟩
   . exact⟨o2,e2,fun v z=>by rw[d2] at z;cases z⟩
 keep:=fun i h h' st k=>by
   obtain⟨hz,hTI,⟨u,v,hTO⟩,h1,h2⟩:=st
   exact⟨k z (by simp) _ hz,k TI (by simp) _ hTI,⟨u,v,k TO (by simp) _ hTO⟩,h1.at fun o x=>k i1 (by simp) o x,h2.at fun o x=>k i2 (by simp) o x⟩
 item:=by
   intro X hP hw hK hc i pins s σ H E I hf st hg
   subst hP hw hK
   obtain⟨xs,ys,x,y,hq,hr,hx,hy⟩:=hg
   obtain⟨its,rv,p,_⟩:=I.list hq
   obtain⟨jts,rw',p',_⟩:=I.list hr
   obtain⟨u,hu,ru⟩:=rv.get hx
   obtain⟨v,hv,rv'⟩:=rw'.get hy
   obtain⟨hz,hTI,⟨c0,c1,hTO⟩,h1,h2⟩:=st
   have zlt:z<s.heap.objs.size:=Heap.lt_size hz
   have lts:∀c∈ [z,TI,TO,i1,i2],c<s.heap.objs.size:=fun c hc=>by
     obtain⟨o1,e1,_⟩:=id h1
     obtain⟨o2,e2,_⟩:=id h2
     rcases(by simpa using hc:c=z\/c=TI\/c=TO\/c=i1\/c=i2) with rfl|rfl|rfl|rfl|rfl
     . exact zlt
     . exact Heap.lt_size hTI
     . exact Heap.lt_size hTO
     . exact Heap.lt_size e1
     . exact Heap.lt_size e2
   refine wpAny_pyNext_zip_item D hz hTI hTO h1 h2 p.isList p'.isList (x:=u) (y:=v) (by simpa using hu) (by simpa using hv) fun g1 ho hTO1 h11 h21 hT hsz hk=>?_
   refine⟨_,rfl,wpAny_letOwnedTupleGo_zip ho fun g2 hz2 hs2=>?_⟩
   have hs2:Heap.SameBut z g1 g2:=hs2
   obtain⟨I2,hn⟩:=I.paired (h':=g2) (t':=s.toks) (fp:=[z,TI,TO,i1,i2]) ru rv' hf lts
     (fun c o hb q=>(hs2.2 c (fun w=>hb (by simp[w]))).trans (hk c o (fun w=>hb (by simp[w])) (fun w=>hb (by simp[w])) (fun w=>hb (by simp[w])) (fun w=>hb (by simp[w])) q)) ((hs2.2 _ (Nat.ne_of_gt zlt)).trans hT)
   refine⟨.ref s.heap.objs.size,_,I2,rfl,⟨_,x,y,rfl,I.hok.fresh (Nat.le_refl _),rfl,fun ws hw=>by rw[I.list_inj hw hq];exact hx,fun ws hw=>by rw[I.list_inj hw hr];exact hy⟩,⟨hz2,?_,⟨u,v,?_⟩,?_,?_⟩,hn⟩
   . exact(hs2.2 _ D.TIz).trans (hk TI _ D.TIz D.TITO D.TIi1 D.TIi2 hTI)
   . exact(hs2.2 _ D.TOz).trans hTO1
   . exact h11.at fun o q=>(hs2.2 _ D.i1z).trans q
   . exact h21.at fun o q=>(hs2.2 _ D.i2z).trans q
 done:=by
   intro X hP hw hK hc i pins s σ H E I hf st hg
   subst hP hw hK
   obtain⟨xs,ys,hq,hr,hx⟩:=hg
   obtain⟨its,rv,p,_⟩:=I.list hq
   obtain⟨jts,rw',p',_⟩:=I.list hr
   obtain⟨hz,hTI,⟨c0,c1,hTO⟩,h1,h2⟩:=st
   have hl:=rv.length
   have hl':=rw'.length
   refine wpAny_pyNext_zip_end (I.ok.hd hc) D hz hTI hTO h1 h2 p.isList p'.isList ?_ fun h' eb=>⟨rfl,I.turnedL (t':=s.toks) (fp:=[z,TI,TO,i1,i2]) (fun c o hb q=>eb c o (fun w=>hb (by simp[w])) (fun w=>hb (by simp[w])) (fun w=>hb (by simp[w])) (fun w=>hb (by simp[w])) q) hf⟩
   rcases hx with hx|hx
   . exact .inl (by simp;omega)
   . exact .inr (by simp;omega)
 self:=fun _ _ _ _ _ st h=>wpAny_pyIter_zip st.1 h
theorem C8q(n l l':Nat)(h1:l<n)(h2:l'<n):ZipApart (n+4) (n+2) (n+3) n (n+1) l l':=by
 constructor<;>(show @Ne Nat _ _;omega)
section
variable{X:Cx}{es:List Expr}{k:Nat}{tp:Pos}
def J4q (K:Frag) (ta:TA):TI:=fun σ H R=>ta σ H fun vs H1=>∃a b,vs=[.ref a,.ref b]/\(∃xs,SqL K H1 a xs)/\(∃ys,SqL K H1 b ys)/\R (Itz K a b) H1
theorem D2m{a b:Expr}{ta:TA}{p pos:Pos}(hg:Gl X "zip")(hm:X.mg "zip"=none)(ha:PA X [a,b] ta)(hs:starEach [a,b] X.env=[(false,eval a X.env),(false,eval b X.env)]:=by rfl)(hs2:starEach [b] X.env=[(false,eval b X.env)]:=by rfl):
   PI X (.Tuple es k tp) (.Call (.Name "zip" p) [a,b] [] pos) (J4q X.K ta):=by
 intro pins s σ H R I h
 refine Call_ (A8g I hg hm D1j (PyProof.Rows.callWith_type1 (thn (ha pos pins s σ H _ I h) fun us s1 hh_=>?_) (by rw[hs,hs2]) (by rw[hs2];rfl)))
 obtain⟨vs,H1,I1,r1,q1⟩:=hh_
 obtain⟨l,l',e,⟨xs,hq⟩,⟨ys,hr⟩,q⟩:=q1
 subst e
 cases r1 with
 | cons r rr=>
   cases rr with
   | cons r' rr=>
     cases rr
     cases r
     cases r'
     obtain⟨its,rv,pl,_⟩:=I1.list hq
     obtain⟨jts,rw',pl',_⟩:=I1.list hr
     obtain⟨o1,e1,_⟩:=id pl.isList
     obtain⟨o2,e2,_⟩:=id pl'.isList
     have l1:=Heap.lt_size e1
     have l2:=Heap.lt_size e2
     refine call_zip_2 pl.isList pl'.isList fun h' hz hTI hTO h1 h2 hsz hk=>wpAny_pyIter_zip hz ?_
     have I2:Inv X pins σ H1 {s1 with heap:=h'}:=I1.kept (t':=s1.toks) hk
     have D:ZipApart (s1.heap.objs.size+4) (s1.heap.objs.size+2) (s1.heap.objs.size+3) s1.heap.objs.size (s1.heap.objs.size+1) l l':=C8q _ _ _ l1 l2
     refine⟨s1.heap.objs.size+4,[s1.heap.objs.size+4,s1.heap.objs.size+2,s1.heap.objs.size+3,s1.heap.objs.size,s1.heap.objs.size+1],_,_,H1,rfl,I2,D2u l l' _ _ _ _ _ D,⟨hz,hTI,⟨_,_,hTO⟩,h1,h2⟩,fun b hb=>?_,q⟩
     have hb:b=s1.heap.objs.size+4\/b=s1.heap.objs.size+2\/b=s1.heap.objs.size+3\/b=s1.heap.objs.size\/b=s1.heap.objs.size+1:=by simpa using hb
     have ge:s1.heap.objs.size<=b:=by
       rcases hb with rfl|rfl|rfl|rfl|rfl
       . exact Nat.le_add_right _ _
       . exact Nat.le_add_right _ _
       . exact Nat.le_add_right _ _
       . exact Nat.le_refl _
       . exact Nat.le_add_right _ _
     exact I1.fpOk ge (I1.hok.fresh ge)
end
def G1z (D:Addr) (H H':Hp):Prop:=∀b o,H b=some o ->b≠D ->H' b=some o
theorem A1m{J:It}{g:TG}{te:TE}{σ0:St}{H1:Hp}{QD:Addr ->Hp ->Prop}{n:Nat}(R:Nat ->V ->Hp ->Prop)(hn:n<=1000)
   (mono:∀i y H' H'' D l,R i y H' ->H' D=some (.lst l) ->G1z D H' H'' ->R i y H'')
   (step:∀i H2 Qy,i<n ->A8 H1 H2 ->(∀y H6,A8 H2 H6 ->R i y H6 ->Qy y H6) ->J.go i H2/\∀x H3,J.yld i H2 x H3 ->g x σ0 H3 fun σ4 H4=>te σ4 H4 Qy)
   (stop:∀H2,A8 H1 H2 ->J.stop n H2)
   (k:∀D H' ys,A8 H1 H' ->H1 D=none ->H' D=some (.lst ys) ->ys.length=n ->(∀i y,ys[i]?=some y ->R i y H') ->QD D H'):∀D,H1 D=none ->
   ∃ (m:Nat) (W:Nat ->List V ->Hp ->Prop),W 0 [] (upd H1 D (.lst []))/\∀i ys H2,W i ys H2 ->i<=m/\H2 D=some (.lst ys)/\((J.stop i H2/\QD D H2)\/(i<m/\J.go i H2/\∀x H3,J.yld i H2 x H3 ->
     g x σ0 H3 fun σ4 H4=>te σ4 H4 fun y H6=>H6 D=some (.lst ys)/\ys.length<sizeLine/\W (i+1) (ys++ [y]) (upd H6 D (.lst (ys++ [y]))))):=by
 intro D hD
 refine⟨n,fun i ys H2=>i<=n/\ys.length=i/\H2 D=some (.lst ys)/\A8 H1 H2/\∀j y,ys[j]?=some y ->R j y H2,⟨Nat.zero_le _,rfl,A4,A8.upd hD,fun j y h=>by simp at h⟩,?_⟩
 rintro i ys H2 ⟨hi,hl,hd,sm,hR⟩
 refine⟨hi,hd,?_⟩
 by_cases hlt:i<n
 . refine .inr ⟨hlt,step i H2 _ hlt sm fun y H6 s6 r6=>?_⟩
   have d6:H6 D=some (.lst ys):=s6 _ _ hd
   have ex:G1z D H6 (upd H6 D (.lst (ys++ [y]))):=fun b o e hb=>by rw[D0 hb];exact e
   refine⟨d6,Nat.lt_of_le_of_lt (by omega:ys.length<=1000) (A1c (Nat.le_refl _)),hlt,by simp[hl],A4,fun b o e=>?_,fun j z hj=>?_⟩
   . rw[D0 (D8 e hD)]
     exact s6 _ _ (sm _ _ e)
   . by_cases hj':j<ys.length
     . rw[List.getElem?_append_left hj'] at hj
       exact mono j z H6 _ D ys (mono j z H2 H6 D ys (hR j z hj) hd fun b o e _=>s6 _ _ e) d6 ex
     . rw[List.getElem?_append_right (by omega)] at hj
       have e0:j-ys.length=0:=by
         apply Classical.byContradiction
         intro q
         rw[List.getElem?_eq_none (by simp;omega)] at hj
         cases hj
       rw[e0] at hj
       have ej:j=i:=by omega
       subst ej
       cases hj
       exact mono _ _ H6 _ D ys r6 d6 ex
 have e:i=n:=by omega
 subst e
 exact .inl ⟨stop H2 sm,k D H2 ys sm hD hd hl hR⟩
theorem B9x{J:It}{g:TG}{tc:TT}{te:TE}{σ0:St}{H1:Hp}{QD:Addr ->Hp ->Prop}{n:Nat}(f:Nat ->Bool)(R:Nat ->V ->Hp ->Prop)(hn:n<=1000)
   (mono:∀i y H' H'' D l,R i y H' ->H' D=some (.lst l) ->G1z D H' H'' ->R i y H'')
   (step:∀(i:Nat) (H2:Hp) (Qy:VK) (Qn:Hp ->Prop),i<n ->A8 H1 H2 ->(f i=true ->∀y H6,A8 H2 H6 ->R i y H6 ->Qy y H6) ->(f i=false ->∀H6,A8 H2 H6 ->Qn H6) ->J.go i H2/\∀x H3,J.yld i H2 x H3 ->g x σ0 H3 fun σ4 H4=>tc σ4 H4 fun b H5=>if b=true then te σ4 H5 Qy else Qn H5)
   (stop:∀H2,A8 H1 H2 ->J.stop n H2)
   (k:∀D H' ys,A8 H1 H' ->H1 D=none ->H' D=some (.lst ys) ->ys.length=((List.range n).filter f).length ->(∀(j i:Nat) (y:V),((List.range n).filter f)[j]?=some i ->ys[j]?=some y ->R i y H') ->QD D H'):∀D,H1 D=none ->
   ∃ (m:Nat) (W:Nat ->List V ->Hp ->Prop),W 0 [] (upd H1 D (.lst []))/\∀i ys H2,W i ys H2 ->i<=m/\H2 D=some (.lst ys)/\((J.stop i H2/\QD D H2)\/(i<m/\J.go i H2/\∀x H3,J.yld i H2 x H3 ->
     g x σ0 H3 fun σ4 H4=>tc σ4 H4 fun b H5=>if b=true then te σ4 H5 fun y H6=>H6 D=some (.lst ys)/\ys.length<sizeLine/\W (i+1) (ys++ [y]) (upd H6 D (.lst (ys++ [y]))) else W (i+1) ys H5)):=by
 intro D hD
 refine⟨n,fun i ys H2=>i<=n/\ys.length=((List.range i).filter f).length/\H2 D=some (.lst ys)/\A8 H1 H2/\∀(j i':Nat) (y:V),((List.range i).filter f)[j]?=some i' ->ys[j]?=some y ->R i' y H2,⟨Nat.zero_le _,rfl,A4,A8.upd hD,fun j i' y h=>by simp at h⟩,?_⟩
 rintro i ys H2 ⟨hi,hl,hd,sm,hR⟩
 refine⟨hi,hd,?_⟩
 by_cases hlt:i<n
 . have fl :((List.range i).filter f).length<=i:=Nat.le_trans (List.length_filter_le _ _) (by simp)
   refine .inr ⟨hlt,step i H2 _ _ hlt sm (fun hf y H6 s6 r6=>?_) (fun hf H6 s6=>?_)⟩
   . have d6:H6 D=some (.lst ys):=s6 _ _ hd
     have ex:G1z D H6 (upd H6 D (.lst (ys++ [y]))):=fun b o e hb=>by rw[D0 hb];exact e
     have ef:(List.range (i+1)).filter f=(List.range i).filter f++ [i]:=by rw[List.range_succ,List.filter_append,List.filter_cons,hf];rfl
     refine⟨d6,Nat.lt_of_le_of_lt (by omega:ys.length<=1000) (A1c (Nat.le_refl _)),hlt,by rw[ef,List.length_append,List.length_append,hl];rfl,A4,fun b o e=>?_,fun j i' z hi' hj=>?_⟩
     . rw[D0 (D8 e hD)]
       exact s6 _ _ (sm _ _ e)
     . rw[ef] at hi'
       by_cases hj':j<ys.length
       . rw[List.getElem?_append_left hj'] at hj
         rw[List.getElem?_append_left (by omega)] at hi'
         exact mono i' z H6 _ D ys (mono i' z H2 H6 D ys (hR j i' z hi' hj) hd fun b o e _=>s6 _ _ e) d6 ex
       . rw[List.getElem?_append_right (by omega)] at hj
         rw[List.getElem?_append_right (by omega)] at hi'
         have e0:j-ys.length=0:=by
           apply Classical.byContradiction
           intro q
           rw[List.getElem?_eq_none (by simp;omega)] at hj
           cases hj
         rw[e0] at hj
         rw[<-hl,e0] at hi'
         cases hj
         cases hi'
         exact mono _ _ H6 _ D ys r6 d6 ex
   . have ef:(List.range (i+1)).filter f=(List.range i).filter f:=by rw[List.range_succ,List.filter_append,List.filter_cons,hf];simp
     refine⟨hlt,by rw[ef];exact hl,s6 _ _ hd,sm.trans s6,fun j i' z hi' hj=>?_⟩
     rw[ef] at hi'
     exact mono i' z H2 H6 D ys (hR j i' z hi' hj) hd fun b o e _=>s6 _ _ e
 have e:i=n:=by omega
 subst e
 exact .inl ⟨stop H2 sm,k D H2 ys sm hD hd hl hR⟩
open AutoSeq1 (wpAny_loadPart')
section
variable{prog:Program}{w:World}{A:Around}{E:Value ->Shared ->Prop}{s:Shared}
theorem G3t{j c:Addr}{i:Nat}{its:Array Value}{x:Value}{Q:Value ->Shared ->Prop}(hi:s.heap.IsTupleIter j c i)(ht:s.heap.IsTuple c its)(hx:its[i]?=some x)
   (k:∀g,g.IsTupleIter j c (i+1) ->Heap.SameBut j s.heap g ->Q x {s with heap:=g}):wpAny (model prog w) A (Builtin.SmallTypes.nextOf (.ref j)) Q E s:=by
 obtain⟨o,ho,oc,od⟩:=id hi
 obtain⟨u,hu,_,n,ud⟩:=ht
 unfold Builtin.SmallTypes.nextOf
 refine wpAny_bind (wpAny_callSpecial?_slot (name:=Str.ofString "__next__") hi.typeIs F.slot_tuple_iterator_next (wpAny_call_entry F.slot_tuple_iterator_next hi.typeIs F.entry_tuple_iterator_next ?_ (F.args_tuple_iterator_next_1 _)))
 show wpAny _ _ (field (.ref j) 0>>=_) _ _ s
 refine wpAny_bind (wpAny_field ho od (x:= .ref c) rfl ?_)
 show wpAny _ _ (if(Value.ref c==Value.none)=true then _ else _) _ _ s
 rw[if_neg (show¬((Value.ref c==Value.none)=true) from Bool.false_ne_true)]
 show wpAny _ _ (field (.ref j) 1>>=_) _ _ s
 refine wpAny_bind (wpAny_field ho od (x:= .int i 0) rfl ?_)
 show wpAny _ _ (seqItems? (.ref c)>>=_) _ _ s
 refine wpAny_bind (wpAny_seqItems hu ud ?_)
 simp only[Int.toNat_natCast,hx]
 refine wpAny_bind (wpAny_setField ho od (by simp) (wpAny_pure ⟨x,rfl,wpAny_pure (k _ ?_ (Heap.SameBut.update ..))⟩))
 exact⟨_,Heap.get?_update_self _ ho (Obj.isFreed_of_fields (Obj.data_mapFields od _)),(Obj.cls_mapFields ..).trans oc,by rw[Obj.data_mapFields od];simp[rawInt]⟩
theorem C2m{j c:Addr}{i:Nat}{its:Array Value}{Q:Value ->Shared ->Prop}(hh:A.handled=none)(hi:s.heap.IsTupleIter j c i)(ht:s.heap.IsTuple c its)(hx:its[i]?=none)
   (k:∀g e,Heap.ExtBut j s.heap g ->(∃o,g.get? e=some o/\o.cls= .type "StopIteration") ->E (.ref e) {s with heap:=g}):wpAny (model prog w) A (Builtin.SmallTypes.nextOf (.ref j)) Q E s:=by
 obtain⟨o,ho,oc,od⟩:=id hi
 obtain⟨u,hu,_,n,ud⟩:=ht
 unfold Builtin.SmallTypes.nextOf
 refine wpAny_bind (wpAny_callSpecial?_slot (name:=Str.ofString "__next__") hi.typeIs F.slot_tuple_iterator_next (wpAny_call_entry F.slot_tuple_iterator_next hi.typeIs F.entry_tuple_iterator_next ?_ (F.args_tuple_iterator_next_1 _)))
 show wpAny _ _ (field (.ref j) 0>>=_) _ _ s
 refine wpAny_bind (wpAny_field ho od (x:= .ref c) rfl ?_)
 show wpAny _ _ (if(Value.ref c==Value.none)=true then _ else _) _ _ s
 rw[if_neg (show¬((Value.ref c==Value.none)=true) from Bool.false_ne_true)]
 show wpAny _ _ (field (.ref j) 1>>=_) _ _ s
 refine wpAny_bind (wpAny_field ho od (x:= .int i 0) rfl ?_)
 show wpAny _ _ (seqItems? (.ref c)>>=_) _ _ s
 refine wpAny_bind (wpAny_seqItems hu ud ?_)
 simp only[Int.toNat_natCast,hx]
 refine wpAny_bind (wpAny_rule (wpAny_bind (wpAny_setField ho od (by simp) ?_)))
 show wpAny _ _ (newExc (.type "StopIteration") ([]:List Value)>>=_) _ _ _
 refine wpAny_bind ?_
 simp only[newExc,newTuple]
 refine wpAny_bind (wpAny_newObj_type ?_ (by size_fits))
 refine wpAny_bind (m:=firstArgMember _ _) (wpAny_of_eq (a:=Value.none) (by simp only[firstArgMember];rfl) ?_)
 refine wpAny_newObj_type ?_ (by size_fits)
 simp only[raiseNew]
 refine wpAny_bind (wpAny_handled ?_)
 first|rw[show A.in1.handled=none from hh]|rw[hh]
 exact wpAny_bind (wpAny_pure (wpAny_throw (k _ _ (((Heap.SameBut.update ..).extBut.push _).push _) ⟨_,Heap.get?_push_size _ rfl,rfl⟩)))
theorem D9q{e j:Addr}{i:Nat}{old:Value}{R:Value ->Heap ->Prop}{Q:Value ->Shared ->Prop}(he:IsEnum s.heap e j i old)(ne:e≠j)
   (keep:∀x h g,R x h ->(∀o,h.get? j=some o ->g.get? j=some o) ->R x g)
   (nx:∀Q':Value ->Shared ->Prop,(∀x g,R x g ->Heap.SameBut j s.heap g ->Q' x {s with heap:=g}) ->wpAny (model prog w) A (Builtin.SmallTypes.nextOf (.ref j)) Q' E s)
   (k:∀x g,R x g ->IsEnumOut g e j ((i:Int)+1) x s.heap.objs.size ->g.get? s.heap.objs.size=some {cls:= .type "tuple",data:= .seq #[.int i s.toks,x]} ->
     (∀b o,b≠e ->b≠j ->s.heap.get? b=some o ->g.get? b=some o) ->Q (.ref s.heap.objs.size) {s with heap:=g,toks:=s.toks+1}):
   wpAny (model prog w) A (Builtin.«enumerate.__next__» ⟨[.ref e], []⟩) (fun fin s' => ∃ v, fin = .done (.ret v) /\ Q v s') E s := by
 obtain⟨hp,gs,dr,tk,os⟩:=s
 show wpAny _ _ (field (.ref e) 2>>=_) _ _ _
 refine wpAny_bind (wpAny_field he rfl (x:= .ref j) rfl ?_)
 refine wpAny_bind (nx _ fun x g1 r1 s1=>?_)
 have s1:Heap.SameBut j hp g1:=s1
 have e1:IsEnum g1 e j i old:=(s1.2 e ne).trans he
 show wpAny _ _ (field (.ref e) 3>>=_) _ _ ⟨g1,gs,dr,tk,os⟩
 refine wpAny_bind (wpAny_field e1 rfl (x:=rawInt i) rfl ?_)
 show wpAny _ _ (field (.ref e) 4>>=_) _ _ ⟨g1,gs,dr,tk,os⟩
 refine wpAny_bind (wpAny_field e1 rfl (x:= .none) rfl ?_)
 show wpAny _ _ (mkInt i>>=_) _ _ ⟨g1,gs,dr,tk,os⟩
 refine wpAny_bind (wpAny_mkInt ?_)
 show wpAny _ _ (setField (.ref e) 3 (rawInt ((i:Int)+1))>>=_) _ _ ⟨g1,gs,dr,tk+1,os⟩
 refine wpAny_bind (wpAny_setField_rec e1 (by simp) fun g2 e2 s2=>?_)
 have s2:Heap.SameBut e g1 g2:=s2
 have e2:IsEnum g2 e j ((i:Int)+1) old:=e2
 show wpAny _ _ (setField (.ref e) 4 .none>>=_) _ _ ⟨g2,gs,dr,tk+1,os⟩
 refine wpAny_bind (wpAny_setField_rec e2 (by simp) fun g3 e3 s3=>?_)
 have s3:Heap.SameBut e g2 g3:=s3
 have e3:IsEnum g3 e j ((i:Int)+1) old:=e3
 show wpAny _ _ (newTuple [.int i tk,x]>>=_) _ _ ⟨g3,gs,dr,tk+1,os⟩
 refine wpAny_bind (wpAny_newTuple ?_)
 have e4:IsEnum (g3.push {cls:= .type "tuple",data:= .seq #[.int i tk,x]}) e j ((i:Int)+1) old:=Heap.get?_push_of_some _ e3
 have sz:g3.objs.size=hp.objs.size:=by rw[s3.1,s2.1,s1.1]
 have t4:(g3.push {cls:= .type "tuple",data:= .seq #[.int i tk,x]}).get? hp.objs.size=some {cls:= .type "tuple",data:= .seq #[.int i tk,x]}:=by rw[<-sz];exact Heap.get?_push_size _ rfl
 have k4:∀b o,b≠e ->b≠j ->hp.get? b=some o ->(g3.push {cls:= .type "tuple",data:= .seq #[.int i tk,x]}).get? b=some o:=fun b o be bj hb=>Heap.get?_push_of_some _ (s3.extBut b o be (s2.extBut b o be (s1.extBut b o bj hb)))
 have r4:R x (g3.push {cls:= .type "tuple",data:= .seq #[.int i tk,x]}):=keep x g1 _ r1 fun o z=>Heap.get?_push_of_some _ (s3.extBut j o (Ne.symm ne) (s2.extBut j o (Ne.symm ne) z))
 generalize g3.push {cls:= .type "tuple",data:= .seq #[.int i tk,x]}=g4 at e4 t4 k4 r4
 have lt:e<hp.objs.size:=Heap.lt_size he
 show wpAny _ _ (Builtin.SmallTypes.ownedTupleIsFree (.ref e)>>=_) _ _ ⟨g4,gs,dr,tk+1,os⟩
 rw[sz]
 refine wpAny_bind ?_
 unfold Builtin.SmallTypes.ownedTupleIsFree
 refine wpAny_bind (wpAny_field e4 rfl (x:= .none) rfl (wpAny_pure ?_))
 simp only[if_true]
 refine wpAny_bind (wpAny_rule ?_)
 refine wpAny_bind (wpAny_field e4 rfl (x:=old) rfl ?_)
 refine wpAny_bind (wpAny_setField_rec e4 (by simp) fun g5 e5 s5=>?_)
 have s5:Heap.SameBut e g4 g5:=s5
 have e5:IsEnum g5 e j ((i:Int)+1) x:=e5
 show wpAny _ _ (Builtin.SmallTypes.ownedTupleHandOut (.ref e) (.ref hp.objs.size)>>=_) _ _ ⟨g5,gs,dr,tk+1,os⟩
 refine wpAny_bind ?_
 unfold Builtin.SmallTypes.ownedTupleHandOut
 refine wpAny_bind (wpAny_setField_rec e5 (by simp) fun g6 e6 s6=>?_)
 have s6:Heap.SameBut e g5 g6:=s6
 have e6:IsEnumOut g6 e j ((i:Int)+1) x hp.objs.size:=e6
 refine wpAny_setField_rec e6 (by simp) fun g7 e7 s7=>?_
 have s7:Heap.SameBut e g6 g7:=s7
 have up:∀b o,b≠e ->g4.get? b=some o ->g7.get? b=some o:=fun b o be z=>s7.extBut b o be (s6.extBut b o be (s5.extBut b o be z))
 exact wpAny_bind (wpAny_letGo (wpAny_pure ⟨_,rfl,k x g7 (keep x g4 g7 r4 fun o z=>up j o (Ne.symm ne) z) e7 (up _ _ (Nat.ne_of_gt lt) t4) fun b o be bj z=>up b o be (k4 b o be bj z)⟩))
theorem D2b{e j c:Addr}{i:Nat}{its:Array Value}{x old:Value}{Q:Option Value ->Shared ->Prop}(he:IsEnum s.heap e j i old)(hi:s.heap.IsTupleIter j c i)(ht:s.heap.IsTuple c its)(hx:its[i]?=some x)(ne:e≠j)
   (k:∀g,g.IsTupleIter j c (i+1) ->IsEnumOut g e j ((i:Int)+1) x s.heap.objs.size ->g.get? s.heap.objs.size=some {cls:= .type "tuple",data:= .seq #[.int i s.toks,x]} ->
     (∀b o,b≠e ->b≠j ->s.heap.get? b=some o ->g.get? b=some o) ->Q (some (.ref s.heap.objs.size)) {s with heap:=g,toks:=s.toks+1}):wpAny (model prog w) A (pyNext (.ref e)) Q E s:=by
 have hT:s.TypeIs (.ref e) "enumerate":=⟨_,he,rfl⟩
 unfold pyNext
 refine wpAny_bind (wpAny_attempt (wpAny_callSpecial?_slot (name:=Str.ofString "__next__") hT F.slot_enumerate_next (wpAny_call_entry F.slot_enumerate_next hT F.entry_enumerate_next ?_ (F.args_enumerate_next_1 _))))
 refine D9q (R:=fun y g=>y=x/\g.IsTupleIter j c (i+1)) he ne (fun y h g r kk=>⟨r.1,let⟨o,z,q⟩:=r.2;⟨o,kk o z,q⟩⟩) (fun Q' kk=>G3t hi ht hx fun g st sb=>kk x g ⟨rfl,st⟩ sb) fun y g r ho hT' hk=>?_
 obtain⟨rfl,st⟩:=r
 exact wpAny_pure (k g st ho hT' hk)
theorem G1y{e j c:Addr}{i:Nat}{its:Array Value}{old:Value}{Q:Option Value ->Shared ->Prop}(hh:A.handled=none)(he:IsEnum s.heap e j i old)(hi:s.heap.IsTupleIter j c i)(ht:s.heap.IsTuple c its)(hx:its[i]?=none)
   (k:∀g,Heap.ExtBut j s.heap g ->Q none {s with heap:=g}):wpAny (model prog w) A (pyNext (.ref e)) Q E s:=by
 have hT:s.TypeIs (.ref e) "enumerate":=⟨_,he,rfl⟩
 unfold pyNext
 refine wpAny_bind (wpAny_attempt (wpAny_callSpecial?_slot (name:=Str.ofString "__next__") hT F.slot_enumerate_next (wpAny_call_entry F.slot_enumerate_next hT F.entry_enumerate_next ?_ (F.args_enumerate_next_1 _))))
 show wpAny _ _ (field (.ref e) 2>>=_) _ _ _
 refine wpAny_bind (wpAny_field he rfl (x:= .ref j) rfl ?_)
 refine wpAny_bind (C2m hh hi ht hx fun g x eb so=>?_)
 obtain⟨o,ho,oc⟩:=so
 exact wpAny_bind (wpAny_isInstance (T:="StopIteration") (b:=true) ⟨o,ho,oc⟩ isSubtype_stop (wpAny_pure (k _ eb)))
theorem G0q(c:Addr)(its:Array Value)(ob:Obj)(oc:ob.cls= .type "tuple")(n:Nat)(od:ob.data= .seq its n):
   Meets (Builtin.«enumerate.__new__» ⟨[.type "enumerate", .ref c], []⟩) (fun _ R s => s.heap.get? c = some ob /\
     R (.ok (.ret (.ref (s.heap.push {cls:= .type "tuple_iterator",data:= .fields #[.ref c,.int 0 0]}).objs.size)))
       {s with heap:=(s.heap.push {cls:= .type "tuple_iterator",data:= .fields #[.ref c,.int 0 0]}).push {cls:= .type "enumerate",data:= .fields #[.none,.bool false,.ref s.heap.objs.size,rawInt 0,.none,.none]}}):=
 .of_wp fun prog w A R s h=>by
   obtain⟨hp,gs,dr,tk,os⟩:=s
   obtain⟨hc,h⟩:=h
   obtain⟨cl,dct,dt,sl⟩:=ob
   have oc:cl= .type "tuple":=oc
   have od:dt= .seq its n:=od
   subst oc od
   have hsub:=sub_enumerate
   have hL:Heap.IsTuple (Shared.heap ⟨hp,gs,dr,tk,os⟩) c its:=⟨_,hc,rfl,n,rfl⟩
   wp_walk using wpAny_loadPart' hc
   refine wpAny_stack_any fun st=>wpAny_pure ?_
   split
   . rename_i ty _ _ _ _ _
     cases(ty==Value.type "enumerate")
     . wp_walk using wpAny_loadPart' hc,wpAny_pyIter_tuple hL
       exact⟨_,rfl,h⟩
     . wp_walk using wpAny_loadPart' hc,wpAny_pyIter_tuple hL
       exact⟨_,rfl,h⟩
   . wp_walk using wpAny_loadPart' hc,wpAny_pyIter_tuple hL
     exact⟨_,rfl,h⟩
theorem A6j{c:Addr}{its:Array Value}{Q:Value ->Shared ->Prop}(hL:s.heap.IsTuple c its)
   (h:∀g,IsEnum g (s.heap.objs.size+1) s.heap.objs.size 0 .none ->g.IsTupleIter s.heap.objs.size c 0 ->(∀b o,s.heap.get? b=some o ->g.get? b=some o) ->Q (.ref (s.heap.objs.size+1)) {s with heap:=g}):
   wpAny (model prog w) A (call (.type "enumerate") [.ref c]) Q E s:=by
 obtain⟨ob,hc,oc,n,od⟩:=hL
 refine callType_new F.called_enumerate (by decide) (F.typeCall_enumerate_1 _) (F.newCall_enumerate_1 _) (fun obj=>F.args_object_init_2 obj _) F.entry_enumerate_new (G0q c its ob oc n od) ⟨hc,?_⟩
 have hz:(s.heap.push {cls:= .type "tuple_iterator",data:= .fields #[.ref c,.int 0 0]}).objs.size=s.heap.objs.size+1:=Heap.size_push ..
 show _/\_
 rw[hz]
 have he:IsEnum ((s.heap.push {cls:= .type "tuple_iterator",data:= .fields #[.ref c,.int 0 0]}).push {cls:= .type "enumerate",data:= .fields #[.none,.bool false,.ref s.heap.objs.size,rawInt 0,.none,.none]}) (s.heap.objs.size+1) s.heap.objs.size 0 .none:=by
   have q:=Heap.get?_push_size (s.heap.push {cls:= .type "tuple_iterator",data:= .fields #[.ref c,.int 0 0]}) (o:={cls:= .type "enumerate",data:= .fields #[.none,.bool false,.ref s.heap.objs.size,rawInt 0,.none,.none]}) rfl
   rw[hz] at q
   exact q
 exact⟨⟨_,he,rfl⟩,h _ he ⟨_,Heap.get?_push_of_some _ (Heap.get?_push_size _ rfl),rfl,rfl⟩ fun b o x=>Heap.get?_push_of_some _ (Heap.get?_push_of_some _ x)⟩
end
noncomputable def G3m (K:Frag) (a:Addr):It:=
 ⟨fun i H=>∃xs x,SqT K H a xs/\xs[i]?=some x,fun i H x H'=>∃t y,x= .ref t/\H t=none/\H'=upd H t (.tup [.int i,y])/\∀xs,SqT K H a xs ->xs[i]?=some y,fun i H=>∃xs,SqT K H a xs/\xs.length<=i⟩
theorem C2y{P:Program}{w:World}{K:Frag}{es:List Expr}{k:Nat}{pos:Pos}(a e it:Addr)(hei:e≠it):C8v P w K (.Tuple es k pos) (G3m K a) [e,it] e (fun i h=>(∃old,IsEnum h e it i old)/\h.IsTupleIter it a i) where
 mem:=by simp
 obj:=fun i h st b hb=>by
   obtain⟨⟨old,he⟩,o,eo,c,d⟩:=st
   rcases(by simpa using hb:b=e\/b=it) with rfl|rfl
   . exact⟨_,he,fun v z=>by
       have z':Data.fields _=Data.cell v:=z
       cases z'⟩
   . exact⟨o,eo,fun v z=>by rw[d] at z;cases z⟩
 keep:=fun i h h' st k=>by
   obtain⟨⟨old,he⟩,hit⟩:=st
   exact⟨⟨old,k e (by simp) _ he⟩,hit.at fun o x=>k it (by simp) o x⟩
 item:=by
   intro X hP hw hK hc i pins s σ H E I hf st hg
   subst hP hw hK
   obtain⟨xs,x,hq,hx⟩:=hg
   obtain⟨its,rv,p,hz⟩:=I.tuple hq
   obtain⟨u,hu,ru⟩:=rv.get hx
   obtain⟨⟨old,he⟩,hit⟩:=st
   have elt:e<s.heap.objs.size:=Heap.lt_size he
   have ilt:it<s.heap.objs.size:=by obtain⟨o,z,_⟩:=hit;exact Heap.lt_size z
   refine D2b he hit (show s.heap.IsTuple a its.toArray from p) (x:=u) (by simpa using hu) hei fun h1 hit1 ho hT hk=>?_
   refine⟨_,rfl,wpAny_letOwnedTupleGo_enum ho fun h2 he2 hs2=>?_⟩
   have hs2:Heap.SameBut e h1 h2:=hs2
   obtain⟨I2,hn⟩:=I.paired (h':=h2) (t':=s.toks+1) (fp:=[e,it]) (x:= .int i) (y:=x) (u:= .int i s.toks) (v:=u) ⟨_,rfl⟩ ru hf
     (fun b hb=>by rcases(by simpa using hb:b=e\/b=it) with rfl|rfl<;>assumption)
     (fun b o hb z=>(hs2.2 b (fun q=>hb (by simp[q]))).trans (hk b o (fun q=>hb (by simp[q])) (fun q=>hb (by simp[q])) z)) ((hs2.2 _ (Nat.ne_of_gt elt)).trans hT)
   refine⟨.ref s.heap.objs.size,_,I2,rfl,⟨_,x,rfl,I.hok.fresh (Nat.le_refl _),rfl,fun ys hy=>by rw[I.tuple_inj hy hq];exact hx⟩,⟨⟨u,?_⟩,hit1.at fun o y=>(hs2.2 it hei.symm).trans y⟩,hn⟩
   have:((i+1:Nat):Int)=(i:Int)+1:=by push_cast;rfl
   rw[this]
   exact he2
 done:=by
   intro X hP hw hK hc i pins s σ H E I hf st hg
   subst hP hw hK
   obtain⟨xs,hq,hx⟩:=hg
   obtain⟨its,rv,p,hz⟩:=I.tuple hq
   obtain⟨⟨old,he⟩,hit⟩:=st
   have hl:=rv.length
   exact G1y (I.ok.hd hc) he hit (show s.heap.IsTuple a its.toArray from p) (by simp;omega) fun h' eb=>⟨rfl,I.turnedL (t':=s.toks) (fp:=[e,it]) (fun b o hb z=>eb b o (fun q=>hb (by simp[q])) z) hf⟩
 self:=fun _ _ _ _ _ st h=>by
   obtain⟨⟨old,he⟩,hit⟩:=st
   exact wpAny_pyIter_enum he h
section
variable{X:Cx}{es:List Expr}{k:Nat}{tp:Pos}
def G4w (K:Frag) (ta:TA):TI:=fun σ H R=>ta σ H fun vs H1=>∃a,vs=[.ref a]/\(∃xs,SqT K H1 a xs)/\R (G3m K a) H1
theorem D0h{a:Expr}{ta:TA}{p pos:Pos}(hg:Gl X "enumerate")(hm:X.mg "enumerate"=none)(ha:PA X [a] ta)(hs:starEach [a] X.env=[(false,eval a X.env)]:=by rfl):PI X (.Tuple es k tp) (.Call (.Name "enumerate" p) [a] [] pos) (G4w X.K ta):=by
 intro pins s σ H R I h
 refine Call_ (A8g I hg hm B2k (PyProof.Rows.callWith_type1 (thn (ha pos pins s σ H _ I h) fun us s1 hh_=>?_) hs rfl))
 obtain⟨vs,H1,I1,r1,q1⟩:=hh_
 obtain⟨l,e,⟨xs,hq⟩,q⟩:=q1
 subst e
 cases r1 with
 | cons r rr=>
   cases rr
   cases r
   obtain⟨its,rv,pl,hz⟩:=I1.tuple hq
   refine A6j (show s1.heap.IsTuple l its.toArray from pl) fun h' he hit hk=>wpAny_pyIter_enum he ?_
   have I2:Inv X pins σ H1 {s1 with heap:=h'}:=I1.kept (t':=s1.toks) hk
   refine⟨s1.heap.objs.size+1,[s1.heap.objs.size+1,s1.heap.objs.size],_,_,H1,rfl,I2,C2y l _ _ (Nat.succ_ne_self _),⟨⟨.none,he⟩,hit⟩,fun b hb=>?_,q⟩
   rcases(by simpa using hb:b=s1.heap.objs.size+1\/b=s1.heap.objs.size) with rfl|rfl
   . exact I1.fpOk (Nat.le_add_right _ _) (I1.hok.fresh (Nat.le_add_right _ _))
   . exact I1.fpOk (Nat.le_refl _) (I1.hok.fresh (Nat.le_refl _))
end
end L2
namespace L2
open PySem PySem.Spec PyProof.Rows PySem.W
section
variable{X:Cx}
theorem B7m:A0y X (.builtin "divmod") (fun xs H Q=>∃i j:Int,xs=[.int i,.int j]/\(0<j/\j.natAbs.log2<9000)/\∀p,H p=none ->Q (.ref p) (upd H p (.tup [.int (i/j),.int (i % j)]))):=by
 intro pins s σ H xs us Q I r h
 obtain⟨i,j,rfl,⟨h1,h2⟩,q⟩:=h
 obtain⟨u,w',rfl,⟨t,rfl⟩,⟨t',rfl⟩⟩:=B9j r
 refine divmod_int (by omega) ?_ (.inl (PyProof.noPylong_of_log2 h2))
 rw[Int.fdiv_eq_ediv_of_nonneg i (by omega),Int.fmod_eq_emod_of_nonneg i (by omega)]
 refine⟨.ref s.heap.objs.size,upd H s.heap.objs.size (.tup [.int (i/j),.int (i % j)]),I.laid (fun b o e=>Heap.get?_push_of_some _ e) (Nat.le_refl _) ⟨C9 (by show 2<=1000;decide),[.int (i/j) s.toks,.int (i % j) (s.toks+1)],.cons ⟨_,rfl⟩ (.cons ⟨_,rfl⟩ .nil),⟨_,Heap.get?_push_size s.heap rfl,rfl,0,rfl⟩⟩,rfl,q _ (I.hok.fresh (Nat.le_refl _))⟩
end
end L2
namespace L2
open PySem PySem.W PyProof.Rows
section
variable{X:Cx}{o e:Expr}{ta:TE}{m:Str}{apos pos:Pos}{j k:Nat}{ps:List Str}{ι:Type}{cw f:ι ->Addr}{fd:ι ->FuncData}{sp:ι ->Sp}{EH:EK}
end
section
variable{X:Cx}{a b e o:Expr}{es:List Expr}{ta tb te to:TE}{t:TA}{pos:Pos}{st:Stmt}{rest:List Stmt}{ts u:TS}
end
end L2
namespace L2
open PySem PySem.Spec PyProof.Rows PySem.W
section
variable{X:Cx}{x f:Str}{p cpos pos:Pos}{e:Expr}{t:TA}{C fI:Addr}{fdI:FuncData}{ps:List Str}{j k:Nat}
end
section
variable{X:Cx}{x y:Str}{e:Expr}{t:TE}{p q:Pos}{pos pos2:Pos}
end
end L2
namespace L2
open PySem PySem.Spec PyProof.Rows
end L2
namespace L2
open PySem PySem.Spec PyProof.Rows PySem.W
mutual
inductive RdR(H:Hp):V ->PyData ->Prop where
 |non:RdR H .non .none
 |bl (b:Bool):RdR H (.bl b) (.bool b)
 |int (i:Int):RdR H (.int i) (.int i)
 |str (x:Str):RdR H (.str x) (.str x)
 |tup {a:Addr} {xs:List V} {ds:List PyData} (h:H a=some (.tup xs)) (r:A5w H xs ds):RdR H (.ref a) (.tuple ds)
 |lst {a:Addr} {xs:List V} {ds:List PyData} (h:H a=some (.lst xs)) (n:a≠sysModules) (r:A5w H xs ds):RdR H (.ref a) (.list ds)
 |dct0 {a:Addr} (h:H a=some (.dK [])):RdR H (.ref a) (.dict [])
 |dct1 {a:Addr} {z:Str} {b:Bool} (h:H a=some (.dK [(.inr z,.bl b)])):RdR H (.ref a) (.dict [(.str z,.bool b)])
inductive A5w(H:Hp):List V ->List PyData ->Prop where
 |nil:A5w H [] []
 |cons {x:V} {xs:List V} {d:PyData} {ds:List PyData} (h:RdR H x d) (r:A5w H xs ds):A5w H (x::xs) (d::ds)
end
mutual
theorem RdR.same{H H':Hp}(s:∀b o,H b=some o ->H' b=some o):∀{x:V} {d:PyData},RdR H x d ->RdR H' x d
 |_,_,.non=> .non
 |_,_,.bl b=> .bl b
 |_,_,.int i=> .int i
 |_,_,.str x=> .str x
 |_,_,.tup h r=> .tup (s _ _ h) (A5w.same s r)
 |_,_,.lst h n r=> .lst (s _ _ h) n (A5w.same s r)
 |_,_,.dct0 h=> .dct0 (s _ _ h)
 |_,_,.dct1 h=> .dct1 (s _ _ h)
theorem A5w.same{H H':Hp}(s:∀b o,H b=some o ->H' b=some o):∀{x:List V} {d:List PyData},A5w H x d ->A5w H' x d
 |_,_,.nil=> .nil
 |_,_,.cons h r=> .cons (RdR.same s h) (A5w.same s r)
end
section
variable{X:Cx}
mutual
theorem RdR.reads{pins:List (Addr×Obj)}{σ:St}{H:Hp}{s:Shared}(I:Inv X pins σ H s):∀{x:V} {d:PyData} {u:Value},RdR H x d ->V4 x u ->∃as,Reads s.heap u d as/\sysModules ∉ as
 |_,_,_,.non,r=>by cases r;exact⟨_,.none,by simp⟩
 |_,_,_,.bl b,r=>by cases r;exact⟨_,.bool b,by simp⟩
 |_,_,_,.int i,r=>by obtain⟨t,rfl⟩:=r;exact⟨_,.int i t,by simp⟩
 |_,_,_,.str x,r=>by obtain⟨t,rfl⟩:=r;exact⟨_,.str x t,by simp⟩
 | _,_,_,.tup h q,r=>by
   cases r
   obtain⟨_,its,rv,o,e,c,n,d⟩:=I.hok _ _ h
   obtain⟨as,z,y⟩:=A5w.reads I q rv
   exact⟨_,.tuple e c d (by simpa using z),y⟩
 | _,_,_,.lst (a:=a) h nn q,r=>by
   cases r
   obtain⟨_,its,n,rv,e⟩:=I.hok _ _ h
   obtain⟨as,z,y⟩:=A5w.reads I q rv
   refine⟨_,.list e rfl rfl (by simpa using z),fun hm=>?_⟩
   rcases List.mem_cons.mp hm with hm|hm
   . exact nn hm.symm
   . exact y hm
 | _,_,_,.dct0 (a:=a) h,r=>by
   cases r
   obtain⟨_,nS,vs,kv,o,es,ep,e,c,d,_,ps,_⟩:=I.hok _ _ h
   cases kv
   cases hp:es.toList with
   |cons _ _=>rw[hp] at ps;cases ps
   | nil=>
     refine⟨_,.dict (kvs:=[]) e c.1 d (by rw[hp];exact .nil) (by rw[hp];exact .nil),fun hm=>?_⟩
     exact beq_eq_false_iff_ne.mp nS (by simpa using hm:sysModules=a).symm
 | _, _, _,.dct1 (a:=a) (z:=z) (b:=b) h,r=>by
   cases r
   obtain⟨_,nS,vs,kv,o,es,ep,e,c,d,_,ps,_⟩:=I.hok _ _ h
   cases kv with
   | cons k1 k2=>
     cases k2
     obtain⟨k1a,k1b⟩:=k1
     cases ps':es.toList with
     |nil=>rw[ps'] at ps;cases ps
     | cons en rest=>
       rw[ps'] at ps
       cases ps with
       | cons p1 p2 p3=>
         cases p3
         have hk:∃t,en.key= .str z t:=by
           rw[<-k1a] at p1
           have p1:Value.isStrOf z en.key=true:=p1
           cases hk:en.key<;>rw[hk] at p1<;>simp[Value.isStrOf] at p1
           subst p1
           exact⟨_,rfl⟩
         obtain⟨t,hk⟩:=hk
         have hv:en.val= .bool b:=p2.trans k1b
         refine⟨_,.dict (kvs:=[(.str z,.bool b)]) e c.1 d (by rw[ps'];show ReadsAll s.heap [en.key] [.str z] _;rw[hk];exact .cons (.str z t) .nil) (by rw[ps'];show ReadsAll s.heap [en.val] [.bool b] _;rw[hv];exact .cons (.bool b) .nil),fun hm=>?_⟩
         exact beq_eq_false_iff_ne.mp nS (by simpa using hm:sysModules=a).symm
theorem A5w.reads{pins:List (Addr×Obj)}{σ:St}{H:Hp}{s:Shared}(I:Inv X pins σ H s):∀{xs:List V} {ds:List PyData} {us:List Value},A5w H xs ds ->G7 xs us ->∃as,ReadsAll s.heap us ds as/\sysModules ∉ as
 |_,_,_,.nil,r=>by cases r;exact⟨_,.nil,by simp⟩
 | _,_,_,.cons h q,r=>by
   cases r with
   | cons r1 r2=>
     obtain⟨as,z,n1⟩:=RdR.reads I h r1
     obtain⟨bs,y,n2⟩:=A5w.reads I q r2
     exact⟨_,.cons z y,by simp[n1,n2]⟩
end
end
section
variable{X:Cx}{j k:Nat}{f C:Addr}{fd:FuncData}{ps:List Str}{sp:Sp}{dvs:List V}{ds:List Value}{x m:Str}{p pos apos:Pos}{e o:Expr}{es:List Expr}{ta:TE}{t:TA}{st:Stmt}
theorem C8m{pins:List (Addr×Obj)}{σ:St}{H:Hp}{s:Shared}{Q:VK}{us:List Value}{vs:List V}(M:Mk X.K C f)(F:G6 X.prog X.w X.K X.mg X.base (CX1 X.prog X.w) k f fd ps sp)(hr:A0r (k+1) X.A)(hb:Y6 X.K fd ps ds)(hd:G7 dvs ds)
   (I:Inv X pins σ H s) (r:G7 vs us)
   (h:∀x dx,H x=none ->H dx=none ->dx≠x ->sp (.ref x::(vs++dvs)) (upd (upd H dx (.own x)) x (.ins C dx [])) (fun v H2=>v= .non/\Q (.ref x) H2) (fun C d H'=>EKF C d σ H')):
   wpAny (model X.prog X.w) X.A (call (.ref C) us) (EP X pins σ Q) X.xe s:=by
 have hq:=h (s.heap.objs.size+1) s.heap.objs.size (I.hok.fresh (Nat.le_succ _)) (I.hok.fresh (Nat.le_refl _)) (Nat.ne_of_lt (Nat.lt_succ_self _))
 have I2:=Inv.made (C:=C) I
 have r2:G7 (V.ref (s.heap.objs.size+1)::(vs++dvs)) (Value.ref (s.heap.objs.size+1)::(us++ds)):= .cons rfl (r.append hd)
 have hl:(Value.ref (s.heap.objs.size+1)::us++ds).length=ps.length:=by
   have e:=r2.length
   rw[F.len _ _ _ _ hq] at e
   exact e.symm
 refine wpAny_call (B8e (f:=f) I.kIn M.makes M.init (beq_iff_eq.mp M.fn) (codeAny_mono (F.run _ X.stack _ _ ⟨Value.ref (s.heap.objs.size+1)::us,[]⟩ (Value.ref (s.heap.objs.size+1)::(us++ds)) _ _ _ (hr.make C us [])
   (I2.env0.make C us []) (hb _ (Value.ref (s.heap.objs.size+1)::us) I2.kIn hl) r2 hq) fun r s' hq'=>?_))
 cases r with
 | error e=>
   obtain⟨a,t,C,dd,H',_,_,_,_,_,hE,_⟩:=hq'
   exact False.elim hE
 | ok fl=>
   cases fl with
   | ret u=>
     obtain⟨v,H',I3,rv,ev,q3⟩:=I2.after hq'
     subst ev
     exact⟨rv,⟨V.ref (s.heap.objs.size+1),H',I3,rfl,q3⟩⟩
   |next=>exact False.elim hq'
   |brk=>exact False.elim hq'
   |cont=>exact False.elim hq'
theorem G3z(M:Mk X.K C f)(F:G6 X.prog X.w X.K X.mg X.base (CX1 X.prog X.w) j f fd ps sp)(hr:A0r k X.A)(hm:X.mg x=some (.ref C))(hb:Y6 X.K fd ps ds)(hd:G7 dvs ds)
   (ha:PA X (e::es) t) (hj:j+1<=k:=by decide) (hg:Gl X x:=by rfl) (hdb:(x==("__debug__":Str))=false:=by decide) (he:starEach (e::es) X.env=(false,eval e X.env)::starEach es X.env:=by rfl) (hpl:(backTo pos (starEach es X.env)).any (·.1)=false:=by rfl):
   PE X (.Call (.Name x p) (e::es) [] pos) (D3n C sp dvs EKF t):=by
 intro pins s σ H Q I h
 refine wpAny_Call_Name_kw (Z9 I hg hm ?_ hdb)
 refine callWith_K (h₀:=X.base) I.ok.mod.kin M.kp (thn (ha pos pins s σ H _ I h) fun us s1 ⟨vs,H1,I1,r,q⟩=>⟨I1.kIn,?_⟩) he hpl
 exact C8m M F (hr.mono hj) hb hd I1 r q
end
section
variable{cs:List Addr}{H H' H2:Hp}{b:Addr}{P:Program}{w:World}{h h':Heap}{fs:List Addr}
end
section
variable{X:Cx}{j k:Nat}{f:Addr}{fd:FuncData}{ps:List Str}{sp:Sp}{ds:List Value}{EH:EK}{x:Str}{p pos:Pos}{e:Expr}{es:List Expr}{t:TA}{st:Stmt}
end
section
variable{X:Cx}
end
theorem SqL.kept{K:Frag}{H H':Hp}{a:Addr}{xs:List V}(h:SqL K H a xs)(s:∀o,H a=some o ->(o= .lst xs\/∃oc,o= .frz oc (.lst xs)) ->H' a=some o):SqL K H' a xs:=by
 rcases h with(h|⟨o,h⟩)|h
 . exact .inl (.inl (s _ h (.inl rfl)))
 . exact .inl (.inr ⟨o,s _ h (.inr ⟨o,rfl⟩)⟩)
 exact .inr h
section
variable{X:Cx}{tg:Expr}
end
section
variable{X:Cx}
end
section
variable{prog:Program}{w:World}{A:Around}{E:Value ->Shared ->Prop}{s:Shared}
end
section
variable{X:Cx}{pos:Pos}
end
section
variable{X:Cx}{pos tpos pa pb:Pos}
end
section
variable{X:Cx}{N F:List Str}{js:List Nat}{scope:Scope}
end
section
variable{X:Cx}{tg:Expr}
end
section
variable{X:Cx}{pins:List (Addr×Obj)}{σ:St}{H:Hp}{s:Shared}
end
section
variable{X:Cx}{tg:Expr}
end
end L2
namespace TR
open PySem L2 PySem.W PyProof.Rows
structure G6k(K:Frag):Prop where
 isi:nsIn K mainGlobals "isinstance"=some none
 int_:nsIn K mainGlobals "int"=some none
 bool_:nsIn K mainGlobals "bool"=some none
 str_:nsIn K mainGlobals "str"=some none
 list_:nsIn K mainGlobals "list"=some none
 tuple_:nsIn K mainGlobals "tuple"=some none
 dict_:nsIn K mainGlobals "dict"=some none
 len_:nsIn K mainGlobals "len"=some none
 range_:nsIn K mainGlobals "range"=some none
 min_:nsIn K mainGlobals "min"=some none
 max_:nsIn K mainGlobals "max"=some none
 abs_:nsIn K mainGlobals "abs"=some none
 any_:nsIn K mainGlobals "any"=some none
 all_:nsIn K mainGlobals "all"=some none
 sum_:nsIn K mainGlobals "sum"=some none
 repr_:nsIn K mainGlobals "repr"=some none
 enumerate_:nsIn K mainGlobals "enumerate"=some none
 reversed_:nsIn K mainGlobals "reversed"=some none
 zip_:nsIn K mainGlobals "zip"=some none
 sorted_:nsIn K mainGlobals "sorted"=some none
 divmod_:nsIn K mainGlobals "divmod"=some none
 set_:nsIn K mainGlobals "set"=some none
 ValueError_:nsIn K mainGlobals "ValueError"=some none
theorem G6k.go{K:Frag}{h:Heap}{mg:Str ->Option Value}(u:G6k K)(X:K.In h)(G:h.Ns mainGlobals mg):Own mg:=⟨mg_none_of X G u.isi,mg_none_of X G u.int_,mg_none_of X G u.bool_,mg_none_of X G u.str_,mg_none_of X G u.list_,mg_none_of X G u.tuple_,mg_none_of X G u.dict_,mg_none_of X G u.len_,mg_none_of X G u.range_,mg_none_of X G u.min_,mg_none_of X G u.max_,mg_none_of X G u.abs_,mg_none_of X G u.any_,mg_none_of X G u.all_,mg_none_of X G u.sum_,mg_none_of X G u.repr_,mg_none_of X G u.enumerate_,mg_none_of X G u.reversed_,mg_none_of X G u.zip_,mg_none_of X G u.sorted_,mg_none_of X G u.divmod_,mg_none_of X G u.set_,mg_none_of X G u.ValueError_⟩
end TR
namespace L2
open PySem PySem.Spec PyProof.Rows PySem.W
section
variable{X:Cx}{j k:Nat}{f:Addr}{EH:EK}{x y:Str}{p p1 pos:Pos}
end
section
variable{X:Cx}{N F:List Str}{js:List Nat}{scope:Scope}
end
section
variable{X:Cx}{N F:List Str}{js:List Nat}{scope:Scope}
end
structure A1n(X:Cx)(EH:EK):Prop where
 c:Y1 X EH
 hd:Y0 X
 q:X.A.handled=none\/∀C d σ H,¬EH C d σ H
structure B9(P:Program)(w:World)(K:Frag)(mg:Str ->Option Value)(base:Heap)(k:Nat)(f:Addr)(fd:FuncData)(ps:List Str)(sp:Sp):Prop where
 len:∀vs H Q E,sp vs H Q E ->vs.length=ps.length
 run:∀(A:Around) (outer:List Env) (s:Shared) (H:Hp) (args:Args) (us:List Value) (vs:List V) (Q:VK) (E:XK),Y7 k A ->B0d P w K mg base A outer s H ->HdH A H ->(A.handled=none\/∀C d H',¬E C d H') ->BindsTo s fd args (ps.zip us) ->G7 vs us ->sp vs H Q E ->
   codeAny (model P w) A (.call (.ref f) args) (CR (CX1 P w) outer P w H s Q E) s
section
variable{P:Program}{w:World}{K:Frag}{mg:Str ->Option Value}{base:Heap}{k:Nat}{f:Addr}{fd:FuncData}{ps:List Str}{sp:Sp}
theorem B9.mono{j:Nat}(F:B9 P w K mg base j f fd ps sp)(h:j<=k):B9 P w K mg base k f fd ps sp:=⟨F.len,fun A outer s H args us vs Q E hr=>F.run A outer s H args us vs Q E (hr.mono h)⟩
theorem B9.fn(F:B9 P w K mg base k f fd ps sp):G6 P w K mg base (CX1 P w) k f fd ps sp:=⟨F.len,fun A outer s H args us vs Q E hr e0 hb r hsp=>F.run A outer s H args us vs Q E hr.h e0 (.inl hr.hd) (.inl hr.hd) hb r hsp⟩
theorem B9.h(F:B9 P w K mg base k f fd ps sp):B5u P w K mg base k f fd ps sp:=by
 refine⟨F.len,fun A outer s H args us vs Q hr e0 hd hb r hsp=>codeAny_mono (F.run A outer s H args us vs Q E0 hr e0 hd (.inr fun _ _ _ z=>z) hb r hsp) fun r s' q=>?_⟩
 cases r with
 | error e=>
   obtain⟨a,t,C,dd,H',_,_,_,_,_,hE,_⟩:=q
   exact hE.elim
 |ok fl=>cases fl<;>exact q
end
noncomputable abbrev A5z (P:Program) (w:World) (K:Frag) (mg:Str ->Option Value) (base:Heap) (N:List Str) (qual:Str) (scope:Scope) (f:Addr) (cd:Value) (A:Around) (outer:List Env) (s:Shared) (H:Hp) (E:XK):Cx:=
 {A2p (CX1 P w) P w K mg base N qual scope f cd A outer s H E with calm:=false}
theorem A9m{P:Program}{w:World}{K:Frag}{mg:Str ->Option Value}{base:Heap}{N:List Str}{qual:Str}{scope:Scope}{f:Addr}{cd:Value}{A:Around}{outer:List Env}{s:Shared}{H:Hp}{E:XK}:
   Y1 (A5z P w K mg base N qual scope f cd A outer s H E) (fun C dd _ H'=>E C dd H'):=by
 intro pins σ H' s' a t C dd I F h
 refine B4z (X:=A5z P w K mg base N qual scope f cd A outer s H E) ⟨rfl,rfl,rfl⟩ I F fun s2 I2 F2=>?_
 obtain⟨na,T,oT,ts,e,ne,nT,eT,dT,h3⟩:=F2
 exact⟨a,t,C,dd,H',rfl,I2.os,I2.bare,I2.base,I2.hok,h,⟨na.old,na.un⟩,T,oT,ts,e,ne,⟨nT.old,nT.un⟩,eT,dT,h3⟩
section
variable{P:Program}{w:World}{K:Frag}{mg:Str ->Option Value}{base:Heap}
theorem Fun.ok2{x qual:Str}{st:Stmt}{f:Addr}{fd:FuncData}{N ps:List Str}{k:Nat}{sp:Sp}(F:Fun K x qual st f fd)(S:B8 N ps (A6 st))(len:∀vs H Q E,sp vs H Q E ->vs.length=ps.length)
   (hbody:∀(X:Cx) (cdv:Value) (A:Around) (outer:List Env) (s:Shared) (H:Hp) (vs:List V) (Q:VK) (E:XK),X=A5z P w K mg base N qual (A6 st) f cdv A outer s H E ->Y7 k X.A ->A1n X (fun C dd _ H'=>E C dd H') ->sp vs H Q E ->
     ∃t,PSs (A5z P w K mg base N qual (A6 st) f cdv A outer s H E) (U2 st) t/\t {nx:=fun _ H'=>Q .non H',rt:=Q} (A1t N vs) H):B9 P w K mg base (k+1) f fd ps sp:=by
 obtain⟨oc,od,kV,doc,pm,an,cdv,ct,osl,rfl,lk,hcd⟩:=F.ex
 refine⟨len,fun A outer s H args us vs Q E hr e0 hdh hq2 hb r hsp=>?_⟩
 have hl:=len _ _ _ _ hsp
 have KX:K.In s.heap:=e0.mod.kin.keeps fun b o e=>(e0.bs b o e).1
 have lim:s.heap.NoLimit:=e0.mod.nolimit.keeps fun b o e=>(e0.bs b o e).1
 have hkind:∀y∈ps.zip us,(A6 st).names.lookup y.1=some .local\/((A6 st).names.lookup y.1=some .cell/\((cellsFrom (s.heap.objs.size+1) (A6 st).names []).lookup y.1).isSome=true):=fun⟨n,v⟩ hy=>by
   rcases S.par n (List.of_mem_zip hy).1 with q|q
   . exact .inl q
   . exact .inr ⟨q,PySem.W.cellsFrom_some _ _ _ (.inl q)⟩
 refine codeAny_call_function hr.depth (KX _ _ lk) rfl S.co S.gen rfl (PySem.W.codeRec_of KX hcd) (hb _ _ _ _ ?_)
 refine wpAny_newFunctionEnv_cells S.kind hkind fun env he s1 x=>?_
 subst he
 refine⟨lim.keeps x.toInCall.keep,codeAny_func ?_⟩
 obtain⟨t,ht,hq⟩:=hbody _ cdv A outer s H vs Q E rfl (hr.deeper _) ⟨A9m,hdh,hq2.imp id fun z C d _ H'=>z C d H'⟩ hsp
 have I0:Inv (A2p (CX1 P w) P w K mg base N qual (A6 st) f cdv (L2.quiet A) outer s H E) [] (A1t N vs) H s1:=A8t S rfl e0.quiet hl r x
 have I:Inv (A5z P w K mg base N qual (A6 st) f cdv A outer s H E) [] (A1t N vs) H s1:=
   Inv.loud (X:=A2p (CX1 P w) P w K mg base N qual (A6 st) f cdv (L2.quiet A) outer s H E) (A:=A.deeper (envOfC qual (A6 st) s.heap.objs.size f cdv)) rfl I0
 refine wpAny_mono (ht [] s1 (A1t N vs) H _ I hq) (fun fl s' hs=>?_) fun e s' hs=>hs
 have fin:∀{σ':St} {H':Hp} {v:V} {u:Value},Inv (A5z P w K mg base N qual (A6 st) f cdv A outer s H E) [] σ' H' s' ->V4 v u ->Q v H' ->CE outer P w H s Q u s':=
   fun{σ' H' v u} J rv q=>⟨v,H',J.os,J.bare,J.base,J.hok,rv,q⟩
 cases fl with
 | ret u=>
   obtain⟨v,σ',H',J,rv,q⟩:=hs
   exact fin J rv q
 | next=>
   obtain⟨σ',H',J,q⟩:=hs
   exact fin (v:=V.non) (u:=Value.none) J rfl q
 | brk=>
   obtain⟨_,_,_,q⟩:=hs
   exact False.elim q
 | cont=>
   obtain⟨_,_,_,q⟩:=hs
   exact False.elim q
theorem D3u.ok2{x qual:Str}{st:Stmt}{dV:Value}{f:Addr}{fd:FuncData}{N ps:List Str}{k:Nat}{sp:Sp}(F:D3u K x qual st dV f fd)(S:B8 N ps (A6 st))(len:∀vs H Q E,sp vs H Q E ->vs.length=ps.length)
   (hbody:∀(X:Cx) (cdv:Value) (A:Around) (outer:List Env) (s:Shared) (H:Hp) (vs:List V) (Q:VK) (E:XK),X=A5z P w K mg base N qual (A6 st) f cdv A outer s H E ->Y7 k X.A ->A1n X (fun C dd _ H'=>E C dd H') ->sp vs H Q E ->
     ∃t,PSs (A5z P w K mg base N qual (A6 st) f cdv A outer s H E) (U2 st) t/\t {nx:=fun _ H'=>Q .non H',rt:=Q} (A1t N vs) H):B9 P w K mg base (k+1) f fd ps sp:=by
 obtain⟨oc,od,kV,doc,pm,an,cdv,ct,osl,rfl,lk,hcd⟩:=F.ex
 refine⟨len,fun A outer s H args us vs Q E hr e0 hdh hq2 hb r hsp=>?_⟩
 have hl:=len _ _ _ _ hsp
 have KX:K.In s.heap:=e0.mod.kin.keeps fun b o e=>(e0.bs b o e).1
 have lim:s.heap.NoLimit:=e0.mod.nolimit.keeps fun b o e=>(e0.bs b o e).1
 have hkind:∀y∈ps.zip us,(A6 st).names.lookup y.1=some .local\/((A6 st).names.lookup y.1=some .cell/\((cellsFrom (s.heap.objs.size+1) (A6 st).names []).lookup y.1).isSome=true):=fun⟨n,v⟩ hy=>by
   rcases S.par n (List.of_mem_zip hy).1 with q|q
   . exact .inl q
   . exact .inr ⟨q,PySem.W.cellsFrom_some _ _ _ (.inl q)⟩
 refine codeAny_call_function hr.depth (KX _ _ lk) rfl S.co S.gen rfl (PySem.W.codeRec_of KX hcd) (hb _ _ _ _ ?_)
 refine wpAny_newFunctionEnv_cells S.kind hkind fun env he s1 x=>?_
 subst he
 refine⟨lim.keeps x.toInCall.keep,codeAny_func ?_⟩
 obtain⟨t,ht,hq⟩:=hbody _ cdv A outer s H vs Q E rfl (hr.deeper _) ⟨A9m,hdh,hq2.imp id fun z C d _ H'=>z C d H'⟩ hsp
 have I0:Inv (A2p (CX1 P w) P w K mg base N qual (A6 st) f cdv (L2.quiet A) outer s H E) [] (A1t N vs) H s1:=A8t S rfl e0.quiet hl r x
 have I:Inv (A5z P w K mg base N qual (A6 st) f cdv A outer s H E) [] (A1t N vs) H s1:=
   Inv.loud (X:=A2p (CX1 P w) P w K mg base N qual (A6 st) f cdv (L2.quiet A) outer s H E) (A:=A.deeper (envOfC qual (A6 st) s.heap.objs.size f cdv)) rfl I0
 refine wpAny_mono (ht [] s1 (A1t N vs) H _ I hq) (fun fl s' hs=>?_) fun e s' hs=>hs
 have fin:∀{σ':St} {H':Hp} {v:V} {u:Value},Inv (A5z P w K mg base N qual (A6 st) f cdv A outer s H E) [] σ' H' s' ->V4 v u ->Q v H' ->CE outer P w H s Q u s':=
   fun{σ' H' v u} J rv q=>⟨v,H',J.os,J.bare,J.base,J.hok,rv,q⟩
 cases fl with
 | ret u=>
   obtain⟨v,σ',H',J,rv,q⟩:=hs
   exact fin J rv q
 | next=>
   obtain⟨σ',H',J,q⟩:=hs
   exact fin (v:=V.non) (u:=Value.none) J rfl q
 | brk=>
   obtain⟨_,_,_,q⟩:=hs
   exact False.elim q
 | cont=>
   obtain⟨_,_,_,q⟩:=hs
   exact False.elim q
end
theorem Inv.hdH{X:Cx}{pins:List (Addr×Obj)}{σ:St}{H:Hp}{s:Shared}(I:Inv X pins σ H s)(h:Y0 X):HdH X.A H:=by
 rcases h with z|⟨x,o,u,vs,z,e,d,n⟩
 . exact .inl z
 exact .inr ⟨x,o,u,vs,z,I.base.frzs x o u e,d,n⟩
theorem Y7.make{k:Nat}{A:Around}(r:Y7 (k+1) A)(C:Addr)(us:List Value)(kw:List (Str×Value)):Y7 k (A.under (.builtin "type.__call__" ⟨.ref C::us,kw⟩)):=
 ⟨by have:=r.dp;rw[B1r];omega,by have:=r.un;rw[B1b];omega⟩
section
variable{X:Cx}{k j:Nat}{f C:Addr}{fd:FuncData}{ps:List Str}{sp:Sp}{dvs:List V}{ds:List Value}{EH:EK}{x m:Str}{st:Stmt}{p pos apos:Pos}{e o:Expr}{es:List Expr}{ta:TE}{t:TA}
theorem B0w{pins:List (Addr×Obj)}{σ:St}{H:Hp}{s:Shared}{Q:VK}{us:List Value}{vs:List V}(F:B9 X.prog X.w X.K X.mg X.base k f fd ps sp)(hr:Y7 k X.A)(hb:Y6 X.K fd ps ds)(hd:G7 dvs ds)
   (hx:A1n X EH) (hex:X.ex=[]) (I:Inv X pins σ H s) (r:G7 vs us) (h:sp (vs++dvs) H Q (fun C d H'=>EH C d σ H')):wpAny (model X.prog X.w) X.A (call (.ref f) us) (EP X pins σ Q) X.xe s:=by
 have r2:G7 (vs++dvs) (us++ds):=r.append hd
 have hl:(us++ds).length=ps.length:=by rw[<-r2.length];exact F.len _ _ _ _ h
 refine wpAny_call (codeAny_mono (F.run X.A X.stack s H ⟨us,[]⟩ (us++ds) (vs++dvs) Q _ hr I.env0 (I.hdH hx.hd) (hx.q.imp id fun z C d H'=>z C d σ H') (hb s us I.kIn hl) r2 h) fun r s' hq=>?_)
 cases r with
 |error e=>exact G4s hx.c hex I hq
 | ok fl=>
   cases fl with
   |ret u=>exact I.after hq
   |next=>exact False.elim hq
   |brk=>exact False.elim hq
   |cont=>exact False.elim hq
theorem D2e(F:B9 X.prog X.w X.K X.mg X.base k f fd ps sp)(hr:Y7 k X.A)(hg:Gl X x)(hm:X.mg x=some (.ref f))(hk:PySem.W.keepIn X.K (.ref f)=true)(hb:Y6 X.K fd ps ds)(hd:G7 dvs ds)
   (hx:A1n X EH) (ha:PA X (e::es) t) (hex:X.ex=[]:=by rfl) (hdb:(x==("__debug__":Str))=false:=by decide) (he:starEach (e::es) X.env=(false,eval e X.env)::starEach es X.env:=by rfl)
   (hpl:(backTo pos (starEach es X.env)).any (·.1)=false:=by rfl):PE X (.Call (.Name x p) (e::es) [] pos) (A2v sp dvs EH t):=by
 intro pins s σ H Q I h
 refine wpAny_Call_Name_kw (Z9 I hg hm ?_ hdb)
 refine PySem.W.callWith_K (h₀:=X.base) I.ok.mod.kin hk (thn (ha pos pins s σ H _ I h) fun us s1 ⟨vs,H1,I1,r,q⟩=>⟨I1.kIn,?_⟩) he hpl
 exact B0w F hr hb hd hx hex I1 r q
theorem C6a(F:B9 X.prog X.w X.K X.mg X.base k f fd ps sp)(hr:Y7 k X.A)(hg:Gl X x)(hm:X.mg x=some (.ref f))(hk:PySem.W.keepIn X.K (.ref f)=true)(hb:Y6 X.K fd ps ds)(hd:G7 dvs ds)
   (hx:A1n X EH) (hex:X.ex=[]:=by rfl) (hdb:(x==("__debug__":Str))=false:=by decide):PE X (.Call (.Name x p) [] [] pos) (A2v sp dvs EH B6y):=by
 intro pins s σ H Q I h
 refine wpAny_Call_Name_kw (Z9 I hg hm ?_ hdb)
 exact PySem.W.callWith_K0 I.kIn hk (B0w (us:=[]) F hr hb hd hx hex I .nil h)
theorem G0(D:Def X.K X.mg x ps st f fd)(F:B9 X.prog X.w X.K X.mg X.base j f fd ps sp)(hr:Y7 k X.A)(hx:A1n X EH)(ha:PA X (e::es) t)(hj:j<=k:=by decide)(hg:Gl X x:=by rfl)(hex:X.ex=[]:=by rfl)(hdb:(x==("__debug__":Str))=false:=by decide)
   (he:starEach (e::es) X.env=(false,eval e X.env)::starEach es X.env:=by rfl) (hpl:(backTo pos (starEach es X.env)).any (·.1)=false:=by rfl):PE X (.Call (.Name x p) (e::es) [] pos) (A2v sp [] EH t):=
 D2e (F.mono hj) hr hg D.g D.F.kp D.b .nil hx ha hex hdb he hpl
theorem C5e(D:Def X.K X.mg x ps st f fd)(F:B9 X.prog X.w X.K X.mg X.base j f fd ps sp)(hr:Y7 k X.A)(hx:A1n X EH)(hj:j<=k:=by decide)(hg:Gl X x:=by rfl)(hex:X.ex=[]:=by rfl)(hdb:(x==("__debug__":Str))=false:=by decide):
   PE X (.Call (.Name x p) [] [] pos) (A2v sp [] EH B6y):=
 C6a (F.mono hj) hr hg D.g D.F.kp D.b .nil hx hex hdb
theorem A6k{pl:Sem Bool}(he:PE X o ta)(c:Cls X.K C)(hm:A8b X.K C m f)(F:B9 X.prog X.w X.K X.mg X.base j f fd ps sp)(hr:Y7 k X.A)(hb:Y6 X.K fd ps ds)(hd:G7 dvs ds)(hx:A1n X EH)(ha:PA X (e::es) t)
   (hj:j<=k:=by decide) (hex:X.ex=[]:=by rfl)
   (hst:starEach (e::es) X.env=(false,eval e X.env)::starEach es X.env:=by rfl) (hpl:(backTo pos (starEach es X.env)).any (·.1)=false:=by rfl)
   (ht:eval (.Call (.Attribute o m apos) (e::es) [] pos) X.env=(do
     let ov<-eval o X.env
     standAt apos.atName
     let(f,first)<-holding [ov] (getMethod ov m pl)
     callWith pos f first (backTo pos (starEach (e::es) X.env)) (backToKw pos (keywordEach [] X.env))):=by rfl):
   PE X (.Call (.Attribute o m apos) (e::es) [] pos) (B6r C m sp dvs EH ta t):=by
 intro pins s σ H Q I h
 refine methodCall_KW (pl:=pl) (thn (he pins s σ H _ I h) fun u s1 hh_=>?_) ht
 obtain⟨x,H1,I1,rx,a,dx,fs,ex,ea,l,q⟩:=hh_
 subst ex
 obtain rfl:u=Value.ref a:=rx
 refine A2f I1 ea c hm l ?_
 refine callWith_K (first:=[.ref a]) (h₀:=X.base) I.ok.mod.kin hm.kp (thn (ha pos pins s1 σ H1 _ I1 q) fun us s2 ⟨vs,H2,I2,r,q2⟩=>⟨I2.kIn,?_⟩) hst hpl
 exact B0w (us:= .ref a::us) (vs:= .ref a::vs) (F.mono hj) hr hb hd hx hex I2 (.cons rfl r) q2
theorem A2e{pl:Sem Bool}(he:PE X o ta)(c:Cls X.K C)(hm:A8b X.K C m f)(F:B9 X.prog X.w X.K X.mg X.base j f fd ps sp)(hr:Y7 k X.A)(hb:Y6 X.K fd ps ds)(hd:G7 dvs ds)(hx:A1n X EH)
   (hj:j<=k:=by decide) (hex:X.ex=[]:=by rfl)
   (ht:eval (.Call (.Attribute o m apos) [] [] pos) X.env=(do
     let ov<-eval o X.env
     standAt apos.atName
     let(f,first)<-holding [ov] (getMethod ov m pl)
     callWith pos f first (backTo pos (starEach [] X.env)) (backToKw pos (keywordEach [] X.env))):=by rfl):
   PE X (.Call (.Attribute o m apos) [] [] pos) (B6r C m sp dvs EH ta B6y):=by
 intro pins s σ H Q I h
 refine methodCall_KW (pl:=pl) (thn (he pins s σ H _ I h) fun u s1 hh_=>?_) ht
 obtain⟨x,H1,I1,rx,a,dx,fs,ex,ea,l,q⟩:=hh_
 subst ex
 obtain rfl:u=Value.ref a:=rx
 refine A2f I1 ea c hm l ?_
 exact callWith_K0 (first:=[.ref a]) I1.kIn hm.kp (B0w (us:=[.ref a]) (vs:=[.ref a]) (F.mono hj) hr hb hd hx hex I1 (.cons rfl .nil) q)
theorem C8f{pins:List (Addr×Obj)}{σ:St}{H:Hp}{s:Shared}{Q:VK}{us:List Value}{vs:List V}(M:Mk X.K C f)(F:B9 X.prog X.w X.K X.mg X.base k f fd ps sp)(hr:Y7 (k+1) X.A)(hb:Y6 X.K fd ps ds)(hd:G7 dvs ds)
   (hx:A1n X EH) (hex:X.ex=[]) (I:Inv X pins σ H s) (r:G7 vs us)
   (h:∀x dx,H x=none ->H dx=none ->dx≠x ->sp (.ref x::(vs++dvs)) (upd (upd H dx (.own x)) x (.ins C dx [])) (fun v H2=>v= .non/\Q (.ref x) H2) (fun C d H'=>EH C d σ H')):
   wpAny (model X.prog X.w) X.A (call (.ref C) us) (EP X pins σ Q) X.xe s:=by
 have hq:=h (s.heap.objs.size+1) s.heap.objs.size (I.hok.fresh (Nat.le_succ _)) (I.hok.fresh (Nat.le_refl _)) (Nat.ne_of_lt (Nat.lt_succ_self _))
 have I2:=Inv.made (C:=C) I
 have r2:G7 (V.ref (s.heap.objs.size+1)::(vs++dvs)) (Value.ref (s.heap.objs.size+1)::(us++ds)):= .cons rfl (r.append hd)
 have hl:(Value.ref (s.heap.objs.size+1)::us++ds).length=ps.length:=by
   have e:=r2.length
   rw[F.len _ _ _ _ hq] at e
   exact e.symm
 refine wpAny_call (B8e (f:=f) I.kIn M.makes M.init (beq_iff_eq.mp M.fn) (codeAny_mono (F.run _ X.stack _ _ ⟨Value.ref (s.heap.objs.size+1)::us,[]⟩ (Value.ref (s.heap.objs.size+1)::(us++ds)) _ _ _ (hr.make C us [])
   (I2.env0.make C us []) (I2.hdH hx.hd) (hx.q.imp id fun z C d H'=>z C d σ H') (hb _ (Value.ref (s.heap.objs.size+1)::us) I2.kIn hl) r2 hq) fun r s' hq'=>?_))
 cases r with
 |error e=>exact G4s hx.c hex I2 hq'
 | ok fl=>
   cases fl with
   | ret u=>
     obtain⟨v,H',I3,rv,ev,q3⟩:=I2.after hq'
     subst ev
     exact⟨rv,⟨V.ref (s.heap.objs.size+1),H',I3,rfl,q3⟩⟩
   |next=>exact False.elim hq'
   |brk=>exact False.elim hq'
   |cont=>exact False.elim hq'
theorem A2w(M:Mk X.K C f)(F:B9 X.prog X.w X.K X.mg X.base j f fd ps sp)(hr:Y7 k X.A)(hm:X.mg x=some (.ref C))(hb:Y6 X.K fd ps ds)(hd:G7 dvs ds)(hx:A1n X EH)
   (ha:PA X (e::es) t) (hj:j+1<=k:=by decide) (hg:Gl X x:=by rfl) (hex:X.ex=[]:=by rfl) (hdb:(x==("__debug__":Str))=false:=by decide) (he:starEach (e::es) X.env=(false,eval e X.env)::starEach es X.env:=by rfl) (hpl:(backTo pos (starEach es X.env)).any (·.1)=false:=by rfl):
   PE X (.Call (.Name x p) (e::es) [] pos) (D3n C sp dvs EH t):=by
 intro pins s σ H Q I h
 refine wpAny_Call_Name_kw (Z9 I hg hm ?_ hdb)
 refine callWith_K (h₀:=X.base) I.ok.mod.kin M.kp (thn (ha pos pins s σ H _ I h) fun us s1 ⟨vs,H1,I1,r,q⟩=>⟨I1.kIn,?_⟩) he hpl
 exact C8f M F (hr.mono hj) hb hd hx hex I1 r q
end
theorem A9x{prog:Program}{w:World}{A:Around}{x:Addr}{ox:Obj}{vs:Array Value}(hh:A.handled=some (.ref x))(hd:ox.data= .fields vs)(h2:vs[2]?=some .none)(I ax:Addr)(hne:ax≠I)(hxI:x≠I)(items:Array Value):
   Walks prog w A I [I,ax,x] [I] items.size (fun i v=>items[i]?=some v) (fun i h=>h.IsListIter I ax i/\h.IsList ax items/\h.get? x=some ox) where
 sub:=fun b hb=>by simp at hb;simp[hb]
 frame:=fun _ _ _ st hk=>⟨st.1.at fun o e=>hk I (by simp) o e,st.2.1.at fun o e=>hk ax (by simp) o e,hk x (by simp) _ st.2.2⟩
 item:=fun i s Q E hi st hQ=>by
   refine wpAny_pyNext_list_item st.1 st.2.1 (x:=items[i]) (by simp[hi]) fun h' hit' hs'=>?_
   exact hQ _ h' s.toks (by simp[hi]) ⟨hit',st.2.1.extBut hs'.extBut hne,hs'.extBut x _ hxI st.2.2⟩ fun b o hb e=>hs'.extBut b o (fun h=>hb (by simp[h])) e
 done:=fun s Q E st hQ=>A3c (fun h' k=> .inr ⟨x,ox,vs,hh,k x _ hxI st.2.2,hd,h2⟩) st.1 st.2.1 (by simp) fun h' he'=>hQ h' s.toks fun b o hb e=>he' b o (fun h=>hb (by simp[h])) e
 self:=fun _ _ _ _ st hQ=>wpAny_pyIter_listiter st.1 hQ
theorem B2s{prog:Program}{w:World}{A:Around}{x:Addr}{ox:Obj}{vs:Array Value}(hh:A.handled=some (.ref x))(hd:ox.data= .fields vs)(h2:vs[2]?=some .none)(I ax:Addr)(hne:ax≠I)(hxI:x≠I)(items:Array Value):
   Walks prog w A I [I,ax,x] [I] items.size (fun i v=>items[i]?=some v) (fun i h=>h.IsTupleIter I ax i/\h.IsTuple ax items/\h.get? x=some ox) where
 sub:=fun b hb=>by simp at hb;simp[hb]
 frame:=fun _ _ _ st hk=>⟨st.1.at fun o e=>hk I (by simp) o e,st.2.1.at fun o e=>hk ax (by simp) o e,hk x (by simp) _ st.2.2⟩
 item:=fun i s Q E hi st hQ=>by
   refine wpAny_pyNext_tuple_item st.1 st.2.1 (x:=items[i]) (by simp[hi]) fun h' hit' hs'=>?_
   exact hQ _ h' s.toks (by simp[hi]) ⟨hit',st.2.1.extBut hs'.extBut hne,hs'.extBut x _ hxI st.2.2⟩ fun b o hb e=>hs'.extBut b o (fun h=>hb (by simp[h])) e
 done:=fun s Q E st hQ=>A1x (fun h' k=> .inr ⟨x,ox,vs,hh,k x _ hxI st.2.2,hd,h2⟩) st.1 st.2.1 (by simp) fun h' he'=>hQ h' s.toks fun b o hb e=>he' b o (fun h=>hb (by simp[h])) e
 self:=fun _ _ _ _ st hQ=>wpAny_pyIter_tupleiter st.1 hQ
section
variable{X:Cx}
theorem C7x(hd:Y0 X):A0y X (.builtin "any") (fun xs H Q=>∃(l:Addr) (bs:List Bool),xs=[.ref l]/\SqL X.K H l (bs.map V.bl)/\Q (.bl (bs.any id)) H):=by
 rcases hd with z|⟨x,ox,u2,vs2,hh,e2,d2,n2⟩
 . exact D1d z
 intro pins s σ H xs us Q I r h
 obtain⟨l,bs,rfl,hl,q⟩:=h
 obtain⟨u,rfl,ru⟩:=G7.one r
 cases ru
 obtain⟨its,rv,p,hz⟩:=I.list hl
 obtain⟨o,e,_⟩:=id p.isList
 have hlt:l<s.heap.objs.size:=Heap.lt_size e
 have hlen:its.length=bs.length:=by rw[<-rv.length,List.length_map]
 have ex:s.heap.get? x=some ox:=(I.hok x _ (I.base.frzs x ox u2 e2)).1
 refine call_any_walk (wpAny_pyIter_list p.isList ?_)
 refine⟨s.heap.objs.size,[s.heap.objs.size,l,x],[s.heap.objs.size],its.toArray.size,_,_,fun i=>(bs[i]?).getD false,rfl,A9x (A:=X.A.in1) hh d2 n2 _ l (Nat.ne_of_lt hlt) (Nat.ne_of_lt (Heap.lt_size ex)) its.toArray,⟨⟨_,Heap.get?_push_size _ rfl,rfl,rfl⟩,p.isList.push _,Heap.get?_push_of_some _ ex⟩,fun i v s' Q' E' hP hQ=>?_,fun h' tk hk=>?_⟩
 . have hP:its[i]?=some v:=by simpa using hP
   have hi:i<bs.length:=by rw[<-hlen];exact(List.getElem?_eq_some_iff.mp hP).1
   obtain⟨u',hu',ru'⟩:=rv.get (i:=i) (x:=V.bl bs[i]) (by simp[hi])
   rw[hP] at hu'
   cases hu'
   cases ru'
   have z:(bs[i]?).getD false=bs[i]:=by simp[hi]
   dsimp only at hQ
   rw[z] at hQ
   exact wpAny_truthy_bool hQ
 have z:((List.range its.toArray.size).any fun i=>(bs[i]?).getD false)=bs.any id:=by
   rw[List.size_toArray,hlen]
   exact LSm.range_any bs
 rw[z]
 exact⟨.bl (bs.any id),H,I.kept fun b x e=>hk b x (fun hm=>by rw[List.mem_singleton.mp hm] at e;exact Nat.lt_irrefl _ (Heap.lt_size e)) (Heap.get?_push_of_some _ e),rfl,q⟩
end
theorem D1m{prog:Program}{w:World}{A:Around}{E:Value ->Shared ->Prop}{s:Shared}{x:Addr}{ox:Obj}{vs:Array Value}(hh:A.handled=some (.ref x))(hd:ox.data= .fields vs)(h2:vs[2]?=some .none)(ex:s.heap.get? x=some ox){a b:Int}{t u:Tok}{Q:Value ->Shared ->Prop}
   (h:∀h' tk,(∀c o,s.heap.get? c=some o ->h'.get? c=some o) ->Q (if b>a then .int b u else .int a t) {s with heap:=h',toks:=tk}):
   wpAny (model prog w) A (call (.builtin "max") [.int a t,.int b u]) Q E s:=by
 have hT:(s.heap.push {cls:= .type "tuple",data:= .seq #[.int a t,.int b u]}).IsTuple s.heap.objs.size (intItems #[(a,t),(b,u)]):=⟨_,Heap.get?_push_size _ rfl,rfl,0,by simp[intItems]⟩
 refine call_max_two (wpAny_pyIter_tuple hT ?_)
 have hsz:(s.heap.push {cls:= .type "tuple",data:= .seq #[.int a t,.int b u]}).objs.size=s.heap.objs.size+1:=Heap.size_push ..
 have lx:x<s.heap.objs.size:=Heap.lt_size ex
 refine⟨_,[_,s.heap.objs.size,x],[_],_,_,_,_,rfl,B2s (A:=A.in1) hh hd h2 _ s.heap.objs.size (by rw[hsz];exact Nat.ne_of_lt (Nat.lt_succ_self _)) (by rw[hsz];exact Nat.ne_of_lt (Nat.lt_succ_of_lt lx)) (intItems #[(a,t),(b,u)]),
   ⟨⟨_,Heap.get?_push_size _ rfl,rfl,rfl⟩,hT.push _,Heap.get?_push_of_some _ (Heap.get?_push_of_some _ ex)⟩,fun c hc=>?_,by simp[intItems],CmpOf.ints_gt (numAt #[(a,t),(b,u)]) (fun _ _=>intItems_at),fun v h' tk hP hk=>?_⟩
 . show c<((s.heap.push _).push _).objs.size
   rw[Heap.size_push,hsz]
   simp only[List.mem_cons,List.not_mem_nil,or_false] at hc
   rcases hc with rfl|rfl|rfl
   . rw[hsz];exact Nat.lt_succ_self _
   . exact Nat.lt_succ_of_lt (Nat.lt_succ_self _)
   . exact Nat.lt_succ_of_lt (Nat.lt_succ_of_lt lx)
 have hold:∀c o,s.heap.get? c=some o ->h'.get? c=some o:=fun c o e=>by
   refine hk c o (fun hm=>?_) (Heap.get?_push_of_some _ (Heap.get?_push_of_some _ e))
   have e1:=List.mem_singleton.mp hm
   have:=Heap.lt_size e
   rw[e1,hsz] at this
   exact Nat.lt_irrefl _ (Nat.lt_of_succ_lt this)
 have hP':(intItems #[(a,t),(b,u)])[argBest (fun i j=>decide (numAt #[(a,t),(b,u)] i>numAt #[(a,t),(b,u)] j)) 1]?=some v:=by
   have hsz2:(intItems #[(a,t),(b,u)]).size-1=1:=by simp[intItems]
   rw[<-hsz2];exact hP
 have hv:v=if b>a then Value.int b u else Value.int a t:=by
   by_cases hba:b>a
   . have e:argBest (fun i j=>decide (numAt #[(a,t),(b,u)] i>numAt #[(a,t),(b,u)] j)) 1=1:=by simp[argBest,numAt,hba]
     rw[e] at hP'
     simpa[intItems,hba] using hP'.symm
   . have e:argBest (fun i j=>decide (numAt #[(a,t),(b,u)] i>numAt #[(a,t),(b,u)] j)) 1=0:=by simp[argBest,numAt,hba]
     rw[e] at hP'
     simpa[intItems,hba] using hP'.symm
 rw[hv]
 exact h h' tk hold
theorem C9z{prog:Program}{w:World}{A:Around}{E:Value ->Shared ->Prop}{s:Shared}{x:Addr}{ox:Obj}{vs:Array Value}(hh:A.handled=some (.ref x))(hd:ox.data= .fields vs)(h2:vs[2]?=some .none)(ex:s.heap.get? x=some ox){a b:Int}{t u:Tok}{Q:Value ->Shared ->Prop}
   (h:∀h' tk,(∀c o,s.heap.get? c=some o ->h'.get? c=some o) ->Q (if b<a then .int b u else .int a t) {s with heap:=h',toks:=tk}):
   wpAny (model prog w) A (call (.builtin "min") [.int a t,.int b u]) Q E s:=by
 have hT:(s.heap.push {cls:= .type "tuple",data:= .seq #[.int a t,.int b u]}).IsTuple s.heap.objs.size (intItems #[(a,t),(b,u)]):=⟨_,Heap.get?_push_size _ rfl,rfl,0,by simp[intItems]⟩
 refine call_min_two (wpAny_pyIter_tuple hT ?_)
 have hsz:(s.heap.push {cls:= .type "tuple",data:= .seq #[.int a t,.int b u]}).objs.size=s.heap.objs.size+1:=Heap.size_push ..
 have lx:x<s.heap.objs.size:=Heap.lt_size ex
 refine⟨_,[_,s.heap.objs.size,x],[_],_,_,_,_,rfl,B2s (A:=A.in1) hh hd h2 _ s.heap.objs.size (by rw[hsz];exact Nat.ne_of_lt (Nat.lt_succ_self _)) (by rw[hsz];exact Nat.ne_of_lt (Nat.lt_succ_of_lt lx)) (intItems #[(a,t),(b,u)]),
   ⟨⟨_,Heap.get?_push_size _ rfl,rfl,rfl⟩,hT.push _,Heap.get?_push_of_some _ (Heap.get?_push_of_some _ ex)⟩,fun c hc=>?_,by simp[intItems],CmpOf.ints_lt (numAt #[(a,t),(b,u)]) (fun _ _=>intItems_at),fun v h' tk hP hk=>?_⟩
 . show c<((s.heap.push _).push _).objs.size
   rw[Heap.size_push,hsz]
   simp only[List.mem_cons,List.not_mem_nil,or_false] at hc
   rcases hc with rfl|rfl|rfl
   . rw[hsz];exact Nat.lt_succ_self _
   . exact Nat.lt_succ_of_lt (Nat.lt_succ_self _)
   . exact Nat.lt_succ_of_lt (Nat.lt_succ_of_lt lx)
 have hold:∀c o,s.heap.get? c=some o ->h'.get? c=some o:=fun c o e=>by
   refine hk c o (fun hm=>?_) (Heap.get?_push_of_some _ (Heap.get?_push_of_some _ e))
   have e1:=List.mem_singleton.mp hm
   have:=Heap.lt_size e
   rw[e1,hsz] at this
   exact Nat.lt_irrefl _ (Nat.lt_of_succ_lt this)
 have hP':(intItems #[(a,t),(b,u)])[argBest (fun i j=>decide (numAt #[(a,t),(b,u)] i<numAt #[(a,t),(b,u)] j)) 1]?=some v:=by
   have hsz2:(intItems #[(a,t),(b,u)]).size-1=1:=by simp[intItems]
   rw[<-hsz2];exact hP
 have hv:v=if b<a then Value.int b u else Value.int a t:=by
   by_cases hba:b<a
   . have e:argBest (fun i j=>decide (numAt #[(a,t),(b,u)] i<numAt #[(a,t),(b,u)] j)) 1=1:=by simp[argBest,numAt,hba]
     rw[e] at hP'
     simpa[intItems,hba] using hP'.symm
   . have e:argBest (fun i j=>decide (numAt #[(a,t),(b,u)] i<numAt #[(a,t),(b,u)] j)) 1=0:=by simp[argBest,numAt,hba]
     rw[e] at hP'
     simpa[intItems,hba] using hP'.symm
 rw[hv]
 exact h h' tk hold
theorem A3t{X:Cx}(hd:Y0 X):A0y X (.builtin "max") (fun xs H Q=>∃i j,xs=[.int i,.int j]/\Q (.int (if j>i then j else i)) H):=by
 intro pins s σ H xs us Q I r h
 obtain⟨i,j,rfl,q⟩:=h
 obtain⟨u,w',rfl,⟨t,rfl⟩,⟨t',rfl⟩⟩:=B9j r
 have fin:∀h' tk,(∀c o,s.heap.get? c=some o ->h'.get? c=some o) ->EP X pins σ Q (if j>i then .int j t' else .int i t) {s with heap:=h',toks:=tk}:=fun h' tk k=>⟨_,H,I.kept k,(by
   by_cases hj:j>i
   . rw[if_pos hj,if_pos hj];exact⟨_,rfl⟩
   . rw[if_neg hj,if_neg hj];exact⟨_,rfl⟩),q⟩
 rcases hd with z|⟨x,ox,u2,vs2,hh,e2,d2,n2⟩
 . exact max_two_ints z fin
 exact D1m hh d2 n2 (I.hok x _ (I.base.frzs x ox u2 e2)).1 fin
theorem B3d{X:Cx}(hd:Y0 X):A0y X (.builtin "min") (fun xs H Q=>∃i j,xs=[.int i,.int j]/\Q (.int (if j<i then j else i)) H):=by
 intro pins s σ H xs us Q I r h
 obtain⟨i,j,rfl,q⟩:=h
 obtain⟨u,w',rfl,⟨t,rfl⟩,⟨t',rfl⟩⟩:=B9j r
 have fin:∀h' tk,(∀c o,s.heap.get? c=some o ->h'.get? c=some o) ->EP X pins σ Q (if j<i then .int j t' else .int i t) {s with heap:=h',toks:=tk}:=fun h' tk k=>⟨_,H,I.kept k,(by
   by_cases hj:j<i
   . rw[if_pos hj,if_pos hj];exact⟨_,rfl⟩
   . rw[if_neg hj,if_neg hj];exact⟨_,rfl⟩),q⟩
 rcases hd with z|⟨x,ox,u2,vs2,hh,e2,d2,n2⟩
 . exact min_two_ints z fin
 exact C9z hh d2 n2 (I.hok x _ (I.base.frzs x ox u2 e2)).1 fin
theorem B6j{X:Cx}{tg iter:Expr}{body:List Stmt}{wi:TI}{g:TG}{tb:TS}{pos:Pos}(hp:PassesOwn (model X.prog X.w) X.A X.env X.xe)(hd:Y0 X)(hi:PIH X tg iter wi)(hg:PG X tg g)(hb:PSs X body tb)
   (hs:∀x,foldedSetIterable iter X.env x=pure x:=by intro _;rfl):PS X (.For tg iter body [] pos) (G9z wi g tb):=by
 intro pins s σ H D I h
 refine wpAny_For (thn (hi pins s σ H _ I h) fun v s1 h1=>thn h1 fun itv s2 h2=>?_) hs
 obtain⟨it,tn,J,H2,e,I2,T,st2,f2,W,⟨m0,w0⟩,turn⟩:=h2
 subst e
 have stat:∀{H':Hp},H' it=none ->A0t X pins H' it:=fun hn=>⟨hn,f2.2⟩
 have statL:∀{H':Hp},H' it=none ->∀b∈ [it],A0t X pins H' b:=fun hn b hb=>by rw[List.mem_singleton.mp hb];exact stat hn
 refine codeAny_forLoop_any (fun n s'=>∃i σ' H',Inv X pins σ' H' s'/\tn i s'.heap/\H' it=none/\W i n σ' H') ?_ m0 ⟨0,σ,H2,I2,st2,f2.1,w0⟩
 rintro n s3 ⟨i,σ3,H3,I3,st3,fr3,w3⟩
 rcases turn i n σ3 H3 w3 with⟨stop,qn⟩|⟨go,N,hN,step⟩
 . refine wpAny_passesOwn hp (thn (T.done X rfl rfl rfl hd i pins s3 σ3 H3 X.xe I3 (stat fr3) st3 stop) fun r s4 ⟨hr,I4⟩=>?_)
   subst hr
   exact wpAny_execs_nil ⟨σ3,H3,I4,qn⟩
 refine wpAny_passesOwn hp (thn (T.item X rfl rfl rfl hd i pins s3 σ3 H3 X.xe I3 (stat fr3) st3 go) fun r s4 ⟨u,hr,h4⟩=>?_)
 subst hr
 refine wpAny_passesOwn hp (thn h4 fun _ s5 hh_=>?_)
 obtain⟨x,I5,r5,y5,st5⟩:=hh_
 have I5':=I5.pinned (statL fr3) (fun b hb=>by rw[List.mem_singleton.mp hb];exact T.obj _ _ st5)
 refine wpAny_passesOwn hp (thn (hg _ s5 σ3 H3 x u _ I5' r5 (step x H3 y5)) fun _ s6 hh_=>?_)
 obtain⟨σ6,H6,I6,q6⟩:=hh_
 refine wpAny_passesOwn hp (thn (hb _ s6 σ6 H6 _ I6 q6) fun f s7 q7=>?_)
 have again:∀{σ7:St} {H7:Hp},Inv X (pins++A0w [it] s5.heap) σ7 H7 s7 ->N σ7 H7 ->∃m,m<n/\∃i σ' H',Inv X pins σ' H' s7/\tn i s7.heap/\H' it=none/\W i m σ' H':=fun{σ7 H7} I7 n7=>by
   obtain⟨m',hm,w7⟩:=hN σ7 H7 n7
   refine⟨m',hm,i+1,σ7,H7,I7.unpinned,T.keep _ _ _ st5 fun o e=>(I7.pin (it,o) (List.mem_append_right _ (List.mem_append_right _ (A0m (List.mem_singleton.mpr rfl) e)))).1,?_,w7⟩
   obtain⟨o,e,d⟩:=T.obj _ _ st5
   exact(I7.pin (it,o) (List.mem_append_right _ (List.mem_append_right _ (A0m (List.mem_singleton.mpr rfl) e)))).2.1
 cases f with
 |next=>obtain⟨σ7,H7,I7,n7⟩:=q7;exact again I7 n7
 |cont=>obtain⟨σ7,H7,I7,n7⟩:=q7;exact again I7 n7
 |brk=>obtain⟨σ7,H7,I7,q7⟩:=q7;exact⟨σ7,H7,I7.unpinned,q7⟩
 |ret v=>obtain⟨x7,σ7,H7,I7,r7,q7⟩:=q7;exact⟨x7,σ7,H7,I7.unpinned,r7,q7⟩
theorem B8k{M:Model}{A:Around}{E:Value ->Shared ->Prop}{s:Shared}{env:Env}{v:Expr}{pos:Pos}{Q:Flow ->Shared ->Prop}(h:wpAny M A (eval v env) (fun _ _=>False) E s):wpAny M A (exec (.Raise (some v) none pos) env) Q E s:=by
 rw[arm_exec_Raise]
 refine wpAny_bind (wpAny_standAt ?_)
 show wpAny M A (raiseStmt env (some (eval v env>>=fun u=>standAt pos>>=fun _=>pure u)) none) Q E s
 unfold raiseStmt
 exact wpAny_bind (wpAny_bind (wpAny_mono h (fun _ _ z=>z.elim) fun _ _ z=>z))
theorem C3y{X:Cx}{x:Str}{p pos:Pos}{e:Expr}{es:List Expr}{C:Addr}{pins:List (Addr×Obj)}{σ:St}{H:Hp}{s:Shared}(I:Inv X pins σ H s)(hg:Gl X x)(hm:X.mg x=some (.ref C))(hdb:(x==("__debug__":Str))=false)
   (he:starEach (e::es) X.env=(false,eval e X.env)::starEach es X.env) (h:wpAny (model X.prog X.w) X.A (spliced (backTo pos (starEach (e::es) X.env))) (fun _ _=>False) X.xe s):
   wpAny (model X.prog X.w) X.A (eval (.Call (.Name x p) (e::es) [] pos) X.env) (fun _ _=>False) X.xe s:=by
 refine wpAny_Call_Name_kw (Z9 I hg hm ?_ hdb)
 unfold callWith
 rw[he] at h ⊢
 exact wpAny_bind (wpAny_holding (Calls.evalArgs_plain (wpAny_mono h (fun _ _ z=>z.elim) fun _ _ z=>z)))
section
variable{X:Cx}{x:Str}{p cpos pos:Pos}{e:Expr}{es:List Expr}{t:TA}{C:Addr}{bmB:List Value}{B newId initId:String}{EH:EK}
theorem A1k(hg:Gl X x)(hm:X.mg x=some (.ref C))(q:excIn X.K C bmB newId=true)(FB:ExcBaseFacts B newId initId bmB)(hx:A1n X EH)(ha:PA X (e::es) t)(hex:X.ex=[]:=by rfl)
   (hdb:(x==("__debug__":Str))=false:=by decide) (he:starEach (e::es) X.env=(false,eval e X.env)::starEach es X.env:=by rfl) (hpl:(backTo cpos (starEach es X.env)).any (·.1)=false:=by rfl):
   PS X (.Raise (some (.Call (.Name x p) (e::es) [] cpos)) none pos) (D0g C EH t):=by
 rcases hx.q with z|z
 . exact D2p hg hm q FB z hx.c ha hex hdb he hpl
 intro pins s σ H D I h
 exact B8k (C3y I hg hm hdb he (wpAny_mono (ha cpos pins s σ H _ I h) (fun us s2 ⟨vs,H1,I1,r,_,q⟩=>z _ _ _ _ q) fun _ _ y=>y))
end
section
variable{X:Cx}{x f:Str}{p cpos pos:Pos}{e:Expr}{t:TA}{C fI:Addr}{fdI:FuncData}{ps:List Str}{EH:EK}{j k:Nat}
theorem C1j(hm:X.mg x=some (.ref C))(F:C3d X.K C fI)(G:G6 X.prog X.w X.K X.mg X.base CX0 j fI fdI ps (B2g C f))(bI:Y6 X.K fdI ps [])(hr:Y7 k X.A)(hx:A1n X EH)(ha:PA X [e] t)(hj:j+1<=k:=by decide)(hg:Gl X x:=by rfl)(hex:X.ex=[]:=by rfl)
   (hdb:(x==("__debug__":Str))=false:=by decide) (he:starEach [e] X.env=(false,eval e X.env)::starEach [] X.env:=by rfl) (hpl:(backTo cpos (starEach [] X.env)).any (·.1)=false:=by rfl):
   PS X (.Raise (some (.Call (.Name x p) [e] [] cpos)) none pos) (C4e C f EH t):=by
 rcases hx.q with z|z
 . exact C7e hm F G bI ⟨z,hr.dp,hr.un⟩ hx.c ha hj hg hex hdb he hpl
 intro pins s σ H D I h
 refine B8k (C3y I hg hm hdb he (wpAny_mono (ha cpos pins s σ H _ I h) (fun us s2 hh_=>?_) fun _ _ y=>y))
 obtain⟨vs,H1,I1,r,v,_,q⟩:=hh_
 have n:=I1.hok.fresh (Nat.le_refl s2.heap.objs.size)
 exact z _ _ _ _ (q s2.heap.objs.size (upd H1 s2.heap.objs.size (.xd [(f,v)])) (A8.upd n) n A4)
end
theorem Y7.units{k:Nat}{A:Around}(r:Y7 k A):A.units+64<cLine:=r.u64
theorem B9.up{P:Program}{w:World}{K:Frag}{mg:Str ->Option Value}{base:Heap}{k:Nat}{f:Addr}{fd:FuncData}{ps:List Str}{sp:Sp}(F:B9 P w K mg base k f fd ps sp):B9 P w K mg base k f fd ps sp:=F
end L2
namespace TR
open PySem L2 PySem.W PyProof.Rows
def A8d (P:Program) (w:World) (K:Frag) (mg:Str ->Option Value) (base:Heap) (C:Addr) (m:Str) (k:Nat) (ps:List Str) (sp:Sp):Prop:=∃f fd,A8b K C m f/\B9 P w K mg base k f fd ps sp/\Y6 K fd ps []
theorem A8d.has{P:Program}{w:World}{K:Frag}{mg:Str ->Option Value}{base:Heap}{C:Addr}{m:Str}{k:Nat}{ps:List Str}{sp:Sp}(h:A8d P w K mg base C m k ps sp):Has P w K mg base C m k ps sp:=by
 obtain⟨f,fd,a,b,c⟩:=h
 exact⟨f,fd,a,b.fn,c⟩
end TR
namespace L2
open PySem PySem.Spec PyProof.Rows PySem.W
def G9q (K:Frag) (R:Addr) (i:Nat) (tb:EK ->TS) (ts:Addr ->TS) (te:TS):TS:=fun D σ H=>
 tb (fun C dd σ' H'=>subIn K C (.ref R)=some true/\∀(a t T:Addr),H' a=none ->
   ts a {nx:=fun σ2 H2=>D.nx (σ2.set i none) H2,rt:=D.rt,bk:=fun σ2 H2=>D.bk (σ2.set i none) H2,ct:=fun σ2 H2=>D.ct (σ2.set i none) H2}
     (σ'.set i (some (.ref a))) (upd H' a (.frz (A0c C t dd (.ref T)) (.own a)))) {D with nx:=te D} σ H
section
variable{X:Cx}{x n:Str}{np hpos pos:Pos}{R:Addr}{i:Nat}{body suite:List Stmt}{b₀:Stmt}{tb:EK ->TS}{ts:Addr ->TS}
theorem D8r{oe:List Stmt}{te:TS}(B:G2j X)(hg:Gl X x)(hm:X.mg x=some (.ref R))(c:B3u X.K R)(hN:X.N.Nodup)(hi:X.N[i]?=some n)(hk:X.env.scope.names.lookup n=some .local)
   (hb:∀pins Ew EHb,Y1 (X.hold pins Ew) EHb ->PSs (X.hold pins Ew) body (tb EHb)) (hs:∀pins a,PSs (X.hnd pins a) (b₀::suite) (ts a)) (he:PSs X oe te)
   (hdb:(x==("__debug__":Str))=false:=by decide) (hf:X.fn n=true\/X.env.scope.names.lookup n=some .local:=by first|exact .inl rfl|exact .inr rfl|assumption):
   PS X (.Try body [.ExceptHandler (some (.Name x np)) (some n) (b₀::suite) hpos] oe [] pos) (G9q X.K R i tb ts te):=by
 intro pins s σ H D I h
 refine wpAny_Try_except ?_
 refine wpAny_mono (hb pins _ _ ?cat [] s σ H {D with nx:=te D} I.hold h) (fun f s1 hf1=>?_) (fun e s1 he=>he)
 case cat=>
   intro pins' σ' H' s' a t C dd I' F' hE
   obtain⟨hsub,hE⟩:=hE
   show wpAny (model X.prog X.w) X.A (noteFrame (.ref a) X.env) _ X.xe s'
   have J:=I'.unhold
   have F:=F'.unhold
   refine B1d B J F fun s2 J2 F2=>A4r J2 F2 fun s3 J3 F3=>?_
   obtain⟨na,T,oT,ts',e3,ne3,nT3,eT3,dT3,h33⟩:=id F3
   refine wpAny_handleBy_cons (codeAny_handlers_test ?_) (by intro z;cases z)
   have K3:Inv (X.hnd pins a) [] σ' H' s3:=J3.hnd
   refine Z9 K3 hg hm ?_ hdb
   refine B4r J3.kIn e3 rfl c hsub ?_
   show codeAny _ _ _ _ _
   refine codeAny_handlers_suite_as ?_
   refine A4r J3 F3 fun s4 J4 F4=>?_
   obtain⟨na4,T4,oT4,ts4,e4,_⟩:=id F4
   have J5:=J4.track na4 e4
   refine A2g (v:= .ref a) J5 hN hi (.inl hk) rfl (fun s5 J6=>?_) hf
   refine wpAny_mono (hs pins a [] s5 _ _ _ J6.hnd (hE a t T4 na4.un)) (fun f s6 hf6=>?_) (fun _ _ z=>z.elim)
   have fin:∀{σ6:St} {H6:Hp} {Q6:Unit ->Shared ->Prop},Inv (X.hnd pins a) [] σ6 H6 s6 ->(∀s7,Inv X pins (σ6.set i none) H6 s7 ->Q6 () s7) ->
       wpAny (model X.prog X.w) X.A (do bindName X.env n .none;unbindBehindTheSuite X.env n hpos) Q6 X.xe s6:=by
     intro σ6 H6 Q6 K6 k6
     have L6:=K6.unhnd J6.ok
     refine wpAny_bind (wpAny_bindName (A2g (v:= .non) L6 hN hi (.inl hk) rfl (fun s7 J7=>?_) hf))
     unfold unbindBehindTheSuite
     have hlen:i<σ6.length:=by rw[L6.len];exact(List.getElem?_eq_some_iff.mp hi).1
     refine wpAny_onRaise (B4p J7 hN hi hk (List.getElem?_set_self hlen) fun s8 J8=>k6 s8 ?_)
     rw[List.set_set] at J8
     exact J8
   cases f with
   |next=>obtain⟨σ6,H6,K6,q⟩:=hf6;exact fin K6 fun s7 J7=>⟨_,_,J7,q⟩
   |brk=>obtain⟨σ6,H6,K6,q⟩:=hf6;exact fin K6 fun s7 J7=>⟨_,_,J7,q⟩
   |cont=>obtain⟨σ6,H6,K6,q⟩:=hf6;exact fin K6 fun s7 J7=>⟨_,_,J7,q⟩
   |ret u=>obtain⟨v,σ6,H6,K6,r,q⟩:=hf6;exact fin K6 fun s7 J7=>⟨v,_,_,J7,r,q⟩
 cases f with
 | next=>
   obtain⟨σ1,H1,I1,q1⟩:=SP.unhold hf1
   exact he pins s1 σ1 H1 D I1 q1
 |brk=>exact SP.unhold hf1
 |cont=>exact SP.unhold hf1
 |ret u=>exact SP.unhold hf1
end
def D8y (a C:Addr) (m:Str) (sp:Sp) (dvs:List V) (ta:TE) (t:TA):TE:=fun σ H Q=>ta σ H fun x H1=>∃a' dx fs,x= .ref a'/\H1 a'=some (.ins C dx fs)/\fs.lookup m=none/\
 t σ H1 fun vs H2=>(∃o u fs,H2 a=some (.frz o u)/\o.data= .fields fs/\fs[2]?=some .none)/\sp (x::(vs++dvs)) H2 Q E0
section
variable{X:Cx}{k j:Nat}{f C:Addr}{fd:FuncData}{ps:List Str}{sp:Sp}{dvs:List V}{ds:List Value}{m:Str}{pos apos:Pos}{e o:Expr}{es:List Expr}{ta:TE}{t:TA}
theorem D8v{a:Addr}{pins:List (Addr×Obj)}{σ:St}{H:Hp}{s:Shared}{Q:VK}{us:List Value}{vs:List V}(hA:X.A.handled=some (.ref a))(F:B5u X.prog X.w X.K X.mg X.base k f fd ps sp)(hr:Y7 k X.A)(hb:Y6 X.K fd ps ds)(hd:G7 dvs ds)
   (I:Inv X pins σ H s) (r:G7 vs us) (hh:∃o u fs,H a=some (.frz o u)/\o.data= .fields fs/\fs[2]?=some .none) (h:sp (vs++dvs) H Q E0):wpAny (model X.prog X.w) X.A (call (.ref f) us) (EP X pins σ Q) X.xe s:=by
 have r2:G7 (vs++dvs) (us++ds):=r.append hd
 have hl:(us++ds).length=ps.length:=by rw[<-r2.length];exact F.len _ _ _ _ h
 obtain⟨o,u,fs,e1,e2,e3⟩:=hh
 refine wpAny_call (codeAny_mono (F.run X.A X.stack s H ⟨us,[]⟩ (us++ds) (vs++dvs) Q hr I.env0 (.inr ⟨a,o,u,fs,hA,e1,e2,e3⟩) (hb s us I.kIn hl) r2 h) fun r s' hq=>?_)
 cases r with
 |error e=>exact hq.elim
 | ok fl=>
   cases fl with
   |ret u=>exact I.after hq
   |next=>exact False.elim hq
   |brk=>exact False.elim hq
   |cont=>exact False.elim hq
theorem C4w{a:Addr}{pl:Sem Bool}(hA:X.A.handled=some (.ref a))(he:PE X o ta)(c:Cls X.K C)(hm:A8b X.K C m f)(F:B5u X.prog X.w X.K X.mg X.base j f fd ps sp)(hr:Y7 k X.A)(hb:Y6 X.K fd ps ds)(hd:G7 dvs ds)(ha:PA X (e::es) t)
   (hj:j<=k:=by decide)
   (hst:starEach (e::es) X.env=(false,eval e X.env)::starEach es X.env:=by rfl) (hpl:(backTo pos (starEach es X.env)).any (·.1)=false:=by rfl)
   (ht:eval (.Call (.Attribute o m apos) (e::es) [] pos) X.env=(do
     let ov<-eval o X.env
     standAt apos.atName
     let(f,first)<-holding [ov] (getMethod ov m pl)
     callWith pos f first (backTo pos (starEach (e::es) X.env)) (backToKw pos (keywordEach [] X.env))):=by rfl):
   PE X (.Call (.Attribute o m apos) (e::es) [] pos) (D8y a C m sp dvs ta t):=by
 intro pins s σ H Q I h
 refine methodCall_KW (pl:=pl) (thn (he pins s σ H _ I h) fun u s1 hh_=>?_) ht
 obtain⟨x,H1,I1,rx,a',dx,fs,ex,ea,l,q⟩:=hh_
 subst ex
 obtain rfl:u=Value.ref a':=rx
 refine A2f I1 ea c hm l ?_
 refine callWith_K (first:=[.ref a']) (h₀:=X.base) I.ok.mod.kin hm.kp (thn (ha pos pins s1 σ H1 _ I1 q) fun us s2 ⟨vs,H2,I2,r,q2⟩=>⟨I2.kIn,?_⟩) hst hpl
 exact D8v (a:=a) (us:= .ref a'::us) (vs:= .ref a'::vs) hA ⟨F.len,fun A outer s H args us vs Q hr=>F.run A outer s H args us vs Q (hr.mono hj)⟩ hr hb hd I2 (.cons rfl r) q2.1 q2.2
end
section
variable{X:Cx}{j k:Nat}{f C:Addr}{fd:FuncData}{ps:List Str}{sp:Sp}{dvs:List V}{ds:List Value}{x m:Str}{p pos apos:Pos}{e o:Expr}{es:List Expr}{ta:TE}{t:TA}{st:Stmt}
theorem D0f(hk:Y0 X){pins:List (Addr×Obj)}{σ:St}{H:Hp}{s:Shared}{Q:VK}{us:List Value}{vs:List V}(F:B9 X.prog X.w X.K X.mg X.base k f fd ps sp)(hr:Y7 k X.A)(hb:Y6 X.K fd ps ds)(hd:G7 dvs ds)
   (I:Inv X pins σ H s) (r:G7 vs us) (h:sp (vs++dvs) H Q (fun C d H'=>EKF C d σ H')):wpAny (model X.prog X.w) X.A (call (.ref f) us) (EP X pins σ Q) X.xe s:=by
 have r2:G7 (vs++dvs) (us++ds):=r.append hd
 have hl:(us++ds).length=ps.length:=by rw[<-r2.length];exact F.len _ _ _ _ h
 refine wpAny_call (codeAny_mono (F.run X.A X.stack s H ⟨us,[]⟩ (us++ds) (vs++dvs) Q _ hr I.env0 (I.hdH hk) (.inr fun _ _ _ z=>z) (hb s us I.kIn hl) r2 h) fun r s' hq=>?_)
 cases r with
 | error e=>
   obtain⟨a,t,C,dd,H',_,_,_,_,_,hE,_⟩:=hq
   exact False.elim hE
 | ok fl=>
   cases fl with
   |ret u=>exact I.after hq
   |next=>exact False.elim hq
   |brk=>exact False.elim hq
   |cont=>exact False.elim hq
theorem D9r(hk:Y0 X)(D:Def X.K X.mg x ps st f fd)(F:B9 X.prog X.w X.K X.mg X.base j f fd ps sp)(hr:Y7 k X.A)(ha:PA X (e::es) t)(hj:j<=k:=by decide)(hg:Gl X x:=by rfl)(hdb:(x==("__debug__":Str))=false:=by decide)
   (he:starEach (e::es) X.env=(false,eval e X.env)::starEach es X.env:=by rfl) (hpl:(backTo pos (starEach es X.env)).any (·.1)=false:=by rfl):PE X (.Call (.Name x p) (e::es) [] pos) (A2v sp [] EKF t):=by
 intro pins s σ H Q I h
 refine wpAny_Call_Name_kw (Z9 I hg D.g ?_ hdb)
 refine PySem.W.callWith_K (h₀:=X.base) I.ok.mod.kin D.F.kp (thn (ha pos pins s σ H _ I h) fun us s1 ⟨vs,H1,I1,r,q⟩=>⟨I1.kIn,?_⟩) he hpl
 exact D0f hk (F.mono hj) hr D.b .nil I1 r q
end
theorem C6s{X:Cx}(hd:Y0 X):A0y X (.builtin "all") (fun xs H Q=>∃(l:Addr) (bs:List Bool),xs=[.ref l]/\SqL X.K H l (bs.map V.bl)/\Q (.bl (bs.all id)) H):=by
 rcases hd with z|⟨x,ox,u2,vs2,hh,e2,d2,n2⟩
 . exact B8y z
 intro pins s σ H xs us Q I r h
 obtain⟨l,bs,rfl,hl,q⟩:=h
 obtain⟨u,rfl,ru⟩:=G7.one r
 cases ru
 obtain⟨its,rv,p,hz⟩:=I.list hl
 obtain⟨o,e,_⟩:=id p.isList
 have hlt:l<s.heap.objs.size:=Heap.lt_size e
 have hlen:its.length=bs.length:=by rw[<-rv.length,List.length_map]
 have ex:s.heap.get? x=some ox:=(I.hok x _ (I.base.frzs x ox u2 e2)).1
 refine call_all_walk (wpAny_pyIter_list p.isList ?_)
 refine⟨s.heap.objs.size,[s.heap.objs.size,l,x],[s.heap.objs.size],its.toArray.size,_,_,fun i=>(bs[i]?).getD true,rfl,A9x (A:=X.A.in1) hh d2 n2 _ l (Nat.ne_of_lt hlt) (Nat.ne_of_lt (Heap.lt_size ex)) its.toArray,⟨⟨_,Heap.get?_push_size _ rfl,rfl,rfl⟩,p.isList.push _,Heap.get?_push_of_some _ ex⟩,fun i v s' Q' E' hP hQ=>?_,fun h' tk hk=>?_⟩
 . have hP:its[i]?=some v:=by simpa using hP
   have hi:i<bs.length:=by rw[<-hlen];exact(List.getElem?_eq_some_iff.mp hP).1
   obtain⟨u',hu',ru'⟩:=rv.get (i:=i) (x:=V.bl bs[i]) (by simp[hi])
   rw[hP] at hu'
   cases hu'
   cases ru'
   have z:(bs[i]?).getD true=bs[i]:=by simp[hi]
   dsimp only at hQ
   rw[z] at hQ
   exact wpAny_truthy_bool hQ
 have z:((List.range its.toArray.size).all fun i=>(bs[i]?).getD true)=bs.all id:=by
   rw[List.size_toArray,hlen]
   exact LSm.range_all bs
 rw[z]
 exact⟨.bl (bs.all id),H,I.kept fun b x e=>hk b x (fun hm=>by rw[List.mem_singleton.mp hm] at e;exact Nat.lt_irrefl _ (Heap.lt_size e)) (Heap.get?_push_of_some _ e),rfl,q⟩
section
variable{X:Cx}
def G1e:V ->List V ->Hp ->VK ->Prop:=fun x vs H Q=>∃d kvs,x= .ref d/\vs=[]/\H d=some (.dK kvs)/\Q .non (upd H d (.dK []))
theorem C6y:MtR X "dict.clear" G1e:=by
 intro pins s σ H x vs v us Q I rx rv h
 obtain⟨d,kvs,rfl,rfl,hd,q⟩:=h
 cases rx
 have hus:=rv.zero
 subst hus
 obtain⟨z1,lo1,vs1,r1,D1⟩:=(show Z2 X.prog X.w H s.heap d (.dK kvs) from I.hok d _ hd)
 refine call_meetsIn PySem.F.slot_dict_clear D1.typeIs PySem.F.entry_dict_clear (PySem.F.args_dict_clear_1 _) (meets_dict_clear (A0j X.prog X.w) d) ⟨vs1,D1,by rw[<-KV.length r1];exact z1,fun h' e1 sb=>?_⟩
 refine⟨.non,_,I.write (x:=d) (e:=d) (o:= .dK []) (h':=h') (t':=s.toks) (by rw[hd];exact trivial) (.inl rfl) (fun b ob hb e=>sb.extBut b ob hb e) ?_ ⟨Nat.zero_le _,lo1,[],.nil,e1⟩,rfl,q⟩
 obtain⟨ob,_,_,e,_⟩:=e1
 exact⟨ob,e⟩
end
section
variable{X:Cx}
theorem G9k{a b:Int}(a0:0<=a)(a1:a<=1)(b0:0<=b)(b1:b<=1):Builtin.bitXor a b=if a=b then 0 else 1:=by
 rcases(by omega:a=0\/a=1) with rfl|rfl<;>rcases(by omega:b=0\/b=1) with rfl|rfl<;>decide+kernel
def J3y (K:Frag):R2:=fun x y H Q=>∃d es,RdD K H x d/\RdD K H y (.list es)/\PyData.canLayAll0 es=true/\d.canLay0=true/\d.depth<=60/\Q (.bl (es.any fun e=>PyData.eqv e d)) H
theorem G4q(hu:X.A.units+64<cLine):OpR X (compareOp .In) (J3y X.K):=by
 intro pins s σ H x y v u Q I rx ry h
 obtain⟨d,es,hx,hy,ce,cd,dd,q⟩:=h
 obtain⟨as,z⟩:=hx.reads I rx
 obtain⟨bs,z'⟩:=hy.reads I ry
 exact SeqAt.in_list_reads z' z ce cd (Nat.lt_of_le_of_lt (Nat.add_le_add_left (Nat.le_trans (Nat.min_le_right _ _) dd) _) (by omega)) ⟨.bl _,H,I,rfl,q⟩
end
theorem B8j{x:Str}{u:Tok}{n:Int}{M:Model}{A:Around}{E:Value ->Shared ->Prop}{s:Shared}{Q:Value ->Shared ->Prop}(hd:s.heap.NoDigits)(hl:x.length<=sizeLine)(hn:PySem.intText? x=some n)(h:Q (.int n s.toks) {s with toks:=s.toks+1}):
   wpAny M A (Builtin.«int.__new__» { pos := [.type "int", .str x u] }) (fun fin s' => ∃ v, fin = Fin.done (Flow.ret v) /\ Q v s') E s := by
 have hr:=(readAny x hl).resolve_right (fun z=>by rw[hn] at z;exact absurd z.1 (by simp))
 obtain⟨m,h1,h2,h3⟩:=hr
 rw[hn] at h1
 cases h1
 by_cases hs:(numSeenOf x).length<=640
 . have hk:(numLimitOf x)=0:=if_pos hs
   rw[hk] at h3
   refine wpAny_bind (wpAny_pure ?_)
   refine wpAny_ite_false rfl ?_
   refine wpAny_bind (wpAny_of_eq F.conv_sub_int ?_)
   refine wpAny_ite_false rfl ?_
   refine wpAny_bind (wpAny_of_eq F.madeHere_int ?_)
   refine wpAny_ite_false rfl ?_
   refine wpAny_ite_false rfl ?_
   refine wpAny_bind (wpAny_pure ?_)
   refine wpAny_bind (wpAny_bind (wpAny_bind (wpAny_specialOf_val rfl KIN.str_int ?_)))
   refine wpAny_pure ?_
   refine wpAny_bind (wpAny_specialOf_val rfl KIN.str_idx ?_)
   refine wpAny_ite_false rfl ?_
   refine wpAny_bind (wpAny_specialOf_val rfl KIN.str_trunc ?_)
   refine wpAny_bind (wpAny_bind (wpAny_pure ?_))
   refine wpAny_pure ?_
   exact KIN.wp_text hs h3 h2 (wpAny_ite_true rfl (wpAny_pure ⟨_,rfl,h⟩))
 have hk:(numLimitOf x)=4300:=if_neg hs
 rw[hk] at h3
 obtain⟨mc,ns,nd⟩:=hd
 refine wpAny_bind (wpAny_pure ?_)
 refine wpAny_ite_false rfl ?_
 refine wpAny_bind (wpAny_of_eq F.conv_sub_int ?_)
 refine wpAny_ite_false rfl ?_
 refine wpAny_bind (wpAny_of_eq F.madeHere_int ?_)
 refine wpAny_ite_false rfl ?_
 refine wpAny_ite_false rfl ?_
 refine wpAny_bind (wpAny_pure ?_)
 refine wpAny_bind (wpAny_bind (wpAny_bind (wpAny_specialOf_val rfl KIN.str_int ?_)))
 refine wpAny_pure ?_
 refine wpAny_bind (wpAny_specialOf_val rfl KIN.str_idx ?_)
 refine wpAny_ite_false rfl ?_
 refine wpAny_bind (wpAny_specialOf_val rfl KIN.str_trunc ?_)
 refine wpAny_bind (wpAny_bind (wpAny_pure ?_))
 refine wpAny_pure ?_
 refine wpAny_ite_false (decide_eq_false hs) ?_
 refine wpAny_bind (wpAny_bind (wpAny_nsGet ns ?_))
 rw[nd]
 refine wpAny_pure ?_
 have h3':=h3
 have h2':=h2
 unfold numSeenOf numTextOf at h3' h2'
 dsimp only
 rw[h3']
 refine wpAny_ite_true (decide_eq_true h2') (wpAny_mkInt ?_)
 exact wpAny_ite_true rfl (wpAny_pure ⟨_,rfl,h⟩)
section
variable{X:Cx}
theorem B2p(hd:X.base.NoDigits):A0y X (.type "int") (fun xs H Q=>∃z n,xs=[.str z]/\PySem.intText? z=some n/\z.length<=sizeLine/\Q (.int n) H):=by
 intro pins s σ H xs us Q I r h
 obtain⟨z,n,rfl,h1,h2,q⟩:=h
 obtain⟨u,rfl,t,rfl⟩:=A7q r
 have nd:s.heap.NoDigits:=hd.keeps I.bk
 refine call_int_1 (S:=fun A R s'=>s'=s/\R (.ok (.ret (.int n s.toks))) {s with toks:=s.toks+1}) ?_ ⟨rfl,?_⟩
 . rintro prog w A R s' ⟨rfl,hR⟩
   refine wpAny_mono (B8j (E:=fun e s'=>R (.error e) s') (Q:=fun v s'=>R (.ok (.ret v)) s') nd h2 h1 hR) ?_ (fun e s' z=>z)
   . rintro fin s' ⟨v,rfl,hv⟩
     exact hv
 exact⟨rfl,.int n,H,I.tok _,⟨_,rfl⟩,q⟩
theorem C7s(n:Nat)(h:n<=4000):PySem.intText? (C6b n)=some ((10^n:Nat):Int):=by
 have e:PySem.NumText.digitsVal (C6b n).cps.toList=10^n:=by
   rw[A5t]
   unfold PySem.NumText.digitsVal
   rw[List.foldl_cons,C0s,Nat.zero_mul,Nat.zero_add]
   omega
 rw[<-e]
 refine PySem.intText_digits ?_ (by rw[A5t];exact fun z=>nomatch z) (by rw[B9a];omega)
 rw[A5t]
 intro c hc
 rcases List.mem_cons.mp hc with rfl|hc
 . exact⟨by decide,by decide⟩
 rw[(List.mem_replicate.mp hc).2]
 exact⟨by decide,by decide⟩
theorem A6b(hd:X.base.NoDigits)(hh:X.A.handled=none):A0y X (.type "str") (fun xs H Q=>∃i,xs=[.int i]/\i.natAbs<10^4300/\Q (.str (toString i)) H):=by
 intro pins s σ H xs us Q I r h
 obtain⟨i,rfl,hz,q⟩:=h
 obtain⟨u,rfl,t,rfl⟩:=A7q r
 exact str_of_int_or hh (hd.keeps I.bk) (fun _=>⟨.str _,H,I.tok _,⟨_,rfl⟩,q⟩) (fun z=>absurd hz (Nat.not_lt.mpr z))
end
theorem C8t{P:Program}{w:World}{K:PySem.W.Frag}{mg mb:Str ->Option Value}{CX:CXT}{k:Nat}{fa a:Addr}{fd:FuncData}{x:Str}{sp:Sp}{s₁:Shared}{vs:List Value}{ns:List Int}
   (KX:K.In s₁.heap) (hns:s₁.heap.Ns mainGlobals mg) (hb:s₁.heap.Ns builtinsNs mb) (hbb:∀x:Str,x≠"__name__" ->mb x=bootBuiltins x) (hlim:s₁.heap.NoLimit) (hdig:s₁.heap.NoDigits) (hg:s₁.gens= #[])
   (ha:s₁.heap.get? a=some {cls:= .type "list",data:= .seq vs.toArray}) (hi:IntsAre vs ns) (hl:ns.length<=sizeLine) (hr:A0r k callerA)
   (F:∀base:Heap,K.In base ->base.Ns mainGlobals mg ->base.NoDigits ->G6 P w K mg base CX k fa fd [x] sp) (hbind:∀(s:Shared) (u:Value),BindsTo s fd ⟨[u],[]⟩ [(x,u)])
   (hsp:∀H:Hp,G3y H ->SqL K H a (ns.map V.int) ->sp [.ref a] H (fun v _=>v= .bl true) fun _ _ _=>False)
   (hCX:∀H e s',CX [] H s₁ (fun _ _ _=>False) e s' ->False):
   codeAny (model P w) callerA (.call (.ref fa) ⟨[.ref a],[]⟩) (fun r s'=>r= .ok (.ret (.bool true))/\OldK s₁.heap s'.heap/\s'.os=s₁.os/\AllBare s'.gens) s₁:=by
 have rv:=B5a hi
 have lenV:=hi.length
 have core :∀H:Hp,G3y H ->SqL K H a (ns.map V.int) ->HOk P w H s₁.heap ->(∀b,H b≠none ->b=a) ->(H a≠none ->K.lookup a=none) ->
     codeAny (model P w) callerA (.call (.ref fa) ⟨[.ref a],[]⟩) (fun r s'=>r= .ok (.ret (.bool true))/\OldK s₁.heap s'.heap/\s'.os=s₁.os/\AllBare s'.gens) s₁:=by
   intro H hO hS hok hA hK
   have base_of:∀{b:Addr} {o:Obj},s₁.heap.get? b=some o ->H b=none ->(B6k s₁.heap H).get? b=some o:=fun e n=>D1u e n
   have noA:∀{b:Addr} {o:Obj} {es:Array DictEntry} {ep:Nat},s₁.heap.get? b=some o ->o.data= .dict es ep ->H b=none:=fun{b o es ep} e d=>by
     cases q:H b with
     |none=>rfl
     | some u=>
       have e':b=a:=hA b (by rw[q];simp)
       subst e'
       rw[ha] at e;cases e
       have d':Data.seq vs.toArray _=Data.dict es ep:=d
       cases d'
   have nsK:∀{b:Addr} {m:Str ->Option Value},s₁.heap.Ns b m ->(B6k s₁.heap H).Ns b m:=fun{b m} ⟨o,es,ep,e,d,r⟩=>⟨o,es,ep,base_of e (noA e d),d,r⟩
   have hKb:K.In (B6k s₁.heap H):=fun b o e=>base_of (KX b o e) (by
     cases q:H b with
     |none=>rfl
     | some u=>
       have e':b=a:=hA b (by rw[q];simp)
       subst e'
       rw[hK (by rw[q];simp)] at e;cases e)
   have hM:Mod K mg (B6k s₁.heap H):=⟨hKb,nsK hns,⟨mb,nsK hb,hbb⟩,let⟨mc,h1,h2⟩:=hlim;⟨mc,nsK h1,h2⟩⟩
   have e0:B0d P w K mg (B6k s₁.heap H) callerA [] s₁ H:=⟨rfl,hM,fun b o e=>G0b e,Nat.le_of_eq (C7m _ _),trivial,fun b hb=>absurd (show b∈([]:List Addr) from hb) (by simp),hok,.of_eq hg⟩
   refine codeAny_mono ((F _ hKb (nsK hns) (let⟨mc,h1,h2⟩:=hdig;⟨mc,nsK h1,h2⟩)).run callerA [] s₁ H ⟨[.ref a],[]⟩ [.ref a] [.ref a] _ _ hr e0 (hbind s₁ (.ref a)) (.cons rfl .nil) (hsp H hO hS)) fun r s' h=>?_
   cases r with
   |error e=>exact(hCX H e s' h).elim
   | ok fl =>
     cases fl with
     |next=>exact False.elim h
     |brk=>exact False.elim h
     |cont=>exact False.elim h
     | ret u=>
       obtain⟨v,H',os,bare,un,hok',r',q⟩:=h
       have q':v= .bl true:=q
       subst q'
       obtain rfl:u=Value.bool true:=r'
       refine⟨rfl,OldK.of_keep fun b o e=>?_,os,bare⟩
       cases q:H b with
       |none=>exact un.keep b o e q (by intro z;exact absurd (show b∈([]:List Addr) from z) (by simp)) (by simp)
       | some u=>
         rcases hO b with z|⟨ob,xs,z⟩
         . rw[q] at z;cases z
         . have z2:=un.frzs b ob _ z
           obtain⟨e1,_⟩:=hok b _ z
           obtain⟨e2,_⟩:=hok' b _ z2
           rw[e] at e1;cases e1
           exact e2
 cases hk:K.lookup a with
 | some o=>
   have e:=KX a o hk
   rw[ha] at e
   cases e
   refine core (fun _=>none) (fun _=> .inl rfl) (.inr ⟨_,vs.toArray,_,hk,rfl,rfl,rfl,by rw[List.size_toArray,lenV];exact hl,by simpa using rv⟩) (fun b u z=>by have z':(none:Option HO)=some u:=z;cases z') (fun b z=>absurd rfl z) fun z=>absurd rfl z
 | none=>
   refine core (fun b=>if b=a then some (.frz {cls:= .type "list",data:= .seq vs.toArray} (.lst (ns.map V.int))) else none) (fun b=>?_) (.inl (.inr ⟨{cls:= .type "list",data:= .seq vs.toArray},if_pos rfl⟩)) (fun b u z=>?_) (fun b z=>?_) fun _=>hk
   . by_cases hb:b=a
     . exact .inr ⟨_,_,if_pos hb⟩
     . exact .inl (if_neg hb)
   . by_cases hb:b=a
     . have z':=(if_pos hb).symm.trans z
       cases z'
       subst hb
       exact⟨ha,by rw[List.length_map];exact hl,vs,_,rv,ha⟩
     . have z':=(if_neg hb).symm.trans z
       cases z'
   . by_cases hb:b=a
     . exact hb
     . exact absurd (if_neg hb) z
end L2
namespace L2
open PySem PySem.Spec PyProof.Rows
theorem walk_ofD{l:PySem.W.OpenLaw}{n k:Nat}{q:Program}{loose:List Str}{XP:(Str ->Option Value) ->Heap ->Prop}{YP:World ->Heap ->Prop}{d:DefRec}{K:Params ->PySem.W.Frag}{CX:World ->CXT}{sp:World ->Sp}{x:Str}
   (hn:l.most=some n) (hn2:n<=sizeLine) (hdf:d.params.defaults=[]) (hr:A0r k callerA)
   (hY:∀(w:World) (h:Heap),YP w h ->(K w.params).In h)
   (F:∀(w:World) (mg:Str ->Option Value) (fa:Addr) (h:Heap),(K w.params).In h ->h.Ns mainGlobals mg ->mg d.name=some (.ref fa) ->
     ∃ fd:FuncData,(∀(s:Shared) (u:Value),BindsTo s fd ⟨[u],[]⟩ [(x,u)])/\
       ∀base:Heap,(K w.params).In base ->base.Ns mainGlobals mg ->base.NoDigits ->G6 l.prog w (K w.params) mg base (CX w) k fa fd [x] (sp w))
   (hsp:∀(w:World) (H:Hp) (a:Addr) (ns:List Int),ns.length<=n ->G3y H ->SqL (K w.params) H a (ns.map V.int) ->sp w [.ref a] H (fun v _=>v= .bl true) fun _ _ _=>False)
   (hCX:∀(w:World) (H:Hp) (s:Shared) (e:Value) (s':Shared),CX w [] H s (fun _ _ _=>False) e s' ->False):
   PySem.W.WalkO q loose XP YP l.row.toRowW d [] (fun f vs=>PySem.call f vs):=by
 refine Att.attach_call hn hdf fun w s₀ s₁ mg mb fa o pm cd doc a vs ns G Y ho hd hcd hmg hobj hints hlen hg=>?_
 have KX:=hY w _ Y
 obtain⟨fd,hb,hF⟩:=F w mg fa _ KX G.T.g hmg
 exact C8t KX G.T.g G.T.b G.T.builtins G.T.nolimit G.T.nodigits hg hobj hints (Nat.le_trans hlen hn2) hr hF hb (fun H hO hS=>hsp w H a ns hlen hO hS) fun H e s'=>hCX w H s₁ e s'
end L2
namespace TR
open PySem L2 PySem.W PyProof.Rows
seal PE PS PSs PA PT PW PG PGs PI PO
noncomputable abbrev Q0:List Str:=["self","sign","last","part"]
noncomputable abbrev Q3:List Str:=["self","sign"]
noncomputable abbrev Q4:List Str:=["thing","least","most"]
noncomputable abbrev Q5:List Str:=["context","one","other"]
noncomputable abbrev Q7:List Str:=["one","other"]
noncomputable abbrev Q8:List Str:=["_law_cell","_law_k"]
noncomputable abbrev Q9:List Str:=["numbers","kind"]
noncomputable abbrev Q10:List Str:=["context","sign"]
noncomputable abbrev Q11:List Str:=["_law_number_here"]
noncomputable abbrev Q12:List Str:=["_law_top","_law_bottom","_law_power"]
noncomputable abbrev Q13:List Str:=["self","names"]
noncomputable abbrev Q14:List Str:=["_law_which","_law_context","_law_some"]
noncomputable abbrev Q15:List Str:=["self","top","bottom","power"]
noncomputable abbrev Q16:List Str:=["_law_found","_law_due"]
noncomputable abbrev Q17:List Str:=["_law_one","_law_other"]
noncomputable abbrev Q18:List Str:=["sign","figures","power"]
noncomputable abbrev Q19:List Str:=["self","power"]
noncomputable abbrev Q20:List Str:=["size","middle"]
noncomputable abbrev Q21:List Str:=["self","room","way","least","most"]
noncomputable abbrev Q22:List Str:=["ideal","sign","figures","power"]
noncomputable abbrev Q23:List Str:=["context","sign","pair"]
noncomputable abbrev Q24:List Str:=["context","sign","figures","power"]
noncomputable abbrev Q25:List Str:=["context","number"]
noncomputable abbrev Q26:List Str:=["part","is_cut"]
noncomputable abbrev Q27:List Str:=["context","lead","part"]
noncomputable abbrev Q28:List Str:=["context","sign","ideal"]
noncomputable abbrev Q29:List Str:=["context","exact"]
noncomputable abbrev Q30:List Str:=["context","one","other","third"]
noncomputable abbrev Q31:List Str:=["_law_script","_law_k"]
noncomputable abbrev Q32:List Str:=["_law_way","_law_sign","_law_last","_law_part"]
noncomputable abbrev Q33:List Str:=["self","kind","sign","figures","power"]
noncomputable abbrev Q34:List Str:=["whole","count"]
noncomputable abbrev Q35:List Str:=["number","power"]
noncomputable abbrev Q36:List Str:=["self","signal"]
noncomputable abbrev Q37:List Str:=["burst","off","cut"]
noncomputable abbrev Q38:List Str:=["context","sign","exact","ideal"]
noncomputable abbrev Q39:List Str:=["_law_top","_law_bottom"]
noncomputable abbrev Q40:List Str:=["_law_rules_here","_law_sign"]
noncomputable abbrev Q41:List Str:=["_law_rules_here","_law_sign","_law_ideal"]
noncomputable abbrev Q42:List Str:=["_law_rules_here","_law_sign","_law_figures","_law_power","_law_part","_law_is_faint","_law_ideal"]
noncomputable abbrev Q43:List Str:=["_law_rules_here","_law_sign","_law_top","_law_bottom","_law_ideal"]
noncomputable abbrev Q44:List Str:=["_law_due","_law_traps_here","_law_kept","_law_context","_law_which","_law_some"]
noncomputable abbrev Q45:List Str:=["_law_context","_law_which","_law_some"]
noncomputable abbrev Q46:List Str:=["_law_rules_here","_law_one","_law_other"]
noncomputable abbrev Q47:List Str:=["_law_rules_here","_law_one","_law_other","_law_third_here"]
noncomputable abbrev Q48:List Str:=["_law_numbers","_law_draw"]
noncomputable abbrev Q49:List Str:=["_law_room","_law_way","_law_least","_law_most"]
noncomputable abbrev Q50:List Str:=["_law_k","_law_script"]
noncomputable abbrev Q51:List Str:=["_law_number_here","_law_due"]
noncomputable abbrev Q52:List Str:=["_law_cell","_law_kind","_law_sign","_law_many","_law_long","_law_k","_law_figures","_law_power"]
noncomputable abbrev Q53:List Str:=["_law_number_here","_law_kind","_law_sign","_law_figures","_law_power"]
noncomputable abbrev Q54:List Str:=["_law_cell","_law_room","_law_ways","_law_way","_law_least","_law_most"]
noncomputable abbrev Q55:List Str:=["_law_top","_law_bottom","_law_found","_law_high","_law_low"]
noncomputable abbrev Q56:List Str:=["_law_rules_here","_law_sign","_law_room","_law_way","_law_least","_law_most","_law_raised"]
variable{P:Program}{w:World}{K:Frag}{mg:Str ->Option Value}{base:Heap}
noncomputable abbrev sr (a:Addr):Option V:=some (.ref a)
noncomputable abbrev si (a:Int):Option V:=some (.int a)
noncomputable abbrev sR (a:Str):Option V:=some (.str a)
noncomputable abbrev sI (P:Program) (w:World) (K:Frag) (mg:Str ->Option Value) (base:Heap):=G6 P w K mg base (CX1 P w)
noncomputable def top (i:Nat):Stmt:=PySem.Challenge.pw_tenreckon_k16_fused.main.body.getD i (.Pass ⟨0,0,0,0⟩)
noncomputable abbrev C3c:Stmt:=(top 28)
def J1k (K:Frag):Sp:=fun vs H Q _=>∃v lo hi,vs=[v,.int lo,.int hi]/\((A3a lo hi v/\Q (.bl true) H)\/(B3x K H lo hi v/\Q (.bl false) H))
theorem J0w:B8 Q4 Q4 (A6 C3c):=scK
theorem C9r(D:Def K mg "is_between" Q4 C3c f fd)(O:Own mg)(T:Kit K):B9 P w K mg base 1 f fd Q4 (J1k K):=by
 refine D.F.ok2 J0w (fun vs H Q E h=>?_) (fun X cdv A outer s H vs Q E hX hr hx h=>?_)
 . obtain⟨v,lo,hi,rfl,_⟩:=h
   rfl
 subst hX
 obtain⟨v,lo,hi,rfl,h⟩:=h
 refine⟨_,(A5 (J1 (PW.pt (A6a (A1v (Z7 (A9z O.isi (pv 0) (pty O.int_ boot_int)))) (A8f (Z7 (A9z O.isi (pv 0) (pty O.bool_ boot_bool)))))) (A7 (B5 A1g)) D6) (A7 (B5 (A0e (G5 C5r (pv 0) (pv 1) (C6 _)) (Z6 (G5 C3v (pv 0) (pv 2) (C6 _))))))),?_⟩
 rcases h with⟨⟨i,rfl,h1,h2⟩,k⟩|⟨⟨t,b1,b2,ty,k1,k2,bad⟩,k⟩
 . refine⟨_,rfl,_,_,_,_,true,rfl,rfl,B9t i,T.int_int,_,rfl,Y3 ?_⟩
   refine⟨_,rfl,_,_,_,_,false,rfl,rfl,B9t i,T.int_bool,_,rfl,Y3 ?_⟩
   refine⟨_,rfl,_,rfl,_,_,rfl,rfl,_,rfl,A0q h1 ?_⟩
   refine⟨_,rfl,_,rfl,_,_,rfl,rfl,?_⟩
   show Q (.bl (decide (i<=hi))) H
   rw[decide_eq_true h2]
   exact k
 refine⟨_,rfl,_,_,_,_,b1,rfl,rfl,ty,k1,_,rfl,?_⟩
 cases b1 with
 |false=>exact Z0 (Z0 k)
 | true=>
   refine Y3 ⟨_,rfl,_,_,_,_,b2,rfl,rfl,ty,k2,_,rfl,?_⟩
   cases b2 with
   |true=>exact Z0 k
   | false=>
     obtain⟨i,rfl,out⟩:=bad.resolve_left (by decide)
     refine Y3 ⟨_,rfl,_,rfl,_,_,rfl,rfl,_,rfl,V0 (fun h1=>?_) (fun h1=>?_)⟩
     . refine⟨_,rfl,_,rfl,_,_,rfl,rfl,?_⟩
       show Q (.bl (decide (i<=hi))) H
       rw[decide_eq_false (by omega:¬i<=hi)]
       exact k
     . exact k
structure Err(K:Frag)(mg:Str ->Option Value)(x:Str)(CB:Addr):Prop where
 g:mg x=some (.ref CB)
 q:excIn K CB [.type "ValueError",.type "Exception",.type "BaseException",.type "object"] "ValueError.__new__"=true
def A7w (lo hi:Int):Prop:=lo.natAbs.log2<1920/\hi.natAbs.log2<1920/\(Str.ofString (toString lo)).length<=100/\(Str.ofString (toString hi)).length<=100
noncomputable abbrev A7t:Stmt:=(top 65)
def B4w (K:Frag) (CB:Addr):Sp:=fun vs H Q E=>∃v lo hi,vs=[v,.int lo,.int hi]/\A7w lo hi/\((A3a lo hi v/\Q v H)\/(B3x K H lo hi v/\E (.ref CB) none H))
theorem C6k:B8 Q4 Q4 (A6 A7t):=scK
theorem C2f{f f1 CB:Addr}(D:Def K mg "bounded" Q4 A7t f fd)(D1:Def K mg "is_between" Q4 C3c f1 fd1)(O:Own mg)(T:Kit K)(B:Err K mg "BadContext" CB):
   B9 P w K mg base 2 f fd Q4 (B4w K CB):=by
 have G1:=C9r (P:=P) (w:=w) (base:=base) D1 O T
 refine D.F.ok2 C6k (fun vs H Q E h=>?_) (fun X cdv A outer s H vs Q E hX hr hx h=>?_)
 . obtain⟨v,lo,hi,rfl,_⟩:=h
   rfl
 subst hX
 obtain⟨v,lo,hi,rfl,⟨l1,l2,l3,l4⟩,h⟩:=h
 refine⟨_,(A5 (J1 (A1v (Z7 (G0 D1 G1 hr hx (A0 (pv 0) (A0 (pv 1) (A0 (pv 2) A3)))))) (A7 (A1k (by rfl) B.g B.q PySem.F.excBase_ValueError hx (A0 (C5k (.cons .lit (.cons (.int (pv 1)) (.cons .lit (.cons (.int (pv 2)) .nil))))) A3))) D6) (A7 (B5 (pv 0)))),?_⟩
 rcases h with⟨g,k⟩|⟨bad,k⟩
 . exact⟨_,rfl,_,rfl,_,rfl,_,_,_,rfl,.inl ⟨g,_,rfl,Y3 ⟨_,rfl,k⟩⟩⟩
 have a0:Str.empty.length=0:=rfl
 have a1:(Str.ofString "not a whole number from ").length=24:=by decide+kernel
 have a2:(Str.ofString " to ").length=4:=by decide+kernel
 have sz:∀{n:Nat},n<=1000 ->n<=sizeLine:=fun h=>Nat.le_of_lt (A1c h)
 refine⟨_,rfl,_,rfl,_,rfl,_,_,_,rfl,.inr ⟨bad,_,rfl,Z0 ?_⟩⟩
 exact⟨_,rfl,sz (by rw[strLen_append];omega),_,rfl,_,rfl,l1,_,rfl,sz (by rw[strLen_append,strLen_append];omega),_,rfl,sz (by rw[strLen_append,strLen_append,strLen_append];omega),_,rfl,_,rfl,l2,_,rfl,sz (by rw[strLen_append,strLen_append,strLen_append,strLen_append];omega),sz (by rw[strLen_append,strLen_append,strLen_append,strLen_append];omega),sz (by show 1<=1000;decide),k⟩
noncomputable abbrev A4k:Stmt:=(top 29)
def C6t (K:Frag) (CB:Addr):Sp:=fun vs H Q E=>∃v lo hi,vs=[v,.int lo,.int hi]/\A7w lo hi/\
 ((A3a lo hi v/\Q .non H)\/(B3x K H lo hi v/\E (.ref CB) none H))
theorem C8d:B8 Q4 Q4 (A6 A4k):=scK
theorem B1v{f f1 CB:Addr}(D:Def K mg "need_between" Q4 A4k f fd)(D1:Def K mg "is_between" Q4 C3c f1 fd1)(O:Own mg)(T:Kit K)(B:Err K mg "BadNumber" CB):
   B9 P w K mg base 2 f fd Q4 (C6t K CB):=by
 have G1:=C9r (P:=P) (w:=w) (base:=base) D1 O T
 refine D.F.ok2 C8d (fun vs H Q E h=>?_) (fun X cdv A outer s H vs Q E hX hr hx h=>?_)
 . obtain⟨v,lo,hi,rfl,_⟩:=h
   rfl
 subst hX
 obtain⟨v,lo,hi,rfl,⟨l1,l2,l3,l4⟩,h⟩:=h
 refine⟨_,(A7 (J1 (A1v (Z7 (G0 D1 G1 hr hx (A0 (pv 0) (A0 (pv 1) (A0 (pv 2) A3)))))) (A7 (A1k (by rfl) B.g B.q PySem.F.excBase_ValueError hx (A0 (C5k (.cons .lit (.cons (.int (pv 1)) (.cons .lit (.cons (.int (pv 2)) .nil))))) A3))) D6)),?_⟩
 rcases h with⟨g,k⟩|⟨bad,k⟩
 . exact⟨_,rfl,_,rfl,_,rfl,_,_,_,rfl,.inl ⟨g,_,rfl,Y3 k⟩⟩
 have a0:Str.empty.length=0:=rfl
 have a1:(Str.ofString "not a whole number from ").length=24:=by decide+kernel
 have a2:(Str.ofString " to ").length=4:=by decide+kernel
 have sz:∀{n:Nat},n<=1000 ->n<=sizeLine:=fun h=>Nat.le_of_lt (A1c h)
 refine⟨_,rfl,_,rfl,_,rfl,_,_,_,rfl,.inr ⟨bad,_,rfl,Z0 ?_⟩⟩
 exact⟨_,rfl,sz (by rw[strLen_append];omega),_,rfl,_,rfl,l1,_,rfl,sz (by rw[strLen_append,strLen_append];omega),_,rfl,sz (by rw[strLen_append,strLen_append,strLen_append];omega),_,rfl,_,rfl,l2,_,rfl,sz (by rw[strLen_append,strLen_append,strLen_append,strLen_append];omega),sz (by rw[strLen_append,strLen_append,strLen_append,strLen_append];omega),sz (by show 1<=1000;decide),k⟩
noncomputable abbrev B4m:Stmt:=(U3 (top 17) 0)
noncomputable abbrev C4z:Stmt:=(top 21)
noncomputable abbrev B3f:Stmt:=(top 23)
structure Num(K:Frag)(mg:Str ->Option Value)(CN:Addr):Prop where
 g:mg "Number"=some (.ref CN)
 cl:Cls K CN
 n1:A0f K CN "kind"
 n2:A0f K CN "sign"
 n3:A0f K CN "figures"
 n4:A0f K CN "power"
 ca:findIn K (.ref CN) "__class__"=some (some (.builtin "object.__class__"))
 sn:specialIn K (.builtin "object.__class__") "__get__"=some (some (.builtin "getset_descriptor.__get__"))
 tk:takesIn K (.builtin "object.__class__")=some true
 ob:mroIn K CN (.type "object")=some true
 self:kitOne K (.ref CN) (.ref CN)=some true
noncomputable def B3y (k s f p:V):List (Str×V):=Y9 "power" p (Y9 "figures" f (Y9 "sign" s (Y9 "kind" k [])))
theorem e12:¬(("kind":Str)="sign"):=by decide+kernel
theorem e13:¬(("kind":Str)="figures"):=by decide+kernel
theorem e14:¬(("kind":Str)="power"):=by decide+kernel
theorem e23:¬(("sign":Str)="figures"):=by decide+kernel
theorem e24:¬(("sign":Str)="power"):=by decide+kernel
theorem e34:¬(("figures":Str)="power"):=by decide+kernel
theorem num1(k s f p:V):(B3y k s f p).lookup ("kind":Str)=some k:=by unfold B3y;rw[J9,if_neg e14,J9,if_neg e13,J9,if_neg e12,J9,if_pos rfl]
theorem num2(k s f p:V):(B3y k s f p).lookup ("sign":Str)=some s:=by unfold B3y;rw[J9,if_neg e24,J9,if_neg e23,J9,if_pos rfl]
theorem B3z(k s f p:V):(B3y k s f p).lookup ("figures":Str)=some f:=by unfold B3y;rw[J9,if_neg e34,J9,if_pos rfl]
theorem num4(k s f p:V):(B3y k s f p).lookup ("power":Str)=some p:=by unfold B3y;rw[J9,if_pos rfl]
def A2r (CN:Addr) (H:Hp) (n:Addr) (k s f p:V):Prop:=∃dx,H n=some (.ins CN dx (B3y k s f p))
theorem A2r.same{CN:Addr}{H H':Hp}{n:Addr}{k s f p:V}(h:A2r CN H n k s f p)(e:A8 H H'):A2r CN H' n k s f p:=by
 obtain⟨dx,z⟩:=h
 exact⟨dx,e _ _ z⟩
theorem Num.ty{K:Frag}{mg:Str ->Option Value}{CN:Addr}(N:Num K mg CN){H:Hp}{n:Addr}{k s f p:V}(h:A2r CN H n k s f p):TyE K H (.ref n) (.ref CN):=by
 obtain⟨dx,z⟩:=h
 exact .of (.ins z N.cl N.ca N.sn N.tk N.ob)
def B6e (CN:Addr):Sp:=fun vs H Q _=>∃(p dx:Addr) (k s f pw:V),vs=[.ref p,k,s,f,pw]/\H p=some (.ins CN dx [])/\∀H',H' p=some (.ins CN dx (B3y k s f pw)) ->(∀b o,H b=some o ->b≠p ->H' b=some o) ->Q .non H'
theorem G4h:B8 Q33 Q33 (A6 B4m):=scK
theorem D8s{f CN:Addr}(F:Fun K "__init__" "Number.__init__" B4m f fd)(N:Num K mg CN):B9 P w K mg base 1 f fd Q33 (B6e CN):=by
 refine F.ok2 G4h (fun vs H Q E h=>?_) (fun X cdv A outer s H vs Q E hX hr hx h=>?_)
 . obtain⟨p,dx,a,b,c,d,rfl,_⟩:=h
   rfl
 subst hX
 obtain⟨p,dx,a,b,c,d,rfl,hp,k⟩:=h
 refine⟨_,A5 (A0x (pv 0) (pv 1) rfl) (A5 (A0x (pv 0) (pv 2) rfl) (A5 (A0x (pv 0) (pv 3) rfl) (A7 (A0x (pv 0) (pv 4) rfl)))),?_⟩
 have l:∀(fs:List (Str×V)) (f:Str) (v:V) (n:Nat),fs.length<=n ->(Y9 f v fs).length<=n+1:=fun fs f v n h=>Nat.le_trans (A1r f v fs) (Nat.succ_le_succ h)
 refine⟨_,rfl,_,rfl,p,CN,dx,[],rfl,hp,N.cl,N.n1,(by show 0<1000;decide),?_⟩
 refine⟨_,rfl,_,rfl,p,CN,dx,_,rfl,A4,N.cl,N.n2,Nat.lt_of_le_of_lt (l _ _ _ 0 (Nat.le_refl _)) (by decide),?_⟩
 refine⟨_,rfl,_,rfl,p,CN,dx,_,rfl,A4,N.cl,N.n3,Nat.lt_of_le_of_lt (l _ _ _ 1 (l _ _ _ 0 (Nat.le_refl _))) (by decide),?_⟩
 refine⟨_,rfl,_,rfl,p,CN,dx,_,rfl,A4,N.cl,N.n4,Nat.lt_of_le_of_lt (l _ _ _ 2 (l _ _ _ 1 (l _ _ _ 0 (Nat.le_refl _)))) (by decide),?_⟩
 refine k _ A4 fun b o e hb=>?_
 rw[D0 hb,D0 hb,D0 hb,D0 hb]
 exact e
structure A8a(P:Program)(w:World)(K:Frag)(mg:Str ->Option Value)(base:Heap)(CN fI:Addr)(fdI:FuncData):Prop where
 m:Mk K CN fI
 g:B9 P w K mg base 1 fI fdI Q33 (B6e CN)
 b:Y6 K fdI Q33 []
theorem made{CN:Addr}{H:Hp}{Q:VK}{k s f p:V}(h:∀n H',H n=none ->A8 H H' ->A2r CN H' n k s f p ->Q (.ref n) H'):
   ∀x dx,H x=none ->H dx=none ->dx≠x ->B6e CN (.ref x::([k,s,f,p]++ [])) (upd (upd H dx (.own x)) x (.ins CN dx [])) (fun v H2=>v= .non/\Q (.ref x) H2) E0:=by
 intro x dx nx nd ne
 refine⟨x,dx,k,s,f,p,rfl,A4,fun H' e kp=>⟨rfl,h x H' nx (fun b o z=>?_) ⟨dx,e⟩⟩⟩
 refine kp b o ?_ (D8 z nx)
 rw[D0 (D8 z nx),D0 (D8 z nd)]
 exact z
def A2z (K:Frag) (CN:Addr) (H:Hp) (v:V):Prop:=∃t,TyE K H v t/\kitOne K t (.ref CN)=some false
def C4q (K:Frag) (CN CB:Addr):Sp:=fun vs H Q E=>∃v,vs=[v]/\((∃n k s f p,v= .ref n/\A2r CN H n k s f p/\Q v H)\/(A2z K CN H v/\E (.ref CB) none H))
theorem G0e:B8 ["thing"] ["thing"] (A6 B3f):=scK
theorem B8z{f CN CB:Addr}(D:Def K mg "need_number" ["thing"] B3f f fd)(O:Own mg)(T:Kit K)(B:Err K mg "BadNumber" CB)(N:Num K mg CN):B9 P w K mg base 1 f fd ["thing"] (C4q K CN CB):=by
 refine D.F.ok2 G0e (fun vs H Q E h=>?_) (fun X cdv A outer s H vs Q E hX hr hx h=>?_)
 . obtain⟨v,rfl,_⟩:=h
   rfl
 subst hX
 obtain⟨v,rfl,h⟩:=h
 refine⟨_,(A5 (J1 (A1v (Z7 (A9z O.isi (pv 0) (A8v N.g)))) (A7 (A1k (by rfl) B.g B.q PySem.F.excBase_ValueError hx (A0 C7 A3))) D6) (A7 (B5 (pv 0)))),?_⟩
 rcases h with⟨n,a,b,c,d,rfl,hn,k⟩|⟨⟨t,ty,k1⟩,k⟩
 . exact⟨_,rfl,_,_,_,_,true,rfl,rfl,N.ty hn,N.self,_,rfl,Y3 ⟨_,rfl,k⟩⟩
 exact⟨_,rfl,_,_,_,t,false,rfl,rfl,ty,k1,_,rfl,Z0 ⟨Nat.le_of_lt (A1c (by show 1<=1000;decide)),k⟩⟩
def D3q (K:Frag) (CN CB:Addr):Sp:=fun vs H Q E=>∃v,vs=[v]/\((∃n k s f p,v= .ref n/\A2r CN H n k s f p/\∀t,H t=none ->Q (.ref t) (upd H t (.tup [k,s,f,p])))\/(A2z K CN H v/\E (.ref CB) none H))
theorem G3w:B8 ["number"] ["number"] (A6 C4z):=scK
theorem G1b{f f1 CN CB:Addr}(D:Def K mg "told" ["number"] C4z f fd)(dA:Def K mg "need_number" ["thing"] B3f f1 fd1)(O:Own mg)(T:Kit K)(B:Err K mg "BadNumber" CB)(N:Num K mg CN):
   B9 P w K mg base 2 f fd ["number"] (D3q K CN CB):=by
 have G_need_number:=B8z (P:=P) (w:=w) (base:=base) dA O T B N
 refine D.F.ok2 G3w (fun vs H Q E h=>?_) (fun X cdv A outer s H vs Q E hX hr hx h=>?_)
 . obtain⟨v,rfl,_⟩:=h
   rfl
 subst hX
 obtain⟨v,rfl,h⟩:=h
 refine⟨_,(A5 (Z3 (G0 dA G_need_number hr hx (A0 (pv 0) A3))) (A7 (B5 (U7 (A0 (J0 (pv 0) rfl) (A0 (J0 (pv 0) rfl) (A0 (J0 (pv 0) rfl) (A0 (J0 (pv 0) rfl) A3)))))))),?_⟩
 rcases h with⟨n,a,b,c,d,rfl,hn,k⟩|⟨bad,k⟩
 . refine⟨_,rfl,_,rfl,.inl ⟨n,a,b,c,d,rfl,hn,?_⟩⟩
   obtain⟨dx,e⟩:=hn
   exact⟨_,rfl,n,CN,dx,_,_,rfl,e,N.cl,N.n1,num1 _ _ _ _,_,rfl,n,CN,dx,_,_,rfl,e,N.cl,N.n2,num2 _ _ _ _,_,rfl,n,CN,dx,_,_,rfl,e,N.cl,N.n3,B3z _ _ _ _,_,rfl,n,CN,dx,_,_,rfl,e,N.cl,N.n4,num4 _ _ _ _,
     Nat.le_of_lt (A1c (by show 4<=1000;decide)),k⟩
 exact⟨_,rfl,_,rfl,.inr ⟨bad,k⟩⟩
noncomputable abbrev B6p:Stmt:=(top 18)
noncomputable abbrev C7u:Stmt:=(top 19)
noncomputable abbrev A3b:Stmt:=(top 20)
def C5h (K:Frag) (CN CB:Addr):Sp:=fun vs H Q E=>∃x y z,vs=[x,y,z]/\
 ((A3a 0 1 x/\A3a 0 (10^60-1) y/\A3a (-200) 200 z/\∀n H',H n=none ->A8 H H' ->A2r CN H' n (.str "plain") x y z ->Q (.ref n) H')\/
  ((B3x K H 0 1 x\/(A3a 0 1 x/\(B3x K H 0 (10^60-1) y\/(A3a 0 (10^60-1) y/\B3x K H (-200) 200 z))))/\E (.ref CB) none H))
theorem D9s:B8 Q18 Q18 (A6 B6p):=scK
theorem b01:A7w 0 1:=by unfold A7w;decide+kernel
theorem b60:A7w 0 (10^60-1):=by unfold A7w;decide+kernel
theorem G9m:A7w (-200) 200:=by unfold A7w;decide+kernel
theorem D2y{f f1 f2 fI CN CB:Addr}{fd fd1 fd2 fdI:FuncData}(D:Def K mg "plain" Q18 B6p f fd)(dA:Def K mg "need_between" Q4 A4k f1 fd1)(D2:Def K mg "is_between" Q4 C3c f2 fd2)
   (O:Own mg) (T:Kit K) (B:Err K mg "BadNumber" CB) (N:Num K mg CN) (M:A8a P w K mg base CN fI fdI):B9 P w K mg base 3 f fd Q18 (C5h K CN CB):=by
 have G_need_between:=B1v (P:=P) (w:=w) (base:=base) dA D2 O T B
 refine D.F.ok2 D9s (fun vs H Q E h=>?_) (fun X cdv A outer s H vs Q E hX hr hx h=>?_)
 . obtain⟨x,y,z,rfl,_⟩:=h
   rfl
 subst hX
 obtain⟨x,y,z,rfl,h⟩:=h
 refine⟨_,(A5 (Z3 (G0 dA G_need_between hr hx (A0 (pv 0) (A0 A2 (A0 A2 A3))))) (A5 (Z3 (G0 dA G_need_between hr hx (A0 (pv 1) (A0 A2 (A0 (B7 Y2 (B7 C9y A2 A2) A2) A3))))) (A5 (Z3 (G0 dA G_need_between hr hx (A0 (pv 2) (A0 (A2k A1b A2) (A0 A2 A3))))) (A7 (B5 (A2w M.m M.g hr N.g M.b .nil hx (A0 C7 (A0 (pv 0) (A0 (pv 1) (A0 (pv 2) A3)))))))))),?_⟩
 have pw:G5q 10 60:=⟨by decide,by decide,by decide⟩
 rcases h with⟨⟨i1,rfl,l1,u1⟩,⟨i2,rfl,l2,u2⟩,⟨i3,rfl,l3,u3⟩,k⟩|⟨bad,k⟩
 . refine⟨_,rfl,_,_,_,rfl,b01,.inl ⟨⟨i1,rfl,l1,u1⟩,?_⟩⟩
   refine⟨_,rfl,_,_,rfl,rfl,pw,_,_,rfl,rfl,_,_,_,rfl,b60,.inl ⟨⟨i2,rfl,l2,u2⟩,?_⟩⟩
   refine⟨_,rfl,_,rfl,_,_,_,rfl,G9m,.inl ⟨⟨i3,rfl,l3,u3⟩,?_⟩⟩
   exact⟨_,rfl,_,rfl,_,rfl,made k⟩
 rcases bad with bad|⟨⟨i1,rfl,l1,u1⟩,bad|⟨⟨i2,rfl,l2,u2⟩,bad⟩⟩
 . exact⟨_,rfl,_,_,_,rfl,b01,.inr ⟨bad,k⟩⟩
 . refine⟨_,rfl,_,_,_,rfl,b01,.inl ⟨⟨i1,rfl,l1,u1⟩,?_⟩⟩
   exact⟨_,rfl,_,_,rfl,rfl,pw,_,_,rfl,rfl,_,_,_,rfl,b60,.inr ⟨bad,k⟩⟩
 refine⟨_,rfl,_,_,_,rfl,b01,.inl ⟨⟨i1,rfl,l1,u1⟩,?_⟩⟩
 refine⟨_,rfl,_,_,rfl,rfl,pw,_,_,rfl,rfl,_,_,_,rfl,b60,.inl ⟨⟨i2,rfl,l2,u2⟩,?_⟩⟩
 exact⟨_,rfl,_,rfl,_,_,_,rfl,G9m,.inr ⟨bad,k⟩⟩
def C4y (K:Frag) (CN CB:Addr):Sp:=fun vs H Q E=>∃x,vs=[x]/\((A3a 0 1 x/\∀n H',H n=none ->A8 H H' ->A2r CN H' n (.str "end") x (.int 0) (.int 0) ->Q (.ref n) H')\/(B3x K H 0 1 x/\E (.ref CB) none H))
theorem G9b:B8 ["sign"] ["sign"] (A6 C7u):=scK
theorem G4k{f f1 f2 fI CN CB:Addr}{fd fd1 fd2 fdI:FuncData}(D:Def K mg "end" ["sign"] C7u f fd)(dA:Def K mg "need_between" Q4 A4k f1 fd1)(D2:Def K mg "is_between" Q4 C3c f2 fd2)
   (O:Own mg) (T:Kit K) (B:Err K mg "BadNumber" CB) (N:Num K mg CN) (M:A8a P w K mg base CN fI fdI):B9 P w K mg base 3 f fd ["sign"] (C4y K CN CB):=by
 have G_need_between:=B1v (P:=P) (w:=w) (base:=base) dA D2 O T B
 refine D.F.ok2 G9b (fun vs H Q E h=>?_) (fun X cdv A outer s H vs Q E hX hr hx h=>?_)
 . obtain⟨x,rfl,_⟩:=h
   rfl
 subst hX
 obtain⟨x,rfl,h⟩:=h
 refine⟨_,(A5 (Z3 (G0 dA G_need_between hr hx (A0 (pv 0) (A0 A2 (A0 A2 A3))))) (A7 (B5 (A2w M.m M.g hr N.g M.b .nil hx (A0 C7 (A0 (pv 0) (A0 A2 (A0 A2 A3)))))))),?_⟩
 rcases h with⟨⟨i1,rfl,l1,u1⟩,k⟩|⟨bad,k⟩
 . refine⟨_,rfl,_,_,_,rfl,b01,.inl ⟨⟨i1,rfl,l1,u1⟩,?_⟩⟩
   exact⟨_,rfl,made k⟩
 exact⟨_,rfl,_,_,_,rfl,b01,.inr ⟨bad,k⟩⟩
def A5j (CN:Addr):Sp:=fun vs H Q _=>vs=[]/\∀n H',H n=none ->A8 H H' ->A2r CN H' n (.str "none") (.int 0) (.int 0) (.int 0) ->Q (.ref n) H'
theorem C6h:B8 [] [] (A6 A3b):=scK
theorem C0x{f fI CN:Addr}{fd fdI:FuncData}(D:Def K mg "nothing" [] A3b f fd)(N:Num K mg CN)(M:A8a P w K mg base CN fI fdI):B9 P w K mg base 3 f fd [] (A5j CN):=by
 refine D.F.ok2 C6h (fun vs H Q E h=>?_) (fun X cdv A outer s H vs Q E hX hr hx h=>?_)
 . obtain⟨rfl,_⟩:=h
   rfl
 subst hX
 obtain⟨rfl,k⟩:=h
 refine⟨_,(A7 (B5 (A2w M.m M.g hr N.g M.b .nil hx (A0 C7 (A0 A2 (A0 A2 (A0 A2 A3))))))),?_⟩
 exact made k
noncomputable abbrev C5t:Stmt:=(top 22)
def C8z (CN:Addr):Sp:=fun vs H Q _=>∃n k s f p,vs=[.ref n]/\A2r CN H n k s (.int f) (.int p)/\f.natAbs<2^300/\Q (.int (p+((Str.ofString (toString f)).length:Nat)-1)) H
theorem G6e:B8 ["number"] ["number"] (A6 C5t):=scK
theorem G1c{f CN:Addr}(D:Def K mg "lead_of" ["number"] C5t f fd)(O:Own mg)(N:Num K mg CN):B9 P w K mg base 1 f fd ["number"] (C8z CN):=by
 refine D.F.ok2 G6e (fun vs H Q E h=>?_) (fun X cdv A outer s H vs Q E hX hr hx h=>?_)
 . obtain⟨n,a,b,c,d,rfl,_⟩:=h
   rfl
 subst hX
 obtain⟨n,a,b,fg,pw,rfl,⟨dx,e⟩,hf,k⟩:=h
 refine⟨_,(A7 (B5 (B7 Y2 (B7 V1 (J0 (pv 0) rfl) (V7 A2d (by rfl) O.len_ PySem.boot_len (A0 (V6 A7c (by rfl) O.str_ boot_str (A0 (J0 (pv 0) rfl) A3)) A3))) A2))),?_⟩
 have lg:fg.natAbs.log2<1920:=Nat.lt_trans (A6d hf (by decide)) (by decide)
 exact⟨_,rfl,n,CN,dx,_,_,rfl,e,N.cl,N.n4,num4 _ _ _ _,_,rfl,n,CN,dx,_,_,rfl,e,N.cl,N.n3,B3z _ _ _ _,_,rfl,lg,_,rfl,int_text_fits lg,_,_,rfl,rfl,_,_,rfl,rfl,k⟩
noncomputable abbrev A3u:Stmt:=(top 2)
noncomputable abbrev A4w:Stmt:=(top 3)
theorem A7v{x k:Nat}(h:x<2^k)(hk:k<=1048576):Builtin.Int.intBits (x:Int)<=2^20:=by
 unfold Builtin.Int.intBits
 split
 . exact Nat.zero_le _
 have z:(x:Int).natAbs≠0:=by
   intro z
   rename_i hz
   exact hz (by simpa using z)
 have:(x:Int).natAbs.log2<k:=(Nat.log2_lt z).mpr h
 have e:(2:Nat)^20=1048576:=by decide
 omega
theorem B3g{b s j n:Nat}(hb:b<2^s)(hj:j<=n)(hn:n*s<1048576):Builtin.Int.intBits ((b^j:Nat):Int)<=2^20:=by
 refine A7v (k:=n*s+1) ?_ hn
 have a:b^j<=(2^s)^j:=Nat.pow_le_pow_left (Nat.le_of_lt hb) j
 have c:(2^s)^j<=2^(n*s):=by
   rw[<-Nat.pow_mul,Nat.mul_comm n s]
   exact Nat.pow_le_pow_right (by decide) (Nat.mul_le_mul_left s hj)
 have d:2^(n*s)<2^(n*s+1):=Nat.pow_lt_pow_right (by decide) (by omega)
 exact Nat.lt_of_le_of_lt a (Nat.lt_of_le_of_lt c d)
theorem A8w{b s i j n:Nat}(hb:b<2^s)(hi:i<=n)(hj:j<=n)(hn:n*s<1048576):IntMulOk ((b^i:Nat):Int) ((b^j:Nat):Int):=IntMulOk.of_bits (B3g hb hi hn) (B3g hb hj hn)
def A9y:Sp:=fun vs H Q _=>∃b n s:Nat,vs=[.int (b:Int),.int (n:Int)]/\b<2^s/\n*s<1048576/\Q (.int ((b^n:Nat):Int)) H
theorem scProductOf:B8 ["whole","count","product"] Q34 (A6 A3u):=scK
theorem B7e(D:Def K mg "product_of" Q34 A3u f fd):B9 P w K mg base 1 f fd Q34 A9y:=by
 refine D.F.ok2 scProductOf (fun vs H Q E h=>?_) (fun X cdv A outer s H vs Q E hX hr hx h=>?_)
 . obtain⟨b,n,z,rfl,_⟩:=h
   rfl
 subst hX
 obtain⟨b,n,z,rfl,hb,hn,k⟩:=h
 refine⟨_,(A5 (D5 (i:=2) scProductOf.nd rfl (Or.inl rfl) A2) (A5 (A7r PassesOwn.leaving (C8 A5y (pv 1) A2 (C6 _)) (A5 (J1 (C8 G8 (B7 V2 (pv 1) A2) A2 (C6 _)) (A7 (D5 (i:=2) scProductOf.nd rfl (Or.inl rfl) (B7 U9 (pv 2) (pv 0)))) D6) (A5 (D5 (i:=0) scProductOf.nd rfl (Or.inl rfl) (B7 U9 (pv 0) (pv 0))) (A7 (D5 (i:=1) scProductOf.nd rfl (Or.inl rfl) (B7 U1 (pv 1) A2)))))) (A7 (B5 (pv 2))))),?_⟩
 have d2:(0:Int)<2/\(2:Int).natAbs.log2<9000:=⟨by decide,by decide+kernel⟩
 refine A7p (fun σ H2=>H2=H/\∃i m c:Nat,m+i*c=n/\σ=[si ((b^i:Nat):Int),si (c:Int),si ((b^m:Nat):Int)]) (fun σ _=>match σ with| [_,some (.int c),_]=>c.toNat|_=>0) ?_ ?_ ?_
 . exact⟨rfl,1,0,n,by omega,by rw[Nat.pow_one];rfl⟩
 . rintro σ H2 ⟨rfl,i,m,c,hc,rfl⟩
   refine⟨_,rfl,_,_,rfl,rfl,_,rfl,V0 (fun h0=>?_) (fun h0=>?_)⟩
   . have c1:1<=c:=by
       have:(0:Int)<c:=h0
       omega
     have hi:i<=n:=Nat.le_trans (Nat.le_mul_of_pos_right i c1) (by omega)
     have hm:m<=n:=by omega
     have sq:((b^i:Nat):Int)*((b^i:Nat):Int)=((b^(2*i):Nat):Int):=by rw[Nat.two_mul,Nat.pow_add];rfl
     have lt:((c:Int)/2).toNat<(c:Int).toNat:=by omega
     refine⟨_,rfl,_,_,rfl,rfl,d2.1,rfl,_,rfl,V0 (fun ho=>?_) (fun he=>?_)⟩
     . have ho:(c:Int) % 2=1:=by injection ho
       have mu:((b^m:Nat):Int)*((b^i:Nat):Int)=((b^(m+i):Nat):Int):=by rw[Nat.pow_add];rfl
       refine⟨_,rfl,_,rfl,_,_,rfl,rfl,A8w hb hm hi hn,_,rfl,_,rfl,_,_,rfl,rfl,A8w hb hi hi hn,_,rfl,_,_,rfl,rfl,d2,⟨rfl,2*i,m+i,c/2,?_,?_⟩,lt⟩
       . have e:i*c=i*(2*(c/2)+1):=congrArg (i* ·) (by omega)
         rw[Nat.mul_add,Nat.mul_one, <-Nat.mul_assoc,Nat.mul_comm i 2] at e
         omega
       . show [si (((b^i:Nat):Int)*((b^i:Nat):Int)),si ((c:Int)/2),si (((b^m:Nat):Int)*((b^i:Nat):Int))]=_
         rw[sq,mu]
         rfl
     . have he:¬(c:Int) % 2=1:=fun z=>he (congrArg V.int z)
       refine⟨_,rfl,_,rfl,_,_,rfl,rfl,A8w hb hi hi hn,_,rfl,_,_,rfl,rfl,d2,⟨rfl,2*i,m,c/2,?_,?_⟩,lt⟩
       . have e:i*c=i*(2*(c/2)):=congrArg (i* ·) (by omega)
         rw[<-Nat.mul_assoc,Nat.mul_comm i 2] at e
         omega
       . show [si (((b^i:Nat):Int)*((b^i:Nat):Int)),si ((c:Int)/2),si ((b^m:Nat):Int)]=_
         rw[sq]
         rfl
   . have c0:c=0:=by
       have:¬(0:Int)<c:=h0
       omega
     subst c0
     have hm:m=n:=by omega
     subst hm
     exact⟨_,rfl,k⟩
 rintro σ H2 Q1 Q2 hQ ⟨v,e,i,j,e1,e2,b,e3,q⟩
 exact⟨v,e,i,j,e1,e2,b,e3,hQ _ _ q⟩
def A5m:Sp:=fun vs H Q _=>∃n:Nat,vs=[.int (n:Int)]/\n<=4000/\Q (.int ((10^n:Nat):Int)) H
theorem D9n:B8 ["count"] ["count"] (A6 A4w):=scK
theorem C9c(D:Def K mg "ten_to" ["count"] A4w f fd)(dA:Def K mg "product_of" Q34 A3u f1 fd1)(dB:B9 P w K mg base 1 f1 fd1 Q34 A9y):B9 P w K mg base 2 f fd ["count"] A5m:=by
 refine D.F.ok2 D9n (fun vs H Q E h=>?_) (fun X cdv A outer s H vs Q E hX hr hx h=>?_)
 . obtain⟨n,rfl,_⟩:=h
   rfl
 subst hX
 obtain⟨n,rfl,hn,k⟩:=h
 refine⟨_,(A7 (B5 (G0 dA dB hr hx (A0 A2 (A0 (pv 0) A3))))),?_⟩
 exact⟨_,rfl,10,n,4,rfl,by decide,by omega,k⟩
inductive Kd where
 |plain|end_|none
noncomputable def Kd.str:Kd ->Str
 | .plain=>"plain"
 | .end_=>"end"
 | .none=>"none"
theorem Kd.str_inj{a b:Kd}(h:a.str=b.str):a=b:=by
 cases a<;>cases b<;>first|rfl|exact absurd h (by decide+kernel)
structure Nm where
 k:Kd
 s:Int
 f:Int
 p:Int
noncomputable def Nm.vs (x:Nm):List V:=[.str x.k.str,.int x.s,.int x.f,.int x.p]
structure Nm.Ok(x:Nm):Prop where
 s0:0<=x.s
 s1:x.s<=1
 f0:0<=x.f
 f1:x.f<=10^60-1
 p0: -200<=x.p
 p1:x.p<=200
def V3 (CN:Addr) (H:Hp) (n:Addr) (x:Nm):Prop:=A2r CN H n (.str x.k.str) (.int x.s) (.int x.f) (.int x.p)
theorem V3.same{CN:Addr}{H H':Hp}{n:Addr}{x:Nm}(h:V3 CN H n x)(e:A8 H H'):V3 CN H' n x:=A2r.same h e
theorem A2z.same{K:Frag}{CN:Addr}{H H':Hp}{v:V}(h:A2z K CN H v)(e:A8 H H'):A2z K CN H' v:=by
 obtain⟨t,ty,r⟩:=h
 exact⟨t,TyE.same ty e,r⟩
structure C3f(CN:Addr)(H:Hp)(l:Addr)(ns:List (Addr×Nm)):Prop where
 l:H l=some (.lst (ns.map fun p=>V.ref p.1))
 n:∀p∈ns,V3 CN H p.1 p.2
noncomputable def B0 (n:Int):Int:=((10^n.toNat:Nat):Int)
theorem Y4(n:Int):0<B0 n:=Int.natCast_pos.mpr (Nat.pow_pos (by decide))
theorem neS{a b:Kd}(h:¬V.str a.str=V.str b.str):a≠b:=fun q=>h (by rw[q])
theorem eqS{a b:Kd}(h:V.str a.str=V.str b.str):a=b:=Kd.str_inj (by injection h)
structure Nm.Bg(x:Nm):Prop where
 f0:0<=x.f
 f1:x.f<B0 120
 p0: -400<=x.p
 p1:x.p<=400
theorem Nm.Ok.bg{x:Nm}(h:x.Ok):x.Bg:=⟨h.f0,Int.lt_of_le_of_lt h.f1 (by decide+kernel),by have:=h.p0;omega,by have:=h.p1;omega⟩
theorem Nm.Bg.bits{x:Nm}(h:x.Bg):Builtin.Int.intBits x.f<=2^20:=by
 obtain⟨n,hn⟩:=Int.eq_ofNat_of_zero_le h.f0
 rw[hn]
 refine A7v (k:=400) ?_ (by decide)
 have:=h.f1
 have e:B0 120=((10^120:Nat):Int):=rfl
 have:n<10^120:=by omega
 exact Nat.lt_trans this (by decide+kernel)
noncomputable abbrev B0q:Stmt:=(top 24)
noncomputable abbrev A6c:Stmt:=(top 25)
noncomputable abbrev A7m:Stmt:=(top 27)
def B9h (K:Frag) (CN CB:Addr):Sp:=fun vs H Q E=>∃l ns,vs=[.ref l]/\(∀p∈(ns:List (Addr×Nm)),V3 CN H p.1 p.2)/\
 ((H l=some (.lst (ns.map fun p=>V.ref p.1))/\Q .non H)\/(∃v r,H l=some (.lst ((ns.map fun p=>V.ref p.1)++v::r))/\A2z K CN H v/\E (.ref CB) none H))
theorem scNeedNs:B8 ["things","thing"] ["things"] (A6 B0q):=scK
theorem C8c{f f1 CN CB:Addr}(D:Def K mg "need_numbers" ["things"] B0q f fd)(dA:Def K mg "need_number" ["thing"] B3f f1 fd1)(dB:B9 P w K mg base 1 f1 fd1 ["thing"] (C4q K CN CB)):B9 P w K mg base 2 f fd ["things"] (B9h K CN CB):=by
 refine D.F.ok2 scNeedNs (fun vs H Q E h=>?_) (fun X cdv A outer s H vs Q E hX hr hx h=>?_)
 . obtain⟨l,ns,rfl,_⟩:=h
   rfl
 subst hX
 obtain⟨l,ns,rfl,hn,h⟩:=h
 refine⟨_,(A7 (B6j PassesOwn.leaving hx.hd (A6v (pv 0)) (D4 (i:=1) scNeedNs.nd rfl (Or.inl rfl)) (A7 (Z3 (G0 dA dB hr hx (A0 (pv 1) A3)))))),?_⟩
 rcases h with⟨hl,k⟩|⟨v,r,hl,nv,k⟩
 . refine⟨_,rfl,l,rfl,⟨_,SqL.of hl⟩,A3g (xs:=ns.map fun p=>V.ref p.1) (fun i σ H'=>H'=H/\∃v,σ=[sr l,v]) ⟨rfl,none,rfl⟩ ?_ ?_ ?_⟩
   . rintro i σ H' _ ⟨rfl,_⟩
     exact SqL.of hl
   . rintro i x σ H' hi ⟨rfl,v,rfl⟩
     obtain⟨p,hp,rfl⟩:=List.mem_map.mp (List.mem_of_getElem? hi)
     exact⟨_,rfl,_,rfl,.inl ⟨p.1,_,_,_,_,rfl,hn p hp,rfl,_,rfl⟩⟩
   . rintro σ H' ⟨rfl,v,rfl⟩
     exact k
 refine⟨_,rfl,l,rfl,⟨_,SqL.of hl⟩,A3g (xs:=(ns.map fun p=>V.ref p.1)++v::r) (fun i σ H'=>H'=H/\i<=ns.length/\∃v,σ=[sr l,v]) ⟨rfl,Nat.zero_le _,none,rfl⟩ ?_ ?_ ?_⟩
 . rintro i σ H' _ ⟨rfl,_⟩
   exact SqL.of hl
 . rintro i x σ H' hi ⟨rfl,hle,u,rfl⟩
   by_cases hlt:i<ns.length
   . rw[List.getElem?_append_left (by simpa using hlt)] at hi
     obtain⟨p,hp,rfl⟩:=List.mem_map.mp (List.mem_of_getElem? hi)
     exact⟨_,rfl,_,rfl,.inl ⟨p.1,_,_,_,_,rfl,hn p hp,rfl,by omega,_,rfl⟩⟩
   . have e:i=ns.length:=by omega
     subst e
     rw[List.getElem?_append_right (by simp)] at hi
     simp at hi
     subst hi
     exact⟨_,rfl,_,rfl,.inr ⟨nv,k⟩⟩
 rintro σ H' ⟨rfl,hle,_⟩
 exfalso
 rw[List.length_append,List.length_map,List.length_cons] at hle
 omega
def A7k (CN:Addr):Sp:=fun vs H Q _=>∃l ns z,vs=[.ref l,.str z]/\C3f CN H l ns/\ns.length<=1000/\∀H',A8 H H' ->Q (.bl (ns.any fun p=>decide (p.2.k.str=z))) H'
theorem D9b:B8 Q9 Q9 (A6 A6c):=scK
theorem G3k(ns:List (Addr×Nm))(z:Str):(ns.map fun p=>decide (p.2.k.str=z)).any id=ns.any fun p=>decide (p.2.k.str=z):=by rw[List.any_map];rfl
theorem dec_str{a b:Str}:decide (V.str a=V.str b)=decide (a=b):=by
 by_cases h:a=b
 . rw[decide_eq_true h,decide_eq_true (congrArg V.str h)]
 rw[decide_eq_false h,decide_eq_false fun q=>h (by injection q)]
theorem D2h{f CN:Addr}(D:Def K mg "some_of_kind" Q9 A6c f fd)(O:Own mg)(N:Num K mg CN):B9 P w K mg base 1 f fd Q9 (A7k CN):=by
 refine D.F.ok2 D9b (fun vs H Q E h=>?_) (fun X cdv A outer s H vs Q E hX hr hx h=>?_)
 . obtain⟨l,ns,z,rfl,_⟩:=h
   rfl
 subst hX
 obtain⟨l,ns,z,rfl,⟨hl,hn⟩,hz,k⟩:=h
 refine⟨_,(A7 (B5 (V7 (C7x hx.hd) (by rfl) O.any_ boot_any (A0 (C7b (N:=["number"]) (F:=["kind"]) (js:=[1]) (D3.of1 ⟨rfl,by decide+kernel,by decide+kernel,by decide+kernel,by decide+kernel⟩ (by rfl) (by rfl) ⟨_,by rfl⟩ (by rfl) (by rfl)) hx.hd (A6v (pv 0)) rfl (fun C s₀ H₀ ex pn h=>D4 (i:=0) (by decide+kernel:(["number","kind"]:List Str).Nodup) rfl (Or.inl rfl)) (fun C s₀ H₀ ex pn h=>(G5 G8 (G0u (K:=K) rfl (pv 0) rfl) (pv 1) (C6 _)))) A3)))),?_⟩
 refine⟨_,rfl,l,rfl,⟨_,SqL.of hl⟩,A1m (J:=Itl K l) (n:=ns.length) (fun i y _=>∃p,ns[i]?=some p/\y= .bl (decide (p.2.k.str=z))) hz (fun _ _ _ _ _ _ h _ _=>h) (fun i H2 Qy hi sm hy=>⟨⟨_,V.ref ns[i].1,SqL.of (sm _ _ hl),by simp[hi]⟩,fun x H3 yl=>?_⟩) (fun H2 sm=>⟨_,SqL.of (sm _ _ hl),by simp⟩) (fun D H' ys sm nD eD hlen hR=>?_)⟩
 . obtain⟨rfl,yl⟩:=yl
   have ex:x=V.ref ns[i].1:=by
     have:=yl _ (SqL.of (sm _ _ hl))
     simp[hi] at this
     exact this.symm
   subst ex
   obtain⟨dx,e⟩:=(hn _ (List.getElem_mem hi)).same sm
   refine⟨_,rfl,ns[i].1,CN,dx,_,_,rfl,e,N.cl,N.n1,num1 _ _ _ _,_,rfl,rfl,hy _ _ (A8.refl _) ⟨ns[i],by simp[hi],?_⟩⟩
   rw[dec_str]
 have ey:ys=(ns.map fun p=>decide (p.2.k.str=z)).map V.bl:=by
   apply List.ext_getElem?
   intro i
   by_cases hi:i<ns.length
   . obtain⟨p,hp,hy⟩:=hR i ys[i] (by simp[hlen,hi])
     rw[List.getElem?_eq_getElem (by omega),hy]
     simp[hp]
   . rw[List.getElem?_eq_none (by omega),List.getElem?_eq_none (by simp;omega)]
 subst ey
 refine⟨D,_,rfl,SqL.of eD,?_⟩
 rw[G3k]
 exact k H' sm
noncomputable def Nm.wh (x:Nm) (q:Int):Int:=if x.s=1 then -(x.f*B0 (x.p-q)) else x.f*B0 (x.p-q)
def B5t (CN:Addr):Sp:=fun vs H Q _=>∃n x q,vs=[.ref n,.int q]/\V3 CN H n x/\x.Bg/\0<=x.p-q/\x.p-q<=1000/\Q (.int (x.wh q)) H
theorem scWholeAt:B8 ["number","power","size"] Q35 (A6 A7m):=scK
theorem Nm.Ok.bits{x:Nm}(h:x.Ok):Builtin.Int.intBits x.f<=2^20:=by
 obtain⟨n,hn⟩:=Int.eq_ofNat_of_zero_le h.f0
 rw[hn]
 refine A7v (k:=200) ?_ (by decide)
 have:=h.f1
 have e:((10^60:Nat):Int)=10^60:=by decide+kernel
 have:n<10^60:=by omega
 exact Nat.lt_trans this (by decide+kernel)
theorem A8n{d:Int}(h:d<=4000):Builtin.Int.intBits (B0 d)<=2^20:=B3g (b:=10) (s:=4) (n:=4000) (by decide) (by omega) (by decide)
theorem C2v{f f1 CN:Addr}(D:Def K mg "whole_at" Q35 A7m f fd)(dA:Def K mg "ten_to" ["count"] A4w f1 fd1)(dB:B9 P w K mg base 2 f1 fd1 ["count"] A5m)(N:Num K mg CN):B9 P w K mg base 3 f fd Q35 (B5t CN):=by
 refine D.F.ok2 scWholeAt (fun vs H Q E h=>?_) (fun X cdv A outer s H vs Q E hX hr hx h=>?_)
 . obtain⟨n,x,q,rfl,_⟩:=h
   rfl
 subst hX
 obtain⟨n,x,q,rfl,⟨dx,e⟩,ok,h0,h1,k⟩:=h
 refine⟨_,(A5 (D5 (i:=2) scWholeAt.nd rfl (Or.inl rfl) (B7 U9 (J0 (pv 0) rfl) (G0 dA dB hr hx (A0 (B7 Y2 (J0 (pv 0) rfl) (pv 1)) A3)))) (A7 (B5 (A0p (C8 G8 (J0 (pv 0) rfl) A2 (C6 _)) (A2k A1b (pv 2)) (pv 2))))),?_⟩
 have mu:IntMulOk x.f (B0 (x.p-q)):=IntMulOk.of_bits ok.bits (A8n (by omega))
 refine⟨_,rfl,n,CN,dx,_,_,rfl,e,N.cl,N.n3,B3z _ _ _ _,_,rfl,n,CN,dx,_,_,rfl,e,N.cl,N.n4,num4 _ _ _ _,_,rfl,_,_,rfl,rfl,(x.p-q).toNat,(by rw[Int.toNat_of_nonneg h0];rfl),by omega,_,_,rfl,rfl,mu,?_⟩
 refine⟨_,rfl,n,CN,dx,_,_,rfl,e,N.cl,N.n2,num2 _ _ _ _,rfl,_,rfl,?_⟩
 unfold Nm.wh at k
 refine V0 (fun h=>?_) (fun h=>?_)
 . rw[if_pos (by injection h)] at k
   exact⟨_,rfl,_,rfl,k⟩
 rw[if_neg fun q=>h (congrArg V.int q)] at k
 exact⟨_,rfl,k⟩
noncomputable def A1h (left low:Int):Int:=(if decide (0<left)=true then 1 else 0)+(if decide (low<=2*left)=true then 1 else 0)+(if decide (low<2*left)=true then 1 else 0)
theorem G8m(s:Int):(if(0:Int)>s then 0 else s)=((s.toNat:Nat):Int):=by
 by_cases h:(0:Int)>s
 . rw[if_pos h];omega
 rw[if_neg h];omega
def A1e (t b s:Int):Prop:=b*B0 (-s)<=t*B0 s/\t*B0 s<10*(b*B0 (-s))
theorem B2n{s r:Int}(h:s<=r):B0 r*B0 (-s)=B0 s*B0 (-r)*B0 (r-s):=by
 have ad:∀{a b c:Int},0<=a ->0<=b ->c=a+b ->B0 c=B0 a*B0 b:=fun ha hb e=>by
   subst e
   unfold B0
   rw[Int.toNat_add ha hb,Nat.pow_add]
   exact Int.natCast_mul _ _
 have z:∀{a:Int},a<=0 ->B0 a=1:=fun h=>by
   unfold B0
   rw[Int.toNat_of_nonpos h]
   rfl
 rcases Int.le_total 0 s with hs|hs
 . rw[z (a:= -s) (by omega),z (a:= -r) (by omega),Int.mul_one,Int.mul_one]
   exact ad hs (by omega) (by omega)
 rcases Int.le_total 0 r with hr|hr
 . rw[z hs,z (a:= -r) (by omega),Int.one_mul,Int.one_mul]
   exact(ad hr (by omega) (by omega)).symm
 rw[z hr,z hs,Int.one_mul,Int.one_mul]
 exact ad (by omega) (by omega) (by omega)
theorem D9e{d:Int}(h:1<=d):10<=B0 d:=by
 unfold B0
 have:10^1<=10^d.toNat:=Nat.pow_le_pow_right (by decide) (by omega)
 omega
theorem A2c{a b:Int}(h:a<=b):B0 a<=B0 b:=by
 unfold B0
 exact Int.ofNat_le.mpr (Nat.pow_le_pow_right (by decide) (by omega))
theorem C5n{t b s r:Int}(hb:0<b)(h1:A1e t b s)(h2:A1e t b r):r<=s:=by
 apply Classical.byContradiction
 intro h
 have hs:s<=r:=by omega
 have c:=B2n hs
 have g:=D9e (d:=r-s) (by omega)
 have p1:=Y4 (-s)
 have p2:=Y4 (-r)
 have l1:0<b*B0 (-s):=Int.mul_pos hb p1
 have l2:0<b*B0 (-r):=Int.mul_pos hb p2
 have e:t*B0 r*(b*B0 (-s))=t*B0 s*(b*B0 (-r))*B0 (r-s):=by
   calc t*B0 r*(b*B0 (-s))=t*b*(B0 r*B0 (-s)):=by ac_rfl
     _=t*b*(B0 s*B0 (-r)*B0 (r-s)):=by rw[c]
     _=t*B0 s*(b*B0 (-r))*B0 (r-s):=by ac_rfl
 have a1:t*B0 r*(b*B0 (-s))<10*(b*B0 (-r))*(b*B0 (-s)):=Int.mul_lt_mul_of_pos_right h2.2 l1
 have hp:0<t*B0 s:=Int.lt_of_lt_of_le l1 h1.1
 have a2:t*B0 s*(b*B0 (-r))*10<=t*B0 s*(b*B0 (-r))*B0 (r-s):=Int.mul_le_mul_of_nonneg_left g (Int.le_of_lt (Int.mul_pos hp l2))
 have a3:b*B0 (-s)*(b*B0 (-r))<=t*B0 s*(b*B0 (-r)):=Int.mul_le_mul_of_nonneg_right h1.1 (Int.le_of_lt l2)
 have e2:10*(b*B0 (-r))*(b*B0 (-s))=b*B0 (-s)*(b*B0 (-r))*10:=by ac_rfl
 have a4:b*B0 (-s)*(b*B0 (-r))*10<=t*B0 s*(b*B0 (-r))*10:=Int.mul_le_mul_of_nonneg_right a3 (by decide)
 rw[e] at a1
 rw[e2] at a1
 exact absurd (Int.lt_of_lt_of_le a1 (Int.le_trans a4 a2)) (Int.lt_irrefl _)
theorem C4c{t b s r:Int}(hb:0<b)(h1:A1e t b s)(h2:A1e t b r):s=r:=Int.le_antisymm (C5n hb h2 h1) (C5n hb h1 h2)
def Sz (t:Int):Prop:=1<=t/\t<B0 1000
theorem C3w(n:Nat):10^n<=2^(4*n):=by
 rw[Nat.pow_mul]
 exact Nat.pow_le_pow_left (by decide) n
theorem D2t(n:Nat):10^(3*n)<=2^(10*n):=by
 rw[Nat.pow_mul,Nat.pow_mul]
 exact Nat.pow_le_pow_left (by decide) n
theorem Sz.nat{t:Int}(h:Sz t):∃n:Nat,t=(n:Int)/\1<=n/\n<10^1000:=by
 obtain⟨n,rfl⟩:=Int.eq_ofNat_of_zero_le (show 0<=t by have:=h.1;omega)
 exact⟨n,rfl,Int.ofNat_le.mp h.1,Int.ofNat_lt.mp h.2⟩
theorem B6a{t s:Int}(ht:Sz t)(h:s<=1500):∃n:Nat,t*B0 s=(n:Int)/\n<10^2502:=by
 obtain⟨n,rfl,_,hn⟩:=ht.nat
 refine⟨n*10^s.toNat,rfl,?_⟩
 have a:10^s.toNat<=10^1502:=Nat.pow_le_pow_right (by decide) (by omega)
 calc n*10^s.toNat<=n*10^1502:=Nat.mul_le_mul_left n a
   _<10^1000*10^1502:=Nat.mul_lt_mul_of_pos_right hn (Nat.pow_pos (by decide))
   _=10^2502:=by rw[<-Nat.pow_add]
theorem B8n{n:Nat}(h:n<10^2502):Builtin.Int.intBits (n:Int)<=2^20:=A7v (k:=4*2502) (Nat.lt_of_lt_of_le h (C3w 2502)) (by decide)
theorem D9d{t:Int}(h:Sz t):Builtin.Int.intBits t<=2^20:=by
 obtain⟨n,rfl,_,hn⟩:=h.nat
 exact A7v (k:=4*1000) (Nat.lt_of_lt_of_le hn (C3w 1000)) (by decide)
theorem A4x{t s:Int}(ht:Sz t)(h:s<=1500):IntMulOk t (B0 s):=IntMulOk.of_bits (D9d ht) (A8n (by omega))
theorem D0v{b s:Int}(hb:Sz b)(h:s<=1500):(b*B0 s).natAbs.log2<9000:=by
 obtain⟨n,e,hn⟩:=B6a hb h
 rw[e]
 have:n<2^8340:=Nat.lt_of_lt_of_le hn (D2t 834)
 exact Nat.lt_trans (A6d (i:=(n:Int)) (k:=8340) (by rw[Int.natAbs_natCast];exact this) (by decide)) (by decide)
noncomputable def whI (t b s:Int):Int:=t*B0 s/(b*B0 (-s))
noncomputable def ptI (t b s:Int):Int:=A1h (t*B0 s-whI t b s*(b*B0 (-s))) (b*B0 (-s))
theorem G0x{t b s:Int}(hb:0<b):0<=t*B0 s-whI t b s*(b*B0 (-s))/\t*B0 s-whI t b s*(b*B0 (-s))<b*B0 (-s):=by
 have l:=Int.mul_pos hb (Y4 (-s))
 have e:=Int.emod_add_mul_ediv (t*B0 s) (b*B0 (-s))
 have a:=Int.emod_nonneg (t*B0 s) (Int.ne_of_gt l)
 have c:=Int.emod_lt_of_pos (t*B0 s) l
 have e2:whI t b s*(b*B0 (-s))=b*B0 (-s)*(t*B0 s/(b*B0 (-s))):=Int.mul_comm _ _
 omega
theorem G9v{t b s:Int}(ht:Sz t)(hb:Sz b)(h1: -1500<=s)(h2:s<=1500):IntMulOk (whI t b s) (b*B0 (-s)):=by
 obtain⟨n,e,hn⟩:=B6a hb (s:= -s) (by omega)
 obtain⟨k,e',hk⟩:=B6a ht h2
 unfold whI
 rw[e,e']
 exact IntMulOk.of_bits (B8n (Nat.lt_of_le_of_lt (Nat.div_le_self k n) hk)) (B8n hn)
noncomputable abbrev A3w:Stmt:=(U3 (top 6) 0)
structure C3e(K:Frag)(mg:Str ->Option Value)(CR CE:Addr):Prop where
 g:mg "Ratio"=some (.ref CR)
 ge:mg "Exact"=some (.ref CE)
 cl:Cls K CR
 n_top:A0f K CR "top"
 n_bottom:A0f K CR "bottom"
 n_power:A0f K CR "power"
 ca:findIn K (.ref CR) "__class__"=some (some (.builtin "object.__class__"))
 sn:specialIn K (.builtin "object.__class__") "__get__"=some (some (.builtin "getset_descriptor.__get__"))
 tk:takesIn K (.builtin "object.__class__")=some true
 ob:mroIn K CR (.type "object")=some true
 up:kitOne K (.ref CR) (.ref CE)=some true
noncomputable def B7n (t b n:V):List (Str×V):=Y9 "power" n (Y9 "bottom" b (Y9 "top" t []))
theorem B2w(t b n:V)(x:Str):(B7n t b n).lookup x=if x="power" then some n else if x="bottom" then some b else if x="top" then some t else none:=by
 unfold B7n
 rw[J9,J9,J9]
 rfl
theorem C4u(t b n:V):(B7n t b n).lookup ("top":Str)=some t:=by rw[B2w,if_neg (by decide+kernel),if_neg (by decide+kernel),if_pos rfl]
theorem B2e(t b n:V):(B7n t b n).lookup ("bottom":Str)=some b:=by rw[B2w,if_neg (by decide+kernel),if_pos rfl]
theorem B5r(t b n:V):(B7n t b n).lookup ("power":Str)=some n:=by rw[B2w,if_pos rfl]
theorem A7f(t b n:V):(B7n t b n).lookup ("first":Str)=none:=by rw[B2w,if_neg (by decide+kernel),if_neg (by decide+kernel),if_neg (by decide+kernel)]
theorem B4t(t b n:V):(B7n t b n).lookup ("at":Str)=none:=by rw[B2w,if_neg (by decide+kernel),if_neg (by decide+kernel),if_neg (by decide+kernel)]
def A8c (CR:Addr) (H:Hp) (x:Addr) (t b n:Int):Prop:=∃dx,H x=some (.ins CR dx (B7n (.int t) (.int b) (.int n)))
theorem A8c.same{CR:Addr}{H H':Hp}{x:Addr}{t b n:Int}(h:A8c CR H x t b n)(s:A8 H H'):A8c CR H' x t b n:=by
 obtain⟨dx,e⟩:=h
 exact⟨dx,s _ _ e⟩
def B7w (CR:Addr):Sp:=fun vs H Q _=>∃(p dx:Addr) (t b n:V),vs=[.ref p,t,b,n]/\H p=some (.ins CR dx [])/\∀H',H' p=some (.ins CR dx (B7n t b n)) ->Exc p H H' ->Q .non H'
theorem G1d:B8 Q15 Q15 (A6 A3w):=scK
theorem D3p{f CR CE:Addr}{dV:Value}(F:D3u K "__init__" "Ratio.__init__" A3w dV f fd)(R:C3e K mg CR CE):B9 P w K mg base 1 f fd Q15 (B7w CR):=by
 refine F.ok2 G1d (fun vs H Q E h=>?_) (fun X cdv A outer s H vs Q E hX hr hx h=>?_)
 . obtain⟨p,dx,a,b,c,rfl,_⟩:=h
   rfl
 subst hX
 obtain⟨p,dx,a,b,c,rfl,hp,k⟩:=h
 refine⟨_,(A5 (A0x (pv 0) (pv 1) rfl) (A5 (A0x (pv 0) (pv 2) rfl) (A7 (A0x (pv 0) (pv 3) rfl)))),?_⟩
 have l:∀(fs:List (Str×V)) (f:Str) (v:V) (n:Nat),fs.length<=n ->(Y9 f v fs).length<=n+1:=fun fs f v n h=>Nat.le_trans (A1r f v fs) (Nat.succ_le_succ h)
 refine⟨_,rfl,_,rfl,p,CR,dx,[],rfl,hp,R.cl,R.n_top,(by show 0<1000;decide),?_⟩
 refine⟨_,rfl,_,rfl,p,CR,dx,_,rfl,A4,R.cl,R.n_bottom,Nat.lt_of_le_of_lt (l _ _ _ 0 (Nat.le_refl _)) (by decide),?_⟩
 refine⟨_,rfl,_,rfl,p,CR,dx,_,rfl,A4,R.cl,R.n_power,Nat.lt_of_le_of_lt (l _ _ _ 1 (l _ _ _ 0 (Nat.le_refl _))) (by decide),?_⟩
 refine k _ A4 fun b o e hb=>?_
 rw[D0 hb,D0 hb,D0 hb]
 exact e
def C0p (CR:Addr):Sp:=fun vs H Q _=>∃x t b n,vs=[.ref x]/\A8c CR H x t b n/\Sz t/\Sz b/\∀f H',A8 H H' ->A1e t b (n-f) ->Q (.int f) H'
def D2q (CR:Addr):Sp:=fun vs H Q _=>∃x t b n p,vs=[.ref x,.int p]/\A8c CR H x t b n/\Sz t/\Sz b/\ -1500<=n-p/\n-p<=1500/\
 ∀q H',A8 H H' ->H q=none ->H' q=some (.tup [.int (whI t b (n-p)),.int (ptI t b (n-p))]) ->Q (.ref q) H'
structure G3e(P:Program)(w:World)(K:Frag)(mg:Str ->Option Value)(base:Heap)(CR fI:Addr)(fdI:FuncData)(d0:Value)(gP:List Value ->List Value ->List Value)(vP:List V ->List V ->List V):Prop where
 m:Mk K CR fI
 g:B9 P w K mg base 1 fI fdI Q15 (B7w CR)
 b3:Y6 K fdI Q15 []
 b2:Y6 K fdI Q15 [d0]
 r0:V4 (.int 0) d0
 kP:G6n K fdI Q15 ["power"] gP vP
 eP:∀x a b c,vP [x,a,b] [c]=[x,a,b,c]
structure G6p(P:Program)(w:World)(K:Frag)(mg:Str ->Option Value)(base:Heap)(CR f1 f2:Addr)(fd1 fd2:FuncData):Prop where
 m1:A8b K CR "first" f1
 g1:B9 P w K mg base 4 f1 fd1 ["self"] (C0p CR)
 b1:Y6 K fd1 ["self"] []
 m2:A8b K CR "at" f2
 g2:B9 P w K mg base 3 f2 fd2 Q19 (D2q CR)
 b2:Y6 K fd2 Q19 []
theorem G3c{CR x dx:Addr}{H:Hp}{Q:VK}{E:XK}{t b n:Int}(n1:H x=none)(n2:H dx=none)(ne:dx≠x)(k:∀H',A8 H H' ->A8c CR H' x t b n ->Q .non H'):
   B7w CR [.ref x,.int t,.int b,.int n] (upd (upd H dx (.own x)) x (.ins CR dx [])) Q E:=
 ⟨x,dx,_,_,_,rfl,A4,fun H' e s=>k H' (fun c o z=>s c o (by rw[D0 (D8 z n1),D0 (D8 z n2)];exact z) (D8 z n1)) ⟨dx,e⟩⟩
noncomputable abbrev B0z:Stmt:=(top 7)
def B9u:Sp:=fun vs H Q _=>∃l m:Int,vs=[.int (2*l),.int m]/\0<=l/\0<m/\Q (.int (A1h l m)) H
theorem D1q:B8 Q20 Q20 (A6 B0z):=scK
theorem D9z{m:Int}(hm:0<m):A1h 0 m=0:=by
 unfold A1h
 rw[decide_eq_false (by omega:¬(0:Int)<0),decide_eq_false (by omega:¬m<=2*0),decide_eq_false (by omega:¬m<2*0)]
 rfl
theorem G1p{l m:Int}(hl:0<l)(h:2*l<m):A1h l m=1:=by
 unfold A1h
 rw[decide_eq_true hl,decide_eq_false (by omega:¬m<=2*l),decide_eq_false (by omega:¬m<2*l)]
 rfl
theorem G1j{l m:Int}(hl:0<l)(h:2*l=m):A1h l m=2:=by
 unfold A1h
 rw[decide_eq_true hl,decide_eq_true (by omega:m<=2*l),decide_eq_false (by omega:¬m<2*l)]
 rfl
theorem D8u{l m:Int}(hl:0<l)(h:m<2*l):A1h l m=3:=by
 unfold A1h
 rw[decide_eq_true hl,decide_eq_true (by omega:m<=2*l),decide_eq_true h]
 rfl
theorem C7t(D:Def K mg "part_of" Q20 B0z f fd):B9 P w K mg base 1 f fd Q20 B9u:=by
 refine D.F.ok2 D1q (fun vs H Q E h=>?_) (fun X cdv A outer s H vs Q E hX hr hx h=>?_)
 . obtain⟨l,m,rfl,_⟩:=h
   rfl
 subst hX
 obtain⟨l,m,rfl,hl,hm,k⟩:=h
 refine⟨_,(A5 (J1 (C8 G8 (pv 0) A2 (C6 _)) (A7 (B5 A2)) D6) (A5 (J1 (C8 A2t (pv 0) (pv 1) (C6 _)) (A7 (B5 A2)) D6) (A7 (B5 (A0p (C8 G8 (pv 0) (pv 1) (C6 _)) A2 A2))))),?_⟩
 refine⟨_,rfl,rfl,_,rfl,V0 (fun h0=>?_) (fun h0=>?_)⟩
 . have e:l=0:=by
     have:2*l=0:=by injection h0
     omega
   subst e
   rw[D9z hm] at k
   exact k
 have hl':0<l:=by
   apply Classical.byContradiction
   intro z
   exact h0 (by rw[show l=0 by omega];rfl)
 refine⟨_,rfl,_,rfl,_,_,rfl,rfl,_,rfl,V0 (fun h1=>?_) (fun h1=>?_)⟩
 . rw[G1p hl' h1] at k
   exact k
 refine⟨_,rfl,_,rfl,rfl,_,rfl,V0 (fun h2=>?_) (fun h2=>?_)⟩
 . rw[G1j hl' (by injection h2)] at k
   exact k
 rw[D8u hl' (by
   have:2*l≠m:=fun z=>h2 (by rw[z])
   omega)] at k
 exact k
noncomputable abbrev B7u:Stmt:=(top 8)
theorem C1d(k:Nat):10^(k*301029995/10^9)<=2^k:=by
 have hm:k*301029995/10^9*28738<=k*8651:=by
   have:k*301029995/10^9*10^9<=k*301029995:=Nat.div_mul_le_self _ _
   omega
 generalize k*301029995/10^9=m at hm
 have c:(10:Nat)^8651<=2^28738:=by decide+kernel
 have a:(10^m)^8651<=(2^k)^8651:=by
   calc (10^m)^8651=(10^8651)^m:=by rw[<-Nat.pow_mul, <-Nat.pow_mul,Nat.mul_comm]
     _<=(2^28738)^m:=Nat.pow_le_pow_left c m
     _=2^(m*28738):=by rw[<-Nat.pow_mul,Nat.mul_comm]
     _<=2^(k*8651):=Nat.pow_le_pow_right (by decide) hm
     _=(2^k)^8651:=by rw[<-Nat.pow_mul]
 exact(Nat.pow_le_pow_iff_left (by decide)).mp a
def C3t:Sp:=fun vs H Q _=>∃n:Nat,vs=[.int (n:Int)]/\1<=n/\n<10^3000/\∀L:Nat,10^L<=n ->n<10^(L+1) ->Q (.int (L:Int)) H
theorem scWLead:B8 ["whole","lead","beyond"] ["whole"] (A6 B7u):=scK
theorem C9x(D:Def K mg "whole_lead" ["whole"] B7u f fd)(dA:Def K mg "ten_to" ["count"] A4w f1 fd1)(dB:B9 P w K mg base 2 f1 fd1 ["count"] A5m):B9 P w K mg base 3 f fd ["whole"] C3t:=by
 refine D.F.ok2 scWLead (fun vs H Q E h=>?_) (fun X cdv A outer s H vs Q E hX hr hx h=>?_)
 . obtain⟨n,rfl,_⟩:=h
   rfl
 subst hX
 obtain⟨n,rfl,n1,n2,k⟩:=h
 refine⟨_,(A5 (A9 (D5 (i:=1) scWLead.nd rfl (Or.inl rfl) (B7 U1 (B7 U9 (B7 Y2 (D1b PySem.F.plainAttrs_int PySem.F.slot_int_bit_length PySem.F.type_int_bit_length B4b (pv 0)) A2) A2) (B7 C9y A2 A2)))) (A5 (A9 (D5 (i:=2) scWLead.nd rfl (Or.inl rfl) (G0 dA dB hr hx (A0 (B7 V1 (pv 1) A2) A3)))) (A5 (A9 (A7r PassesOwn.leaving (C8 C3v (pv 2) (pv 0) (C6 _)) (A5 (G5w (i:=1) scWLead.nd rfl (Or.inl rfl) A2 G4u) (A7 (D5 (i:=2) scWLead.nd rfl (Or.inl rfl) (B7 U9 (pv 2) A2)))))) (A7 (B5 (pv 1)))))),?_⟩
 have mC:∀z n:Int, -(2^64)<n ->n<2^64 ->IntMulOk z n:=fun z n a b=>A3m.ok (.inr ⟨a,b⟩)
 have pw:G5q 10 9:=⟨by decide,by decide,by decide⟩
 have l3:∀{L:Nat},10^L<=n ->L<3000:=fun hL=>(Nat.pow_lt_pow_iff_right (by decide:1<10)).mp (Nat.lt_of_le_of_lt hL n2)
 refine⟨fun σ H'=>H'=H/\∃L:Nat,10^L<=n/\σ=[si (n:Int),si (L:Int),none],?_,?_⟩
 . refine⟨_,rfl,rfl,_,rfl,rfl,_,_,rfl,rfl,_,_,rfl,rfl,mC _ _ (by decide) (by decide),_,_,rfl,rfl,pw,_,_,rfl,rfl,⟨by decide,by decide+kernel⟩,rfl,n.log2*301029995/10^9,?_,?_⟩
   . exact Nat.le_trans (C1d _) (Nat.log2_self_le (by omega))
   . have e:(Builtin.Int.intBits (n:Int):Nat)=n.log2+1:=by
       unfold Builtin.Int.intBits
       rw[if_neg (by simp;omega)]
       rfl
     show [si (n:Int),si ((((Builtin.Int.intBits (n:Int):Nat):Int)-1)*301029995/(10^Int.toNat 9:Int)),none]=_
     rw[e,show((n.log2+1:Nat):Int)-1=(n.log2:Int) by omega]
     rfl
 refine L2.hideG fun Z_ z_=>?_
 rintro σ H' ⟨rfl,L0,hL0,rfl⟩
 subst z_
 refine⟨fun σ H2=>H2=H'/\∃L:Nat,10^L<=n/\σ=[si (n:Int),si (L:Int),si ((10^(L+1):Nat):Int)],?_,?_⟩
 . have:=l3 hL0
   exact⟨_,rfl,_,_,rfl,rfl,L0+1,rfl,by omega,rfl,L0,hL0,rfl⟩
 refine L2.hideG fun Z_ z_=>?_
 rintro σ H2 ⟨rfl,L1,hL1,rfl⟩
 subst z_
 refine⟨fun σ H3=>H3=H2/\∃L:Nat,10^L<=n/\n<10^(L+1)/\σ=[si (n:Int),si (L:Int),si ((10^(L+1):Nat):Int)],?_,?_⟩
 . refine A7p (fun σ H3=>H3=H2/\∃L:Nat,10^L<=n/\σ=[si (n:Int),si (L:Int),si ((10^(L+1):Nat):Int)]) (fun σ _=>match σ with| [_,some (.int c),_]=>n-c.toNat|_=>0) ?_ ?_ ?_
   . exact⟨rfl,L1,hL1,rfl⟩
   . rintro σ H3 ⟨rfl,L,hL,rfl⟩
     refine⟨_,rfl,_,rfl,_,_,rfl,rfl,_,rfl,V0 (fun hle=>?_) (fun hgt=>?_)⟩
     . have hle:10^(L+1)<=n:=Int.ofNat_le.mp hle
       refine⟨_,rfl,_,_,rfl,rfl,_,rfl,_,_,rfl,rfl,mC _ _ (by decide) (by decide),⟨rfl,L+1,hle,?_⟩,?_⟩
       . show [si (n:Int),si ((L:Int)+1),si (((10^(L+1):Nat):Int)*10)]=_
         rw[show((10^(L+1):Nat):Int)*10=((10^(L+1+1):Nat):Int) by rw[Nat.pow_succ 10 (L+1)];rfl]
         rfl
       have lt:L+1<10^(L+1):=Nat.lt_pow_self (by decide)
       show n-((L:Int)+1).toNat<n-(L:Int).toNat
       omega
     . have hgt:¬10^(L+1)<=n:=fun z=>hgt (Int.ofNat_le.mpr z)
       exact⟨rfl,L,hL,by omega,rfl⟩
   . rintro σ H2 Q1 Q2 hQ ⟨v,e,v2,e4,i2,j2,e5,e6,b,e7,q⟩
     exact⟨v,e,v2,e4,i2,j2,e5,e6,b,e7,hQ _ _ q⟩
 refine L2.hideG fun Z_ z_=>?_
 rintro σ H3 ⟨rfl,L,h1,h2,rfl⟩
 subst z_
 exact⟨_,rfl,k L h1 h2⟩
noncomputable abbrev D2r:Stmt:=(U3 (top 6) 2)
noncomputable abbrev B2c:Stmt:=(U3 (top 6) 1)
theorem scRAt:B8 ["self","power","shift","top","bottom","whole"] Q19 (A6 D2r):=scK
theorem G3r{f f1 f2 CR CE:Addr}(F:Fun K "at" "Ratio.at" D2r f fd)(dA:Def K mg "ten_to" ["count"] A4w f1 fd1)(dB:B9 P w K mg base 2 f1 fd1 ["count"] A5m)
   (dC:Def K mg "part_of" Q20 B0z f2 fd2) (dD:B9 P w K mg base 1 f2 fd2 Q20 B9u) (R:C3e K mg CR CE) (O:Own mg):B9 P w K mg base 3 f fd Q19 (D2q CR):=by
 refine F.ok2 scRAt (fun vs H Q E h=>?_) (fun X cdv A outer s H vs Q E hX hr hx h=>?_)
 . obtain⟨x,t,b,n,p,rfl,_⟩:=h
   rfl
 subst hX
 obtain⟨x,t,b,n,p,rfl,⟨dx,e⟩,ht,hb,h1,h2,k⟩:=h
 refine⟨_,(A5 (D5 (i:=2) scRAt.nd rfl (Or.inl rfl) (B7 Y2 (J0 (pv 0) rfl) (pv 1))) (A5 (D5 (i:=3) scRAt.nd rfl (Or.inl rfl) (B7 U9 (J0 (pv 0) rfl) (G0 dA dB hr hx (A0 (V7 (A3t hx.hd) (by rfl) O.max_ boot_max (A0 (pv 2) (A0 A2 A3))) A3)))) (A5 (D5 (i:=4) scRAt.nd rfl (Or.inl rfl) (B7 U9 (J0 (pv 0) rfl) (G0 dA dB hr hx (A0 (V7 (A3t hx.hd) (by rfl) O.max_ boot_max (A0 (A2k A1b (pv 2)) (A0 A2 A3))) A3)))) (A5 (D5 (i:=5) scRAt.nd rfl (Or.inl rfl) (B7 U1 (pv 3) (pv 4))) (A7 (B5 (U7 (A0 (pv 5) (A0 (G0 dC dD hr hx (A0 (B7 U9 A2 (B7 Y2 (pv 3) (B7 U9 (pv 5) (pv 4)))) (A0 (pv 4) A3))) A3))))))))),?_⟩
 have z2:2<=sizeLine:=C9 (by decide)
 have mC':∀z n:Int, -(2^64)<n ->n<2^64 ->IntMulOk n z:=fun z n a b=>A3m.ok (.inl ⟨a,b⟩)
 have hb0:0<b:=by have:=hb.1;omega
 refine⟨_,rfl,x,CR,dx,_,_,rfl,e,R.cl,R.n_power,B5r _ _ _,_,rfl,_,_,rfl,rfl,?_⟩
 refine⟨_,rfl,x,CR,dx,_,_,rfl,e,R.cl,R.n_top,C4u _ _ _,_,rfl,_,_,rfl,(n-p).toNat,congrArg (fun z=>[V.int z]) (G8m (n-p)),by omega,_,_,rfl,rfl,A4x ht h2,?_⟩
 refine⟨_,rfl,x,CR,dx,_,_,rfl,e,R.cl,R.n_bottom,B2e _ _ _,_,rfl,_,rfl,_,_,rfl,(-(n-p)).toNat,congrArg (fun z=>[V.int z]) (G8m (-(n-p))),by omega,_,_,rfl,rfl,A4x hb (by omega),?_⟩
 have lp:0<b*B0 (-(n-p)):=Int.mul_pos hb0 (Y4 _)
 have ll:(b*B0 (-(n-p))).natAbs.log2<9000:=D0v hb (by omega)
 refine⟨_,rfl,_,rfl,_,_,rfl,rfl,⟨lp,ll⟩,?_⟩
 have lf:=G0x (t:=t) (s:=n-p) hb0
 refine⟨_,rfl,_,rfl,_,rfl,_,rfl,_,_,rfl,rfl,G9v ht hb h1 h2,_,_,rfl,rfl,_,_,rfl,rfl,mC' _ _ (by decide) (by decide),_,rfl,_,_,rfl,lf.1,lp,z2,fun q nq=>k q _ (A8.upd nq) nq A4⟩
theorem G3n{t b L M u v:Nat}(h:L+u=M+v)(t2:t<10^(L+1))(b1:10^M<=b):t*10^u<10*(b*10^v):=by
 have p:0<10^u:=Nat.pow_pos (by decide)
 calc t*10^u<10^(L+1)*10^u:=Nat.mul_lt_mul_of_pos_right t2 p
   _=10*(10^M*10^v):=by rw[<-Nat.pow_add, <-Nat.pow_add, <-h,show L+1+u=(L+u)+1 by omega,Nat.pow_succ,Nat.mul_comm]
   _<=10*(b*10^v):=Nat.mul_le_mul_left 10 (Nat.mul_le_mul_right _ b1)
theorem G5a{t b L M u v:Nat}(h:L+u=M+1+v)(t1:10^L<=t)(b2:b<10^(M+1)):b*10^v<=t*10^u:=by
 calc b*10^v<=10^(M+1)*10^v:=Nat.mul_le_mul_right _ (Nat.le_of_lt b2)
   _=10^L*10^u:=by rw[<-Nat.pow_add, <-Nat.pow_add,h]
   _<=t*10^u:=Nat.mul_le_mul_right _ t1
theorem B4y{t b L M:Nat}(t1:10^L<=t)(t2:t<10^(L+1))(b1:10^M<=b)(b2:b<10^(M+1))(h:(b:Int)*B0 (-((M:Int)-L))<=(t:Int)*B0 ((M:Int)-L)):A1e t b ((M:Int)-L):=by
 refine⟨h,?_⟩
 unfold B0
 have:=G3n (t:=t) (b:=b) (L:=L) (M:=M) (u:=((M:Int)-L).toNat) (v:=(-((M:Int)-L)).toNat) (by omega) t2 b1
 exact Int.ofNat_lt.mpr this
theorem B2f{t b L M:Nat}(t1:10^L<=t)(t2:t<10^(L+1))(b1:10^M<=b)(b2:b<10^(M+1))(h:(t:Int)*B0 ((M:Int)-L)<(b:Int)*B0 (-((M:Int)-L))):A1e t b ((M:Int)-L+1):=by
 refine⟨?_,?_⟩
 . unfold B0
   have:=G5a (t:=t) (b:=b) (L:=L) (M:=M) (u:=((M:Int)-L+1).toNat) (v:=(-((M:Int)-L+1)).toNat) (by omega) t1 b2
   exact Int.ofNat_le.mpr this
 have hb:0<(b:Int):=by
   have:0<10^M:=Nat.pow_pos (by decide)
   omega
 generalize (M:Int)-L=s at h
 have c:=B2n (s:=s) (r:=s+1) (by omega)
 have e1:B0 (s+1-s)=10:=by rw[show s+1-s=1 by omega];rfl
 rw[e1] at c
 have l:=Int.mul_pos hb (Y4 (-s))
 have l':=Int.mul_pos hb (Y4 (-(s+1)))
 have e:(t:Int)*B0 (s+1)*((b:Int)*B0 (-s))=(t:Int)*B0 s*((b:Int)*B0 (-(s+1)))*10:=by
   calc (t:Int)*B0 (s+1)*((b:Int)*B0 (-s))=t*b*(B0 (s+1)*B0 (-s)):=by ac_rfl
     _=t*b*(B0 s*B0 (-(s+1))*10):=by rw[c]
     _=(t:Int)*B0 s*((b:Int)*B0 (-(s+1)))*10:=by ac_rfl
 have a:(t:Int)*B0 s*((b:Int)*B0 (-(s+1)))<(b:Int)*B0 (-s)*((b:Int)*B0 (-(s+1))):=Int.mul_lt_mul_of_pos_right h l'
 have a2:(t:Int)*B0 (s+1)*((b:Int)*B0 (-s))<10*((b:Int)*B0 (-(s+1)))*((b:Int)*B0 (-s)):=by
   rw[e,show 10*((b:Int)*B0 (-(s+1)))*((b:Int)*B0 (-s))=(b:Int)*B0 (-s)*((b:Int)*B0 (-(s+1)))*10 by ac_rfl]
   exact Int.mul_lt_mul_of_pos_right a (by decide)
 exact Int.lt_of_mul_lt_mul_right a2 (Int.le_of_lt l)
theorem scRFirst:B8 ["self","guess"] ["self"] (A6 B2c):=scK
theorem C6m{f f1 f2 CR CE:Addr}(F:Fun K "first" "Ratio.first" B2c f fd)(dA:Def K mg "whole_lead" ["whole"] B7u f1 fd1)(dB:B9 P w K mg base 3 f1 fd1 ["whole"] C3t)
   (MA:A8b K CR "at" f2) (GA:B9 P w K mg base 3 f2 fd2 Q19 (D2q CR)) (BA:Y6 K fd2 Q19 []) (R:C3e K mg CR CE):B9 P w K mg base 4 f fd ["self"] (C0p CR):=by
 refine F.ok2 scRFirst (fun vs H Q E h=>?_) (fun X cdv A outer s H vs Q E hX hr hx h=>?_)
 . obtain⟨x,t,b,n,rfl,_⟩:=h
   rfl
 subst hX
 obtain⟨x,t,b,n,rfl,ra,ht,hb,k⟩:=h
 refine⟨_,(A5 (D5 (i:=1) scRFirst.nd rfl (Or.inl rfl) (B7 V1 (B7 Y2 (G0 dA dB hr hx (A0 (J0 (pv 0) rfl) A3)) (G0 dA dB hr hx (A0 (J0 (pv 0) rfl) A3))) (J0 (pv 0) rfl))) (A7 (B5 (A0p (C8 A5y (G4 U8 (A6k (pv 0) R.cl MA GA hr BA .nil hx (A0 (pv 1) A3)) A2 (fun _ _=>rfl)) A2 (C6 _)) (pv 1) (B7 Y2 (pv 1) A2))))),?_⟩
 obtain⟨tn,rfl,ta,tb⟩:=ht.nat
 obtain⟨bn,rfl,ba,bb⟩:=hb.nat
 obtain⟨dx,e⟩:=id ra
 have p30:(10:Nat)^1000<10^3000:=Nat.pow_lt_pow_right (by decide) (by decide)
 have p30':∀{L m:Nat},10^L<=m ->m<10^1000 ->L<1000:=fun h1 h2=>(Nat.pow_lt_pow_iff_right (by decide:1<10)).mp (Nat.lt_of_le_of_lt h1 h2)
 refine⟨_,rfl,x,CR,dx,_,_,rfl,e,R.cl,R.n_top,C4u _ _ _,tn,rfl,ta,Nat.lt_trans tb p30,fun L L1 L2=>?_⟩
 refine⟨_,rfl,x,CR,dx,_,_,rfl,e,R.cl,R.n_bottom,B2e _ _ _,bn,rfl,ba,Nat.lt_trans bb p30,fun M' M1 M2=>?_⟩
 have l30:=p30' L1 tb
 have m30:=p30' M1 bb
 refine⟨_,_,rfl,rfl,_,rfl,x,CR,dx,_,_,rfl,e,R.cl,R.n_power,B5r _ _ _,_,_,rfl,rfl,?_⟩
 have es:n-((L:Int)-M'+n)=(M':Int)-L:=by omega
 refine⟨_,rfl,x,dx,_,rfl,e,B4t _ _ _,_,rfl,x,tn,bn,n,_,rfl,ra,ht,hb,by omega,by omega,fun q H1 s1 nq hq=>?_⟩
 rw[es] at hq
 refine⟨q,_,0,_,rfl,rfl,SqT.of hq,D7 (j:=0) rfl,_,_,rfl,rfl,_,rfl,?_⟩
 have lp:0<(bn:Int)*B0 (-((M':Int)-L)):=Int.mul_pos (by omega) (Y4 _)
 refine V0 (fun hg=>?_) (fun hg=>?_)
 . have hle:(bn:Int)*B0 (-((M':Int)-L))<=(tn:Int)*B0 ((M':Int)-L):=by
     have:=(Int.le_ediv_iff_mul_le lp).mp (show(1:Int)<=(tn:Int)*B0 ((M':Int)-L)/((bn:Int)*B0 (-((M':Int)-L))) from hg)
     omega
   refine⟨_,rfl,k _ H1 s1 ?_⟩
   rw[es]
   exact B4y L1 L2 M1 M2 hle
 have hlt:(tn:Int)*B0 ((M':Int)-L)<(bn:Int)*B0 (-((M':Int)-L)):=by
   apply Classical.byContradiction
   intro z
   exact hg ((Int.le_ediv_iff_mul_le lp).mpr (by omega))
 refine⟨_,rfl,_,_,rfl,rfl,k _ H1 s1 ?_⟩
 rw[show n-((L:Int)-M'+n-1)=(M':Int)-L+1 by omega]
 exact B2f L1 L2 M1 M2 hlt
inductive Wy where
 |down
 |up
 |floor
 |ceiling
 |halfUp
 |halfDown
 |halfEven
 |fiveUp
noncomputable def Wy.name:Wy ->Str
 | .down=>"down"
 | .up=>"up"
 | .floor=>"floor"
 | .ceiling=>"ceiling"
 | .halfUp=>"half up"
 | .halfDown=>"half down"
 | .halfEven=>"half even"
 | .fiveUp=>"five up"
noncomputable def Wy.cls:Wy ->Str
 | .down=>"Down"
 | .up=>"Up"
 | .floor=>"Floor"
 | .ceiling=>"Ceiling"
 | .halfUp=>"HalfUp"
 | .halfDown=>"HalfDown"
 | .halfEven=>"HalfEven"
 | .fiveUp=>"FiveUp"
theorem Wy.inj{a b:Wy}(h:a.name=b.name):a=b:=by
 cases a<;>cases b<;>first|rfl|exact absurd h (by decide+kernel)
structure B0c(K:Frag)(mg:Str ->Option Value)(x:Str)(C CW:Addr):Prop where
 g:mg x=some (.ref C)
 cl:Cls K C
 mk0:Mk0 K C
 ca:findIn K (.ref C) "__class__"=some (some (.builtin "object.__class__"))
 sn:specialIn K (.builtin "object.__class__") "__get__"=some (some (.builtin "getset_descriptor.__get__"))
 tk:takesIn K (.builtin "object.__class__")=some true
 ob:mroIn K C (.type "object")=some true
 up:kitOne K (.ref C) (.ref CW)=some true
def A3p (s:Str):Sp:=fun vs H Q _=>∃p,vs=[.ref p]/\Q (.str s) H
def G4y (P:Program) (w:World) (K:Frag) (mg:Str ->Option Value) (base:Heap) (C:Addr) (s:Str):Prop:=A8d P w K mg base C "name" 1 ["self"] (A3p s)
noncomputable abbrev sN0:Stmt:=(U3 (top 53) 0)
theorem J4c:B8 ["self"] ["self"] (A6 sN0):=scK
theorem G8n(F:Fun K "name" "Down.name" sN0 f fd):B9 P w K mg base 1 f fd ["self"] (A3p "down"):=by
 refine F.ok2 J4c (fun vs H Q E h=>?_) (fun X cdv A outer s H vs Q E hX hr hx h=>?_)
 . obtain⟨p,rfl,_⟩:=h
   rfl
 subst hX
 obtain⟨p,rfl,k⟩:=h
 exact⟨_,A7 (B5 C7),k⟩
noncomputable abbrev sN1:Stmt:=(U3 (top 54) 0)
theorem J4e:B8 ["self"] ["self"] (A6 sN1):=scK
theorem J0t(F:Fun K "name" "Up.name" sN1 f fd):B9 P w K mg base 1 f fd ["self"] (A3p "up"):=by
 refine F.ok2 J4e (fun vs H Q E h=>?_) (fun X cdv A outer s H vs Q E hX hr hx h=>?_)
 . obtain⟨p,rfl,_⟩:=h
   rfl
 subst hX
 obtain⟨p,rfl,k⟩:=h
 exact⟨_,A7 (B5 C7),k⟩
noncomputable abbrev sN2:Stmt:=(U3 (top 55) 0)
theorem J4m:B8 ["self"] ["self"] (A6 sN2):=scK
theorem J1e(F:Fun K "name" "Floor.name" sN2 f fd):B9 P w K mg base 1 f fd ["self"] (A3p "floor"):=by
 refine F.ok2 J4m (fun vs H Q E h=>?_) (fun X cdv A outer s H vs Q E hX hr hx h=>?_)
 . obtain⟨p,rfl,_⟩:=h
   rfl
 subst hX
 obtain⟨p,rfl,k⟩:=h
 exact⟨_,A7 (B5 C7),k⟩
noncomputable abbrev sN3:Stmt:=(U3 (top 56) 0)
theorem J4h:B8 ["self"] ["self"] (A6 sN3):=scK
theorem G9g(F:Fun K "name" "Ceiling.name" sN3 f fd):B9 P w K mg base 1 f fd ["self"] (A3p "ceiling"):=by
 refine F.ok2 J4h (fun vs H Q E h=>?_) (fun X cdv A outer s H vs Q E hX hr hx h=>?_)
 . obtain⟨p,rfl,_⟩:=h
   rfl
 subst hX
 obtain⟨p,rfl,k⟩:=h
 exact⟨_,A7 (B5 C7),k⟩
noncomputable abbrev sN4:Stmt:=(U3 (top 57) 0)
theorem J3t:B8 ["self"] ["self"] (A6 sN4):=scK
theorem G9p(F:Fun K "name" "HalfUp.name" sN4 f fd):B9 P w K mg base 1 f fd ["self"] (A3p "half up"):=by
 refine F.ok2 J3t (fun vs H Q E h=>?_) (fun X cdv A outer s H vs Q E hX hr hx h=>?_)
 . obtain⟨p,rfl,_⟩:=h
   rfl
 subst hX
 obtain⟨p,rfl,k⟩:=h
 exact⟨_,A7 (B5 C7),k⟩
noncomputable abbrev sN5:Stmt:=(U3 (top 58) 0)
theorem J4v:B8 ["self"] ["self"] (A6 sN5):=scK
theorem G8t(F:Fun K "name" "HalfDown.name" sN5 f fd):B9 P w K mg base 1 f fd ["self"] (A3p "half down"):=by
 refine F.ok2 J4v (fun vs H Q E h=>?_) (fun X cdv A outer s H vs Q E hX hr hx h=>?_)
 . obtain⟨p,rfl,_⟩:=h
   rfl
 subst hX
 obtain⟨p,rfl,k⟩:=h
 exact⟨_,A7 (B5 C7),k⟩
noncomputable abbrev sN6:Stmt:=(U3 (top 59) 0)
theorem J4g:B8 ["self"] ["self"] (A6 sN6):=scK
theorem J0r(F:Fun K "name" "HalfEven.name" sN6 f fd):B9 P w K mg base 1 f fd ["self"] (A3p "half even"):=by
 refine F.ok2 J4g (fun vs H Q E h=>?_) (fun X cdv A outer s H vs Q E hX hr hx h=>?_)
 . obtain⟨p,rfl,_⟩:=h
   rfl
 subst hX
 obtain⟨p,rfl,k⟩:=h
 exact⟨_,A7 (B5 C7),k⟩
noncomputable abbrev sN7:Stmt:=(U3 (top 60) 0)
theorem J3c:B8 ["self"] ["self"] (A6 sN7):=scK
theorem J0d(F:Fun K "name" "FiveUp.name" sN7 f fd):B9 P w K mg base 1 f fd ["self"] (A3p "five up"):=by
 refine F.ok2 J3c (fun vs H Q E h=>?_) (fun X cdv A outer s H vs Q E hX hr hx h=>?_)
 . obtain⟨p,rfl,_⟩:=h
   rfl
 subst hX
 obtain⟨p,rfl,k⟩:=h
 exact⟨_,A7 (B5 C7),k⟩
def G2v (K:Frag) (H:Hp) (v:V):Prop:=∃t b,TyE K H v t/\kitOne K t (.type "str")=some b/\(b=false\/∃z,v= .str z/\∀y:Wy,z≠y.name)
theorem A4u{C:Addr}{σ:L2.St}{H:Hp}{Q:VK}(k:∀p dx H',H p=none ->A8 H H' ->H' p=some (.ins C dx []) ->Q (.ref p) H'):G5g C σ H Q:=fun x dx n1 n2 ne=>
 k x dx _ n1 ((A8.upd n2).trans (A8.upd (by rw[D0 (Ne.symm ne)];exact n1))) A4
noncomputable abbrev B1x:Stmt:=(top 61)
def B6d (K:Frag) (CB:Addr) (cw:Wy ->Addr):Sp:=fun vs H Q E=>∃v,vs=[v]/\((∃y:Wy,v= .str y.name/\∀p dx H',H p=none ->A8 H H' ->H' p=some (.ins (cw y) dx []) ->Q (.ref p) H')\/(G2v K H v/\E (.ref CB) none H))
theorem D8x:B8 ["name"] ["name"] (A6 B1x):=scK
theorem D2c{f CB CW:Addr}{cw:Wy ->Addr}(D:Def K mg "way_of" ["name"] B1x f fd)(O:Own mg)(T:Kit K)(B:Err K mg "BadContext" CB)(W:∀y:Wy,B0c K mg y.cls (cw y) CW):
   B9 P w K mg base 1 f fd ["name"] (B6d K CB cw):=by
 refine D.F.ok2 D8x (fun vs H Q E h=>?_) (fun X cdv A outer s H vs Q E hX hr hx h=>?_)
 . obtain⟨v,rfl,_⟩:=h
   rfl
 subst hX
 obtain⟨v,rfl,h⟩:=h
 refine⟨_,(A5 (J1 (A1v (Z7 (A9z O.isi (pv 0) (pty O.str_ boot_str)))) (A7 (A1k (by rfl) B.g B.q PySem.F.excBase_ValueError hx (A0 C7 A3))) D6) (A5 (J1 (C8 G8 (pv 0) C7 (C6 _)) (A7 (B5 (A4v (W .down).mk0 rfl (W .down).g))) D6) (A5 (J1 (C8 G8 (pv 0) C7 (C6 _)) (A7 (B5 (A4v (W .up).mk0 rfl (W .up).g))) D6) (A5 (J1 (C8 G8 (pv 0) C7 (C6 _)) (A7 (B5 (A4v (W .floor).mk0 rfl (W .floor).g))) D6) (A5 (J1 (C8 G8 (pv 0) C7 (C6 _)) (A7 (B5 (A4v (W .ceiling).mk0 rfl (W .ceiling).g))) D6) (A5 (J1 (C8 G8 (pv 0) C7 (C6 _)) (A7 (B5 (A4v (W .halfUp).mk0 rfl (W .halfUp).g))) D6) (A5 (J1 (C8 G8 (pv 0) C7 (C6 _)) (A7 (B5 (A4v (W .halfDown).mk0 rfl (W .halfDown).g))) D6) (A5 (J1 (C8 G8 (pv 0) C7 (C6 _)) (A7 (B5 (A4v (W .halfEven).mk0 rfl (W .halfEven).g))) D6) (A5 (J1 (C8 G8 (pv 0) C7 (C6 _)) (A7 (B5 (A4v (W .fiveUp).mk0 rfl (W .fiveUp).g))) D6) (A7 (A1k (by rfl) B.g B.q PySem.F.excBase_ValueError hx (A0 C7 A3)))))))))))),?_⟩
 have z1:1<=sizeLine:=C9 (by decide)
 rcases h with⟨y,rfl,k⟩|⟨⟨t,b,ty,kk,bad⟩,k⟩
 . refine⟨_,rfl,_,_,_,_,true,rfl,rfl,B8m _,T.str_str,_,rfl,Y3 ?_⟩
   refine⟨_,rfl,rfl,_,rfl,V0 (fun e=>?_) (fun n0=>?_)⟩
   . have q:y= .down:=Wy.inj (V.str.inj (e:V.str y.name=V.str (Wy.name .down)))
     subst q
     exact A4u k
   refine⟨_,rfl,rfl,_,rfl,V0 (fun e=>?_) (fun n1=>?_)⟩
   . have q:y= .up:=Wy.inj (V.str.inj (e:V.str y.name=V.str (Wy.name .up)))
     subst q
     exact A4u k
   refine⟨_,rfl,rfl,_,rfl,V0 (fun e=>?_) (fun n2=>?_)⟩
   . have q:y= .floor:=Wy.inj (V.str.inj (e:V.str y.name=V.str (Wy.name .floor)))
     subst q
     exact A4u k
   refine⟨_,rfl,rfl,_,rfl,V0 (fun e=>?_) (fun n3=>?_)⟩
   . have q:y= .ceiling:=Wy.inj (V.str.inj (e:V.str y.name=V.str (Wy.name .ceiling)))
     subst q
     exact A4u k
   refine⟨_,rfl,rfl,_,rfl,V0 (fun e=>?_) (fun n4=>?_)⟩
   . have q:y= .halfUp:=Wy.inj (V.str.inj (e:V.str y.name=V.str (Wy.name .halfUp)))
     subst q
     exact A4u k
   refine⟨_,rfl,rfl,_,rfl,V0 (fun e=>?_) (fun n5=>?_)⟩
   . have q:y= .halfDown:=Wy.inj (V.str.inj (e:V.str y.name=V.str (Wy.name .halfDown)))
     subst q
     exact A4u k
   refine⟨_,rfl,rfl,_,rfl,V0 (fun e=>?_) (fun n6=>?_)⟩
   . have q:y= .halfEven:=Wy.inj (V.str.inj (e:V.str y.name=V.str (Wy.name .halfEven)))
     subst q
     exact A4u k
   refine⟨_,rfl,rfl,_,rfl,V0 (fun e=>?_) (fun n7=>?_)⟩
   . have q:y= .fiveUp:=Wy.inj (V.str.inj (e:V.str y.name=V.str (Wy.name .fiveUp)))
     subst q
     exact A4u k
   cases y with
   |down=>exact absurd rfl n0
   |up=>exact absurd rfl n1
   |floor=>exact absurd rfl n2
   |ceiling=>exact absurd rfl n3
   |halfUp=>exact absurd rfl n4
   |halfDown=>exact absurd rfl n5
   |halfEven=>exact absurd rfl n6
   |fiveUp=>exact absurd rfl n7
 refine⟨_,rfl,_,_,_,_,b,rfl,rfl,ty,kk,_,rfl,?_⟩
 cases b with
 |false=>exact Z0 ⟨z1,k⟩
 | true=>
   obtain⟨z,rfl,nz⟩:=bad.resolve_left (by decide)
   refine Y3 ?_
   refine⟨_,rfl,rfl,_,rfl,V0 (fun e=>absurd (V.str.inj e) (nz .down)) (fun n0=>?_)⟩
   refine⟨_,rfl,rfl,_,rfl,V0 (fun e=>absurd (V.str.inj e) (nz .up)) (fun n1=>?_)⟩
   refine⟨_,rfl,rfl,_,rfl,V0 (fun e=>absurd (V.str.inj e) (nz .floor)) (fun n2=>?_)⟩
   refine⟨_,rfl,rfl,_,rfl,V0 (fun e=>absurd (V.str.inj e) (nz .ceiling)) (fun n3=>?_)⟩
   refine⟨_,rfl,rfl,_,rfl,V0 (fun e=>absurd (V.str.inj e) (nz .halfUp)) (fun n4=>?_)⟩
   refine⟨_,rfl,rfl,_,rfl,V0 (fun e=>absurd (V.str.inj e) (nz .halfDown)) (fun n5=>?_)⟩
   refine⟨_,rfl,rfl,_,rfl,V0 (fun e=>absurd (V.str.inj e) (nz .halfEven)) (fun n6=>?_)⟩
   refine⟨_,rfl,rfl,_,rfl,V0 (fun e=>absurd (V.str.inj e) (nz .fiveUp)) (fun n7=>?_)⟩
   exact⟨z1,k⟩
noncomputable def Y8:List Str:=["void","split","burst","sunk","faint","off","cut"]
noncomputable def B9q:List V:=Y8.map V.str
structure C8x(K:Frag)(mg:Str ->Option Value)(aS:Addr):Prop where
 g:mg "SIGNALS"=some (.ref aS)
 ty:∃o,K.lookup aS=some o/\o.cls= .type "tuple"
 sq:∀H,SqT K H aS B9q
noncomputable abbrev B3n:Stmt:=(top 66)
def J3v (K:Frag) (H:Hp) (x:V):Prop:=∃t b,TyE K H x t/\kitOne K t (.type "str")=some b/\(b=false\/∃z,x= .str z/\z ∉ Y8)
def C0z (K:Frag) (H:Hp) (v:V):Prop:=(∃t,TyE K H v t/\kitOne K t (.type "list")=some false)\/(∃(p:Addr) (zs:List Str) (x:V) (r:List V),v= .ref p/\H p=some (.lst (zs.map V.str++x::r))/\(∀z∈zs,z∈Y8)/\J3v K H x)
def B6b (K:Frag) (CB:Addr):Sp:=fun vs H Q E=>∃v,vs=[v]/\((∃(p:Addr) (zs:List Str),v= .ref p/\H p=some (.lst (zs.map V.str))/\(∀z∈zs,z∈Y8)/\Q .non H)\/(C0z K H v/\E (.ref CB) none H))
theorem scNeedS:B8 ["names","name"] ["names"] (A6 B3n):=scK
theorem D3b{f CB aS:Addr}(D:Def K mg "need_signals" ["names"] B3n f fd)(O:Own mg)(T:Kit K)(B:Err K mg "BadContext" CB)(SG:C8x K mg aS):B9 P w K mg base 1 f fd ["names"] (B6b K CB):=by
 refine D.F.ok2 scNeedS (fun vs H Q E h=>?_) (fun X cdv A outer s H vs Q E hX hr hx h=>?_)
 . obtain⟨v,rfl,_⟩:=h
   rfl
 subst hX
 obtain⟨v,rfl,h⟩:=h
 refine⟨_,(A5 (J1 (A1v (Z7 (A9z O.isi (pv 0) (pty O.list_ boot_list)))) (A7 (A1k (by rfl) B.g B.q PySem.F.excBase_ValueError hx (A0 C7 A3))) D6) (A7 (B6j PassesOwn.leaving hx.hd (A6v (pv 0)) (D4 (i:=1) scNeedS.nd rfl (Or.inl rfl)) (A7 (J1 (PW.pt (A6a (A1v (Z7 (A9z O.isi (pv 1) (pty O.str_ boot_str)))) (A8f (C8 A2b (pv 1) (A8v SG.g) (by rfl))))) (A7 (A1k (by rfl) B.g B.q PySem.F.excBase_ValueError hx (A0 C7 A3))) D6))))),?_⟩
 have z1:1<=sizeLine:=C9 (by decide)
 rcases h with⟨p,zs,rfl,hp,hz,k⟩|⟨(⟨t,ty,kk⟩|⟨p,zs,x,r,rfl,hp,hz,t,b,ty,kk,bad⟩),k⟩
 . refine⟨_,rfl,_,_,_,_,true,rfl,rfl,C5f hp,T.list_list,_,rfl,Y3 ?_⟩
   refine⟨_,rfl,p,rfl,⟨_,SqL.of hp⟩,A3g (xs:=zs.map V.str) (fun i σ H'=>H'=H/\∃v,σ=[sr p,v]) ⟨rfl,none,rfl⟩ ?_ ?_ ?_⟩
   . rintro i σ H' _ ⟨rfl,_⟩
     exact SqL.of hp
   . rintro i x σ H' hi ⟨rfl,v,rfl⟩
     obtain⟨z,hzm,rfl⟩:=List.mem_map.mp (List.mem_of_getElem? hi)
     refine⟨_,rfl,_,_,_,_,true,rfl,rfl,B8m _,T.str_str,_,rfl,Y3 ?_⟩
     refine⟨_,rfl,aS,B9q,rfl,.inr (SG.sq _),rfl,A1d _,_,rfl,?_⟩
     have e:inV (.str z) B9q=true:=by
       show inV (.str z) (Y8.map V.str)=true
       rw[A0s]
       simpa using hz z hzm
     rw[e]
     exact Y3 ⟨rfl,_,rfl⟩
   . rintro σ H' ⟨rfl,v,rfl⟩
     exact k
 . exact⟨_,rfl,_,_,_,_,false,rfl,rfl,ty,kk,_,rfl,Z0 ⟨z1,k⟩⟩
 refine⟨_,rfl,_,_,_,_,true,rfl,rfl,C5f hp,T.list_list,_,rfl,Y3 ?_⟩
 refine⟨_,rfl,p,rfl,⟨_,SqL.of hp⟩,A3g (xs:=zs.map V.str++x::r) (fun i σ H'=>H'=H/\i<=zs.length/\∃v,σ=[sr p,v]) ⟨rfl,Nat.zero_le _,none,rfl⟩ ?_ ?_ ?_⟩
 . rintro i σ H' _ ⟨rfl,_⟩
   exact SqL.of hp
 . rintro i y σ H' hi ⟨rfl,hl,v,rfl⟩
   by_cases hlt:i<zs.length
   . rw[List.getElem?_append_left (by simpa using hlt)] at hi
     obtain⟨z,hzm,rfl⟩:=List.mem_map.mp (List.mem_of_getElem? hi)
     refine⟨_,rfl,_,_,_,_,true,rfl,rfl,B8m _,T.str_str,_,rfl,Y3 ?_⟩
     refine⟨_,rfl,aS,B9q,rfl,.inr (SG.sq _),rfl,A1d _,_,rfl,?_⟩
     have e:inV (.str z) B9q=true:=by
       show inV (.str z) (Y8.map V.str)=true
       rw[A0s]
       simpa using hz z hzm
     rw[e]
     exact Y3 ⟨rfl,by omega,_,rfl⟩
   . have e:i=zs.length:=by omega
     subst e
     rw[List.getElem?_append_right (by simp)] at hi
     simp at hi
     subst hi
     refine⟨_,rfl,_,_,_,_,b,rfl,rfl,ty,kk,_,rfl,?_⟩
     cases b with
     |false=>exact Z0 (Z0 ⟨z1,k⟩)
     | true=>
       obtain⟨z,rfl,nz⟩:=bad.resolve_left (by decide)
       refine Y3 ⟨_,rfl,aS,B9q,rfl,.inr (SG.sq _),rfl,A1d _,_,rfl,?_⟩
       have e:inV (.str z) B9q=false:=by
         show inV (.str z) (Y8.map V.str)=false
         rw[A0s]
         simpa using nz
       rw[e]
       exact Z0 ⟨z1,k⟩
 rintro σ H' ⟨rfl,hl,_⟩
 exfalso
 rw[List.length_append,List.length_map,List.length_cons] at hl
 omega
noncomputable abbrev B2j:Stmt:=(top 67)
noncomputable def Y5 (zs:List Str):List Str:=Y8.filter fun z=>zs.contains z
def B6v (K:Frag):Sp:=fun vs H Q _=>∃(p:Addr) (zs:List Str),vs=[.ref p]/\SqL K H p (zs.map V.str)/\∀l H',A8 H H' ->H l=none ->H' l=some (.lst ((Y5 zs).map V.str)) ->Q (.ref l) H'
theorem G0m:B8 ["names"] ["names"] (A6 B2j):=scK
theorem C9v{f aS:Addr}(D:Def K mg "in_order" ["names"] B2j f fd)(SG:C8x K mg aS):B9 P w K mg base 1 f fd ["names"] (B6v K):=by
 refine D.F.ok2 G0m (fun vs H Q E h=>?_) (fun X cdv A outer s H vs Q E hX hr hx h=>?_)
 . obtain⟨p,zs,rfl,_⟩:=h
   rfl
 subst hX
 obtain⟨p,zs,rfl,hp,k⟩:=h
 refine⟨_,(A7 (B5 (C0b (N:=["name"]) (F:=["names"]) (js:=[0]) (D3.of1 ⟨rfl,by decide+kernel,by decide+kernel,by decide+kernel,by decide+kernel⟩ (by rfl) (by rfl) ⟨_,by rfl⟩ (by rfl) (by rfl)) hx.hd (B0y (A8v SG.g)) rfl (fun C s₀ H₀ ex pn h=>D4 (i:=0) (by decide+kernel:(["name","names"]:List Str).Nodup) rfl (Or.inl rfl)) (fun C s₀ H₀ ex pn h=>(C8 (A6h (K:=K) rfl) (pv 0) (pv 1) (by rfl))) (fun C s₀ H₀ ex pn h=>(pv 0))))),?_⟩
 refine A7j (zs:=Y8) (f:=fun z=>zs.contains z) (σf:=[sr p]) SG.sq (by decide) (fun z H' Qb sm q=>?_) (fun z H' Qv q=>⟨_,rfl,q⟩) (fun D H' sm nd e=>k D H' sm nd e) rfl
 refine⟨_,rfl,_,rfl,p,_,rfl,.inl (sm.seq hp),rfl,A1d _,_,rfl,?_⟩
 show Qb (inV (.str z) (zs.map V.str)) H'
 rw[A0s]
 exact q
structure B3r(K:Frag)(mg:Str ->Option Value)(CC:Addr):Prop where
 g:mg "Context"=some (.ref CC)
 cl:Cls K CC
 n_room:A0f K CC "room"
 n_rule:A0f K CC "rule"
 n_least:A0f K CC "least"
 n_most:A0f K CC "most"
 n_risen:A0f K CC "risen"
 n_trapped:A0f K CC "trapped"
noncomputable def A1s (r s l m a b:V):List (Str×V):=Y9 "trapped" b (Y9 "risen" a (Y9 "most" m (Y9 "least" l (Y9 "rule" s (Y9 "room" r [])))))
theorem A1y(r s l m a b:V)(n:Str):(A1s r s l m a b).lookup n=if n="trapped" then some b else if n="risen" then some a else if n="most" then some m else if n="least" then some l else if n="rule" then some s else if n="room" then some r else none:=by
 unfold A1s
 rw[J9,J9,J9,J9,J9,J9]
 rfl
theorem A4h(r s l m a b:V):(A1s r s l m a b).lookup ("room":Str)=some r:=by rw[A1y,if_neg (by decide+kernel),if_neg (by decide+kernel),if_neg (by decide+kernel),if_neg (by decide+kernel),if_neg (by decide+kernel),if_pos rfl]
theorem D1p(r s l m a b:V):(A1s r s l m a b).lookup ("rule":Str)=some s:=by rw[A1y,if_neg (by decide+kernel),if_neg (by decide+kernel),if_neg (by decide+kernel),if_neg (by decide+kernel),if_pos rfl]
theorem B4x(r s l m a b:V):(A1s r s l m a b).lookup ("least":Str)=some l:=by rw[A1y,if_neg (by decide+kernel),if_neg (by decide+kernel),if_neg (by decide+kernel),if_pos rfl]
theorem B2z(r s l m a b:V):(A1s r s l m a b).lookup ("most":Str)=some m:=by rw[A1y,if_neg (by decide+kernel),if_neg (by decide+kernel),if_pos rfl]
theorem B4v(r s l m a b:V):(A1s r s l m a b).lookup ("risen":Str)=some a:=by rw[A1y,if_neg (by decide+kernel),if_pos rfl]
theorem B8h(r s l m a b:V):(A1s r s l m a b).lookup ("trapped":Str)=some b:=by rw[A1y,if_pos rfl]
theorem A6p(r s l m a b:V):(A1s r s l m a b).lookup ("way":Str)=none:=by rw[A1y,if_neg (by decide+kernel),if_neg (by decide+kernel),if_neg (by decide+kernel),if_neg (by decide+kernel),if_neg (by decide+kernel),if_neg (by decide+kernel)]
theorem A5x(r s l m a b:V):(A1s r s l m a b).lookup ("lowest":Str)=none:=by rw[A1y,if_neg (by decide+kernel),if_neg (by decide+kernel),if_neg (by decide+kernel),if_neg (by decide+kernel),if_neg (by decide+kernel),if_neg (by decide+kernel)]
theorem A7u(r s l m a b:V):(A1s r s l m a b).lookup ("flags":Str)=none:=by rw[A1y,if_neg (by decide+kernel),if_neg (by decide+kernel),if_neg (by decide+kernel),if_neg (by decide+kernel),if_neg (by decide+kernel),if_neg (by decide+kernel)]
theorem B7b(r s l m a b:V):(A1s r s l m a b).lookup ("clear":Str)=none:=by rw[A1y,if_neg (by decide+kernel),if_neg (by decide+kernel),if_neg (by decide+kernel),if_neg (by decide+kernel),if_neg (by decide+kernel),if_neg (by decide+kernel)]
theorem A2u(r s l m a b:V):(A1s r s l m a b).lookup ("trap":Str)=none:=by rw[A1y,if_neg (by decide+kernel),if_neg (by decide+kernel),if_neg (by decide+kernel),if_neg (by decide+kernel),if_neg (by decide+kernel),if_neg (by decide+kernel)]
theorem A2x(r s l m a b:V):(A1s r s l m a b).lookup ("raised":Str)=none:=by rw[A1y,if_neg (by decide+kernel),if_neg (by decide+kernel),if_neg (by decide+kernel),if_neg (by decide+kernel),if_neg (by decide+kernel),if_neg (by decide+kernel)]
structure A0k(CC:Addr)(H:Hp)(c:Addr)(r:Int)(y:Wy)(l m:Int)(a b:Addr)(xs ys:List V):Prop where
 ins:∃dx,H c=some (.ins CC dx (A1s (.int r) (.str y.name) (.int l) (.int m) (.ref a) (.ref b)))
 ha:H a=some (.lst xs)
 hb:H b=some (.lst ys)
theorem A0k.same{CC:Addr}{H H':Hp}{c:Addr}{r:Int}{y:Wy}{l m:Int}{a b:Addr}{xs ys:List V}(h:A0k CC H c r y l m a b xs ys)(e:A8 H H'):A0k CC H' c r y l m a b xs ys:=by
 obtain⟨⟨dx,z⟩,z1,z2⟩:=h
 exact⟨⟨dx,e _ _ z⟩,e _ _ z1,e _ _ z2⟩
noncomputable abbrev A1f:Stmt:=(U3 (top 64) 0)
noncomputable abbrev B6x:Stmt:=(U3 (top 64) 1)
noncomputable abbrev B5y:Stmt:=(U3 (top 64) 2)
noncomputable abbrev A8j:Stmt:=(U3 (top 64) 3)
def C2c (l:Int) (v:V):Prop:=(v= .non/\l= -60)\/(v= .int l/\ -60<=l/\l<=0)
def G4a (K:Frag) (S:Hp ->Prop) (v1 v2 v3 v4:V):Prop:=(∀H',S H' ->B3x K H' 1 24 v1)\/(A3a 1 24 v1/\((∀H',S H' ->G2v K H' v2)\/((∃y:Wy,v2= .str y.name)/\((v3≠ .non/\∀H',S H' ->B3x K H' (-60) 0 v3)\/((∃l,C2c l v3)/\∀H',S H' ->B3x K H' 0 60 v4)))))
theorem Exc.none{p a:Addr}{H H':Hp}{o:HO}(x:Exc p H H')(hp:H' p=some o)(n:H' a=none):H a=none:=by
 cases q:H a with
 |none=>rfl
 | some u=>
   have:=x a u q (fun e=>by rw[e,hp] at n;cases n)
   rw[n] at this
   cases this
def A5h (K:Frag) (CC CB:Addr):Sp:=fun vs H Q E=>∃p dx v1 v2 v3 v4,vs=[.ref p,v1,v2,v3,v4]/\H p=some (.ins CC dx [])/\
 ((∃r y l m,v1= .int r/\1<=r/\r<=24/\v2= .str (Wy.name y)/\C2c l v3/\v4= .int m/\0<=m/\m<=60/\∀a b H',Exc p H H' ->H a=none ->H b=none ->A0k CC H' p r y l m a b [] [] ->Q .non H')\/
  (G4a K (Exc p H) v1 v2 v3 v4/\∀H',Exc p H H' ->E (.ref CB) none H'))
theorem C8g:B8 Q21 Q21 (A6 A1f):=scK
theorem D3c:A7w 1 24:=by unfold A7w;decide+kernel
theorem C1y:A7w (-60) 0:=by unfold A7w;decide+kernel
theorem C8y:A7w 0 60:=by unfold A7w;decide+kernel
theorem C2r{f fB fW CC CB CW:Addr}{dV:Value}{cw:Wy ->Addr}{fd fdB fdW:FuncData}(F:D3u K "__init__" "Context.__init__" A1f dV f fd)(dA:Def K mg "bounded" Q4 A7t fB fdB)(dC:Def K mg "way_of" ["name"] B1x fW fdW)
   (dB:B9 P w K mg base 2 fB fdB Q4 (B4w K CB)) (dD:B9 P w K mg base 1 fW fdW ["name"] (B6d K CB cw)) (C:B3r K mg CC)
   (W:∀y:Wy,B0c K mg y.cls (cw y) CW) (N:∀y:Wy,G4y P w K mg base (cw y) y.name):B9 P w K mg base 3 f fd Q21 (A5h K CC CB):=by
 refine F.ok2 C8g (fun vs H Q E h=>?_) (fun X cdv A outer s H vs Q E hX hr hx h=>?_)
 . obtain⟨p,dx,v1,v2,v3,v4,rfl,_⟩:=h
   rfl
 subst hX
 obtain⟨p,dx,v1,v2,v3,v4,rfl,hp,h⟩:=h
 obtain⟨y,hy⟩:∃y:Wy,∀z:Wy,v2= .str z.name ->z=y:=by
   by_cases q:∃z:Wy,v2= .str z.name
   . obtain⟨z,rfl⟩:=q
     exact⟨z,fun u e=>Wy.inj (V.str.inj e.symm)⟩
   . exact⟨.down,fun z e=>absurd ⟨z,e⟩ q⟩
 obtain⟨fN,fdN,mN,gN,bN⟩:=N y
 refine⟨_,(A5 (A0x (pv 0) (G0 dA dB hr hx (A0 (pv 1) (A0 A2 (A0 A2 A3)))) rfl) (A5 (A0x (pv 0) (A2e (G0 dC dD hr hx (A0 (pv 2) A3)) (W y).cl mN gN hr bN .nil hx) rfl) (A5 (A9 (A0x (pv 0) (A0p (C8 D2w (pv 3) A8r (C6 _)) (A2k A1b A2) (G0 dA dB hr hx (A0 (pv 3) (A0 (A2k A1b A2) (A0 A2 A3))))) rfl)) (A5 (A0x (pv 0) (G0 dA dB hr hx (A0 (pv 4) (A0 A2 (A0 A2 A3)))) rfl) (A5 (A0x (pv 0) (U0 A3) rfl) (A7 (A0x (pv 0) (U0 A3) rfl))))))),?_⟩
 have lz:∀(fs:List (Str×V)) (f:Str) (v:V) (n:Nat),fs.length<=n ->(Y9 f v fs).length<=n+1:=fun fs f v n h=>Nat.le_trans (A1r f v fs) (Nat.succ_le_succ h)
 have q0:(([]:List (Str×V))).length<=0:=Nat.le_refl _
 have z0:0<=sizeLine:=Nat.zero_le _
 rcases h with⟨r,y',l,m,rfl,r1,r2,rfl,hl,rfl,m1,m2,k⟩|⟨bad,k⟩
 . obtain rfl:=hy _ rfl
   refine⟨_,rfl,_,_,_,rfl,D3c,.inl ⟨⟨r,rfl,r1,r2⟩,?_⟩⟩
   refine⟨_,rfl,p,CC,dx,[],rfl,hp,C.cl,C.n_room,by show 0<1000;decide,?_⟩
   refine⟨_,rfl,_,rfl,.inl ⟨_,rfl,fun q dq H2 nq s2 eq=>⟨q,dq,[],rfl,eq,rfl,_,rfl,?_⟩⟩⟩
   have hp2:=s2 _ _ (A4 (H:=H) (a:=p) (o:= .ins CC dx (Y9 "room" (.int r) [])))
   have x2:Exc p H H2:=(Exc.upd (H:=H) (o:= .ins CC dx (Y9 "room" (.int r) []))).trans (.of s2)
   refine⟨_,rfl,p,CC,dx,_,rfl,hp2,C.cl,C.n_rule,Nat.lt_of_le_of_lt (lz _ _ _ 0 q0) (by decide),?_⟩
   let I_:L2.St ->L2.Hp ->Prop:=fun σ' H'=>σ'=[sr p,si r,sR y'.name,some v3,si m]/\Exc p H H'/\H' p=some (.ins CC dx (Y9 "least" (.int l) (Y9 "rule" (.str y'.name) (Y9 "room" (.int r) []))))
   refine⟨I_,?_,?_⟩
   . refine⟨_,rfl,rfl,_,rfl,?_⟩
     rcases hl with⟨rfl,rfl⟩|⟨rfl,l1,l2⟩
     . refine A0q rfl ⟨_,rfl,?_⟩
       exact⟨_,rfl,p,CC,dx,_,rfl,A4,C.cl,C.n_least,Nat.lt_of_le_of_lt (lz _ _ _ 1 (lz _ _ _ 0 q0)) (by decide),rfl,(x2.trans Exc.upd).trans Exc.upd,A4⟩
     . refine G9 (by intro z;cases z) ⟨_,rfl,_,rfl,_,_,_,rfl,C1y,.inl ⟨⟨l,rfl,l1,l2⟩,?_⟩⟩
       exact⟨_,rfl,p,CC,dx,_,rfl,A4,C.cl,C.n_least,Nat.lt_of_le_of_lt (lz _ _ _ 1 (lz _ _ _ 0 q0)) (by decide),rfl,(x2.trans Exc.upd).trans Exc.upd,A4⟩
   refine L2.hideG fun Z_ z_=>?_
   rintro σ' H4 ⟨rfl,x4,hp4⟩
   subst z_
   clear I_
   refine⟨_,rfl,_,_,_,rfl,C8y,.inl ⟨⟨m,rfl,m1,m2⟩,?_⟩⟩
   refine⟨_,rfl,p,CC,dx,_,rfl,hp4,C.cl,C.n_most,Nat.lt_of_le_of_lt (lz _ _ _ 2 (lz _ _ _ 1 (lz _ _ _ 0 q0))) (by decide),?_⟩
   refine⟨z0,fun a na=>?_⟩
   refine⟨_,rfl,p,CC,dx,_,rfl,A8.upd na _ _ A4,C.cl,C.n_risen,Nat.lt_of_le_of_lt (lz _ _ _ 3 (lz _ _ _ 2 (lz _ _ _ 1 (lz _ _ _ 0 q0)))) (by decide),?_⟩
   refine⟨z0,fun b nb=>?_⟩
   refine⟨_,rfl,p,CC,dx,_,rfl,A8.upd nb _ _ A4,C.cl,C.n_trapped,Nat.lt_of_le_of_lt (lz _ _ _ 4 (lz _ _ _ 3 (lz _ _ _ 2 (lz _ _ _ 1 (lz _ _ _ 0 q0))))) (by decide),?_⟩
   have x5:=x4.trans (Exc.upd (H:=H4) (o:= .ins CC dx (Y9 "most" (.int m) (Y9 "least" (.int l) (Y9 "rule" (.str y'.name) (Y9 "room" (.int r) []))))))
   have nap:a≠p:=fun e=>by rw[e,A4] at na;cases na
   have nbp:b≠p:=fun e=>by rw[e,A4] at nb;cases nb
   have x6:=(x5.trans (.of (A8.upd (o:= .lst []) na))).trans (Exc.upd (o:= .ins CC dx (Y9 "risen" (.ref a) (Y9 "most" (.int m) (Y9 "least" (.int l) (Y9 "rule" (.str y'.name) (Y9 "room" (.int r) [])))))))
   have x7:=(x6.trans (.of (A8.upd (o:= .lst []) nb))).trans (Exc.upd (o:= .ins CC dx (A1s (.int r) (.str y'.name) (.int l) (.int m) (.ref a) (.ref b))))
   refine k a b _ x7 (x5.none A4 na) (x6.none A4 nb) ⟨⟨dx,A4⟩,?_,?_⟩
   . rw[D0 nap]
     refine A8.upd nb _ _ ?_
     rw[D0 nap]
     exact A4
   . rw[D0 nbp]
     exact A4
 rcases bad with b1|⟨⟨r,rfl,r1,r2⟩,bad⟩
 . exact⟨_,rfl,_,_,_,rfl,D3c,.inr ⟨b1 _ (Exc.refl p H),k _ (Exc.refl p H)⟩⟩
 refine⟨_,rfl,_,_,_,rfl,D3c,.inl ⟨⟨r,rfl,r1,r2⟩,?_⟩⟩
 refine⟨_,rfl,p,CC,dx,[],rfl,hp,C.cl,C.n_room,by show 0<1000;decide,?_⟩
 have x1:Exc p H (upd H p (.ins CC dx (Y9 "room" (.int r) []))):=Exc.upd
 rcases bad with b2|⟨⟨y',rfl⟩,bad⟩
 . exact⟨_,rfl,_,rfl,.inr ⟨b2 _ x1,k _ x1⟩⟩
 obtain rfl:=hy _ rfl
 refine⟨_,rfl,_,rfl,.inl ⟨_,rfl,fun q dq H2 nq s2 eq=>⟨q,dq,[],rfl,eq,rfl,_,rfl,?_⟩⟩⟩
 have hp2:=s2 _ _ (A4 (H:=H) (a:=p) (o:= .ins CC dx (Y9 "room" (.int r) [])))
 have x2:Exc p H H2:=x1.trans (.of s2)
 refine⟨_,rfl,p,CC,dx,_,rfl,hp2,C.cl,C.n_rule,Nat.lt_of_le_of_lt (lz _ _ _ 0 q0) (by decide),?_⟩
 rcases bad with⟨n3,b3⟩|⟨⟨l,hl⟩,b4⟩
 . refine⟨fun _ _=>False,?_,fun _ _ z=>z.elim⟩
   refine⟨_,rfl,rfl,_,rfl,G9 n3 ?_⟩
   exact⟨_,rfl,_,rfl,_,_,_,rfl,C1y,.inr ⟨b3 _ (x2.trans Exc.upd),k _ (x2.trans Exc.upd)⟩⟩
 let I_:L2.St ->L2.Hp ->Prop:=fun σ' H'=>σ'=[sr p,si r,sR y'.name,some v3,some v4]/\Exc p H H'
 refine⟨I_,?_,?_⟩
 . refine⟨_,rfl,rfl,_,rfl,?_⟩
   rcases hl with⟨rfl,rfl⟩|⟨rfl,l1,l2⟩
   . refine A0q rfl ⟨_,rfl,?_⟩
     exact⟨_,rfl,p,CC,dx,_,rfl,A4,C.cl,C.n_least,Nat.lt_of_le_of_lt (lz _ _ _ 1 (lz _ _ _ 0 q0)) (by decide),rfl,(x2.trans Exc.upd).trans Exc.upd⟩
   . refine G9 (by intro z;cases z) ⟨_,rfl,_,rfl,_,_,_,rfl,C1y,.inl ⟨⟨l,rfl,l1,l2⟩,?_⟩⟩
     exact⟨_,rfl,p,CC,dx,_,rfl,A4,C.cl,C.n_least,Nat.lt_of_le_of_lt (lz _ _ _ 1 (lz _ _ _ 0 q0)) (by decide),rfl,(x2.trans Exc.upd).trans Exc.upd⟩
 rintro σ' H4 ⟨rfl,x4⟩
 clear I_
 exact⟨_,rfl,_,_,_,rfl,C8y,.inr ⟨b4 _ x4,k _ x4⟩⟩
def B2a (CC:Addr) (cw:Wy ->Addr):Sp:=fun vs H Q _=>∃c r y l m a b xs ys,vs=[.ref c]/\A0k CC H c r y l m a b xs ys/\∀p dx H',H p=none ->A8 H H' ->H' p=some (.ins (cw y) dx []) ->Q (.ref p) H'
theorem D0z:B8 ["self"] ["self"] (A6 B6x):=scK
theorem C6u{f fW CC CB:Addr}{cw:Wy ->Addr}{fd fdW:FuncData}(F:Fun K "way" "Context.way" B6x f fd)(dA:Def K mg "way_of" ["name"] B1x fW fdW)(dB:B9 P w K mg base 1 fW fdW ["name"] (B6d K CB cw))(C:B3r K mg CC):
   B9 P w K mg base 2 f fd ["self"] (B2a CC cw):=by
 refine F.ok2 D0z (fun vs H Q E h=>?_) (fun X cdv A outer s H vs Q E hX hr hx h=>?_)
 . obtain⟨c,r,y,l,m,a,b,xs,ys,rfl,_⟩:=h
   rfl
 subst hX
 obtain⟨c,r,y,l,m,a,b,xs,ys,rfl,⟨⟨dx,e⟩,_,_⟩,k⟩:=h
 refine⟨_,(A7 (B5 (G0 dA dB hr hx (A0 (J0 (pv 0) rfl) A3)))),?_⟩
 exact⟨_,rfl,c,CC,dx,_,_,rfl,e,C.cl,C.n_rule,D1p _ _ _ _ _ _,_,rfl,.inl ⟨y,rfl,k⟩⟩
def B2x (CC:Addr):Sp:=fun vs H Q _=>∃c r y l m a b xs ys,vs=[.ref c]/\A0k CC H c r y l m a b xs ys/\Q (.int (l-r+1)) H
theorem D1x:B8 ["self"] ["self"] (A6 B5y):=scK
theorem C7q{f CC:Addr}(F:Fun K "lowest" "Context.lowest" B5y f fd)(C:B3r K mg CC):B9 P w K mg base 1 f fd ["self"] (B2x CC):=by
 refine F.ok2 D1x (fun vs H Q E h=>?_) (fun X cdv A outer s H vs Q E hX hr hx h=>?_)
 . obtain⟨c,r,y,l,m,a,b,xs,ys,rfl,_⟩:=h
   rfl
 subst hX
 obtain⟨c,r,y,l,m,a,b,xs,ys,rfl,⟨⟨dx,e⟩,_,_⟩,k⟩:=h
 refine⟨_,(A7 (B5 (B7 V1 (B7 Y2 (J0 (pv 0) rfl) (J0 (pv 0) rfl)) A2))),?_⟩
 exact⟨_,rfl,c,CC,dx,_,_,rfl,e,C.cl,C.n_least,B4x _ _ _ _ _ _,_,rfl,c,CC,dx,_,_,rfl,e,C.cl,C.n_room,A4h _ _ _ _ _ _,_,_,rfl,rfl,_,_,rfl,rfl,k⟩
def A3v (CC:Addr):Sp:=fun vs H Q _=>∃c r y l m a b xs ys,vs=[.ref c]/\A0k CC H c r y l m a b xs ys/\∀p,H p=none ->Q (.ref p) (upd H p (.lst xs))
theorem C2p:B8 ["self"] ["self"] (A6 A8j):=scK
theorem B9w{f CC:Addr}(F:Fun K "flags" "Context.flags" A8j f fd)(C:B3r K mg CC)(O:Own mg):B9 P w K mg base 1 f fd ["self"] (A3v CC):=by
 refine F.ok2 C2p (fun vs H Q E h=>?_) (fun X cdv A outer s H vs Q E hX hr hx h=>?_)
 . obtain⟨c,r,y,l,m,a,b,xs,ys,rfl,_⟩:=h
   rfl
 subst hX
 obtain⟨c,r,y,l,m,a,b,xs,ys,rfl,⟨⟨dx,e⟩,ha,_⟩,k⟩:=h
 refine⟨_,(A7 (B5 (V6 A3q (by rfl) O.list_ boot_list (A0 (J0 (pv 0) rfl) A3)))),?_⟩
 exact⟨_,rfl,c,CC,dx,_,_,rfl,e,C.cl,C.n_risen,B4v _ _ _ _ _ _,a,xs,rfl,.inl (SqL.of ha),k⟩
structure J1p(P:Program)(w:World)(K:Frag)(mg:Str ->Option Value)(base:Heap)(CC CB fI:Addr)(fdI:FuncData):Prop where
 m:Mk K CC fI
 g:B9 P w K mg base 3 fI fdI Q21 (A5h K CC CB)
theorem G2a{C x dx:Addr}{H H':Hp}(n1:H x=none)(n2:H dx=none)(ne:dx≠x)(e:Exc x (upd (upd H dx (.own x)) x (.ins C dx [])) H'):A8 H H':=fun b o h=>
 e b o (by rw[D0 (D8 h n1),D0 (D8 h n2)];exact h) (D8 h n1)
noncomputable abbrev B1t:Stmt:=(U3 (top 64) 5)
noncomputable abbrev A6n:Stmt:=(U3 (top 64) 7)
theorem B2r(r s l m a b:V):(A1s r s l m a b).length=6:=rfl
theorem B7c(r s l m a b v:V):Y9 "trapped" v (A1s r s l m a b)=A1s r s l m a v:=rfl
theorem B1w(r s l m a b v:V):Y9 "risen" v (A1s r s l m a b)=A1s r s l m v b:=rfl
def B7v (K:Frag) (CC CB:Addr):Sp:=fun vs H Q E=>∃c r y l m a b xs ys v,vs=[.ref c,v]/\A0k CC H c r y l m a b xs ys/\
 ((∃(p:Addr) (zs:List Str),v= .ref p/\H p=some (.lst (zs.map V.str))/\(∀z∈zs,z∈Y8)/\∀b' H',Exc c H H' ->H b'=none ->A0k CC H' c r y l m a b' xs ((Y5 zs).map V.str) ->Q .non H')\/(C0z K H v/\E (.ref CB) none H))
theorem G4g:B8 Q13 Q13 (A6 B1t):=scK
theorem G1q{f f1 f2 CC CB:Addr}(F:Fun K "trap" "Context.trap" B1t f fd)(dA:Def K mg "need_signals" ["names"] B3n f1 fd1)(dB:B9 P w K mg base 1 f1 fd1 ["names"] (B6b K CB))
   (dC:Def K mg "in_order" ["names"] B2j f2 fd2) (dD:B9 P w K mg base 1 f2 fd2 ["names"] (B6v K)) (C:B3r K mg CC):B9 P w K mg base 2 f fd Q13 (B7v K CC CB):=by
 refine F.ok2 G4g (fun vs H Q E h=>?_) (fun X cdv A outer s H vs Q E hX hr hx h=>?_)
 . obtain⟨c,r,y,l,m,a,b,xs,ys,v,rfl,_⟩:=h
   rfl
 subst hX
 obtain⟨c,r,y,l,m,a,b,xs,ys,v,rfl,⟨⟨dx,e⟩,ha,hb⟩,h⟩:=h
 refine⟨_,(A5 (Z3 (G0 dA dB hr hx (A0 (pv 1) A3))) (A7 (A0x (pv 0) (G0 dC dD hr hx (A0 (pv 1) A3)) rfl))),?_⟩
 rcases h with⟨p,zs,rfl,hp,hz,k⟩|⟨bad,k⟩
 . refine⟨_,rfl,_,rfl,.inl ⟨p,zs,rfl,hp,hz,?_⟩⟩
   refine⟨_,rfl,p,zs,rfl,SqL.of hp,fun b' H1 s1 n1 e1=>?_⟩
   refine⟨_,rfl,c,CC,dx,_,rfl,s1 _ _ e,C.cl,C.n_trapped,by rw[B2r];decide,?_⟩
   rw[B7c]
   have nac:a≠c:=U4 ha e (by intro z;cases z)
   have nbc:b'≠c:=U4 e1 (s1 _ _ e) (by intro z;cases z)
   exact k b' _ ((Exc.of s1).trans Exc.upd) n1 ⟨⟨dx,A4⟩,by rw[D0 nac];exact s1 _ _ ha,by rw[D0 nbc];exact e1⟩
 exact⟨_,rfl,_,rfl,.inr ⟨bad,k⟩⟩
noncomputable def hit (ys zs:List Str):Option Str:=ys.find? fun t=>zs.contains t
def B1m (K:Frag) (CC CB CT:Addr):Sp:=fun vs H Q E=>∃c r y l m a b,∃(xs ys:List Str) (v:V),vs=[.ref c,v]/\A0k CC H c r y l m a b (xs.map V.str) (ys.map V.str)/\xs.length+100<=1000/\
 ((∃ (p:Addr) (zs:List Str),v= .ref p/\H p=some (.lst (zs.map V.str))/\zs.length<=100/\(∀z∈zs,z∈Y8)/\
     (hit ys zs=none ->∀a' H',Exc c H H' ->H a'=none ->A0k CC H' c r y l m a' b ((Y5 (xs++zs)).map V.str) (ys.map V.str) ->Q .non H')/\
     (∀t,hit ys zs=some t ->∀a' d H',Exc c H H' ->H a'=none ->A0k CC H' c r y l m a' b ((Y5 (xs++zs)).map V.str) (ys.map V.str) ->H d=none ->H' d=some (.xd [("signal",.str t)]) ->E (.ref CT) (some d) H'))\/
  (C0z K H v/\E (.ref CB) none H))
theorem scRaised:B8 ["self","names","name"] Q13 (A6 A6n):=scK
theorem C7k{f f1 f2 fX CC CB CT:Addr}{fd fd1 fd2 fdX:FuncData}(F:Fun K "raised" "Context.raised" A6n f fd)(dA:Def K mg "need_signals" ["names"] B3n f1 fd1)(dB:B9 P w K mg base 1 f1 fd1 ["names"] (B6b K CB))
   (dC:Def K mg "in_order" ["names"] B2j f2 fd2) (dD:B9 P w K mg base 1 f2 fd2 ["names"] (B6v K)) (C:B3r K mg CC)
   (gT:mg "Trapped"=some (.ref CT)) (XI:C3d K CT fX) (GX:G6 P w K mg base CX0 1 fX fdX Q36 (B2g CT "signal")) (BX:Y6 K fdX Q36 []):B9 P w K mg base 3 f fd Q13 (B1m K CC CB CT):=by
 refine F.ok2 scRaised (fun vs H Q E h=>?_) (fun X cdv A outer s H vs Q E hX hr hx h=>?_)
 . obtain⟨c,r,y,l,m,a,b,xs,ys,v,rfl,_⟩:=h
   rfl
 subst hX
 obtain⟨c,r,y,l,m,a,b,xs,ys,v,rfl,⟨⟨dx,e⟩,ha,hb⟩,lx,h⟩:=h
 refine⟨_,(A5 (Z3 (G0 dA dB hr hx (A0 (pv 1) A3))) (A5 (A0x (pv 0) (G0 dC dD hr hx (A0 (B7 B1u (J0 (pv 0) rfl) (pv 1)) A3)) rfl) (A7 (B6j PassesOwn.leaving hx.hd (A6v (J0 (pv 0) rfl)) (D4 (i:=2) scRaised.nd rfl (Or.inl rfl)) (A7 (J1 (C8 A3j (pv 2) (pv 1) (by rfl)) (A7 (C1j gT XI GX BX hr hx (A0 (pv 2) A3))) D6)))))),?_⟩
 rcases h with⟨p,zs,rfl,hp,lz,hz,k1,k2⟩|⟨bad,k⟩
 . refine⟨_,rfl,_,rfl,.inl ⟨p,zs,rfl,hp,hz,?_⟩⟩
   refine⟨_,rfl,c,CC,dx,_,_,rfl,e,C.cl,C.n_risen,B4v _ _ _ _ _ _,_,rfl,a,p,_,_,rfl,rfl,ha,hp,C9 (by rw[List.length_map,List.length_map];omega),fun q nq=>?_⟩
   have u1:=A8.upd (o:= .lst (xs.map V.str++zs.map V.str)) nq
   refine⟨q,xs++zs,rfl,SqL.of (by rw[A4,List.map_append]),fun a' H1 s1 n1 e1=>?_⟩
   have s2:=u1.trans s1
   refine⟨_,rfl,c,CC,dx,_,rfl,s2 _ _ e,C.cl,C.n_risen,by rw[B2r];decide,?_⟩
   rw[B1w]
   have nbc:b≠c:=U4 hb e (by intro z;cases z)
   have npc:p≠c:=U4 hp e (by intro z;cases z)
   have nac:a'≠c:=U4 e1 (s2 _ _ e) (by intro z;cases z)
   have x2:Exc c H (upd H1 c (.ins CC dx (A1s (.int r) (.str y.name) (.int l) (.int m) (.ref a') (.ref b)))):=(Exc.of s2).trans Exc.upd
   have hb2:(upd H1 c (.ins CC dx (A1s (.int r) (.str y.name) (.int l) (.int m) (.ref a') (.ref b)))) b=some (.lst (ys.map V.str)):=by rw[D0 nbc];exact s2 _ _ hb
   have hp2:(upd H1 c (.ins CC dx (A1s (.int r) (.str y.name) (.int l) (.int m) (.ref a') (.ref b)))) p=some (.lst (zs.map V.str)):=by rw[D0 npc];exact s2 _ _ hp
   have ct:A0k CC (upd H1 c (.ins CC dx (A1s (.int r) (.str y.name) (.int l) (.int m) (.ref a') (.ref b)))) c r y l m a' b ((Y5 (xs++zs)).map V.str) (ys.map V.str):=⟨⟨dx,A4⟩,by rw[D0 nac];exact e1,hb2⟩
   refine⟨_,rfl,c,CC,dx,_,_,rfl,A4,C.cl,C.n_trapped,B8h _ _ _ _ _ _,b,rfl,⟨_,SqL.of hb2⟩,?_⟩
   generalize upd H1 c (.ins CC dx (A1s (.int r) (.str y.name) (.int l) (.int m) (.ref a') (.ref b)))=H3 at x2 hb2 hp2 ct ⊢
   refine A3g (xs:=ys.map V.str) (fun i σ H'=>H'=H3/\(∀t∈ys.take i,zs.contains t=false)/\∃v,σ=[sr c,sr p,v]) ⟨rfl,by simp,none,rfl⟩ ?_ ?_ ?_
   . rintro i σ H' _ ⟨rfl,_⟩
     exact SqL.of hb2
   . rintro i x σ H' hi ⟨rfl,ht,v,rfl⟩
     rw[List.getElem?_map] at hi
     obtain⟨t,hti,rfl⟩:=Option.map_eq_some_iff.mp hi
     refine⟨_,rfl,_,rfl,p,_,rfl,.inl (SqL.of hp2),rfl,A1d _,_,rfl,?_⟩
     have hlt:i<ys.length:=(List.getElem?_eq_some_iff.mp hti).1
     have et:ys.take (i+1)=ys.take i++ [t]:=by
       rw[List.take_succ_eq_append_getElem hlt,(List.getElem?_eq_some_iff.mp hti).2]
     cases hc:zs.contains t with
     | false=>
       rw[show(if false=true then !inV (V.str t) (zs.map V.str) else inV (V.str t) (zs.map V.str))=false by rw[if_neg Bool.false_ne_true,A0s,hc]]
       refine Y3 ⟨rfl,fun t' h'=>?_,_,rfl⟩
       rw[et] at h'
       rcases List.mem_append.mp h' with h'|h'
       . exact ht t' h'
       . rw[List.mem_singleton.mp h'];exact hc
     | true=>
       rw[show(if false=true then !inV (V.str t) (zs.map V.str) else inV (V.str t) (zs.map V.str))=true by rw[if_neg Bool.false_ne_true,A0s,hc]]
       obtain⟨dx',hc3⟩:=ct.ins
       refine Z0 ⟨_,rfl,_,rfl,fun d H4 s4 nd e4=>?_⟩
       refine k2 t ?_ a' d H4 (x2.trans (.of s4)) ((u1.free n1)) (ct.same s4) (x2.none hc3 nd) e4
       unfold hit
       rw[List.find?_eq_some_iff_append]
       refine⟨hc,ys.take i,ys.drop (i+1),?_,fun t' h'=>by rw[ht t' h'];rfl⟩
       have:=List.take_append_drop (i+1) ys
       rw[et] at this
       rw[List.append_assoc] at this
       exact this.symm
   . rintro σ H' ⟨rfl,ht,v,rfl⟩
     refine k1 ?_ a' _ x2 (u1.free n1) ct
     unfold hit
     rw[List.find?_eq_none]
     rw[List.length_map,List.take_length] at ht
     intro t hm
     rw[ht t hm]
     exact Bool.false_ne_true
 exact⟨_,rfl,_,rfl,.inr ⟨bad,k⟩⟩
noncomputable abbrev A5s:Stmt:=(U3 (top 15) 0)
theorem D2a:B8 Q36 Q36 (A6 A5s):=scK
theorem C8u{f CT fI:Addr}(F:Fun K "__init__" "Trapped.__init__" A5s f fd)(XI:C3d K CT fI)(hn:findIn K (.ref CT) "signal"=some none):G6 P w K mg base CX0 1 f fd Q36 (B2g CT "signal"):=by
 refine F.ok D2a (fun vs H Q E h=>?_) (fun cdv A outer s H vs Q E hr h=>?_)
 . obtain⟨e,t,v,rfl,_⟩:=h
   rfl
 obtain⟨e,t,v,rfl,he,k⟩:=h
 refine⟨_,(A7 (D8z XI hn (pv 0) (pv 1) rfl)),?_⟩
 exact⟨_,rfl,_,rfl,e,t,rfl,he,fun d nd ne=>k d nd ne⟩
noncomputable def Wy.goes (y:Wy) (s last part:Int):Bool:=match y with
 | .down=>false
 | .up=>true
 | .floor=>decide (V.int s=V.int 1)
 | .ceiling=>decide (V.int s=V.int 0)
 | .halfUp=>decide (part>=2)
 | .halfDown=>decide (V.int part=V.int 3)
 | .halfEven=>if decide (V.int part=V.int 3)=true then true else if decide (V.int part=V.int 2)=true then decide (V.int (last % 2)=V.int 1) else false
 | .fiveUp=>inV (.int last) [.int 0,.int 5]
noncomputable def Wy.toEnd (y:Wy) (s:Int):Bool:=match y with
 | .down=>false
 | .up=>true
 | .floor=>decide (V.int s=V.int 1)
 | .ceiling=>decide (V.int s=V.int 0)
 | .halfUp=>true
 | .halfDown=>true
 | .halfEven=>true
 | .fiveUp=>false
def A3s (y:Wy):Sp:=fun vs H Q _=>∃p s l t,vs=[.ref p,.int s,.int l,.int t]/\∀H',A8 H H' ->Q (.bl (y.goes s l t)) H'
def A2a (y:Wy):Sp:=fun vs H Q _=>∃p s,vs=[.ref p,.int s]/\∀H',A8 H H' ->Q (.bl (y.toEnd s)) H'
def J0v (P:Program) (w:World) (K:Frag) (mg:Str ->Option Value) (base:Heap) (C:Addr) (y:Wy):Prop:=A8d P w K mg base C "goes_up" 1 Q0 (A3s y)
def G9s (P:Program) (w:World) (K:Frag) (mg:Str ->Option Value) (base:Heap) (C:Addr) (y:Wy):Prop:=A8d P w K mg base C "to_end" 1 Q3 (A2a y)
noncomputable abbrev sU0:Stmt:=(U3 (top 53) 1)
theorem J3j:B8 Q0 Q0 (A6 sU0):=scK
theorem J1f(F:Fun K "goes_up" "Down.goes_up" sU0 f fd):B9 P w K mg base 1 f fd Q0 (A3s .down):=by
 refine F.ok2 J3j (fun vs H Q E h=>?_) (fun X cdv A outer s H vs Q E hX hr hx h=>?_)
 . obtain⟨p,z,l,t,rfl,_⟩:=h
   rfl
 subst hX
 obtain⟨p,z,l,t,rfl,k⟩:=h
 refine⟨_,(A7 (B5 A1g)),?_⟩
 exact k H (A8.refl H)
noncomputable abbrev sT0:Stmt:=(U3 (top 53) 2)
theorem J4z:B8 Q3 Q3 (A6 sT0):=scK
theorem G8k(F:Fun K "to_end" "Down.to_end" sT0 f fd):B9 P w K mg base 1 f fd Q3 (A2a .down):=by
 refine F.ok2 J4z (fun vs H Q E h=>?_) (fun X cdv A outer s H vs Q E hX hr hx h=>?_)
 . obtain⟨p,z,rfl,_⟩:=h
   rfl
 subst hX
 obtain⟨p,z,rfl,k⟩:=h
 refine⟨_,(A7 (B5 A1g)),?_⟩
 exact k H (A8.refl H)
noncomputable abbrev sU1:Stmt:=(U3 (top 54) 1)
theorem J4w:B8 Q0 Q0 (A6 sU1):=scK
theorem G9h(F:Fun K "goes_up" "Up.goes_up" sU1 f fd):B9 P w K mg base 1 f fd Q0 (A3s .up):=by
 refine F.ok2 J4w (fun vs H Q E h=>?_) (fun X cdv A outer s H vs Q E hX hr hx h=>?_)
 . obtain⟨p,z,l,t,rfl,_⟩:=h
   rfl
 subst hX
 obtain⟨p,z,l,t,rfl,k⟩:=h
 refine⟨_,(A7 (B5 A1g)),?_⟩
 exact k H (A8.refl H)
noncomputable abbrev sT1:Stmt:=(U3 (top 54) 2)
theorem J4f:B8 Q3 Q3 (A6 sT1):=scK
theorem J0h(F:Fun K "to_end" "Up.to_end" sT1 f fd):B9 P w K mg base 1 f fd Q3 (A2a .up):=by
 refine F.ok2 J4f (fun vs H Q E h=>?_) (fun X cdv A outer s H vs Q E hX hr hx h=>?_)
 . obtain⟨p,z,rfl,_⟩:=h
   rfl
 subst hX
 obtain⟨p,z,rfl,k⟩:=h
 refine⟨_,(A7 (B5 A1g)),?_⟩
 exact k H (A8.refl H)
noncomputable abbrev sU2:Stmt:=(U3 (top 55) 1)
theorem J3x:B8 Q0 Q0 (A6 sU2):=scK
theorem J0b(F:Fun K "goes_up" "Floor.goes_up" sU2 f fd):B9 P w K mg base 1 f fd Q0 (A3s .floor):=by
 refine F.ok2 J3x (fun vs H Q E h=>?_) (fun X cdv A outer s H vs Q E hX hr hx h=>?_)
 . obtain⟨p,z,l,t,rfl,_⟩:=h
   rfl
 subst hX
 obtain⟨p,z,l,t,rfl,k⟩:=h
 refine⟨_,(A7 (B5 (G5 G8 (pv 1) A2 (C6 _)))),?_⟩
 exact⟨_,rfl,rfl,k H (A8.refl H)⟩
noncomputable abbrev sT2:Stmt:=(U3 (top 55) 2)
theorem J2x:B8 Q3 Q3 (A6 sT2):=scK
theorem J0f(F:Fun K "to_end" "Floor.to_end" sT2 f fd):B9 P w K mg base 1 f fd Q3 (A2a .floor):=by
 refine F.ok2 J2x (fun vs H Q E h=>?_) (fun X cdv A outer s H vs Q E hX hr hx h=>?_)
 . obtain⟨p,z,rfl,_⟩:=h
   rfl
 subst hX
 obtain⟨p,z,rfl,k⟩:=h
 refine⟨_,(A7 (B5 (G5 G8 (pv 1) A2 (C6 _)))),?_⟩
 exact⟨_,rfl,rfl,k H (A8.refl H)⟩
noncomputable abbrev sU3:Stmt:=(U3 (top 56) 1)
theorem J4a:B8 Q0 Q0 (A6 sU3):=scK
theorem G9a(F:Fun K "goes_up" "Ceiling.goes_up" sU3 f fd):B9 P w K mg base 1 f fd Q0 (A3s .ceiling):=by
 refine F.ok2 J4a (fun vs H Q E h=>?_) (fun X cdv A outer s H vs Q E hX hr hx h=>?_)
 . obtain⟨p,z,l,t,rfl,_⟩:=h
   rfl
 subst hX
 obtain⟨p,z,l,t,rfl,k⟩:=h
 refine⟨_,(A7 (B5 (G5 G8 (pv 1) A2 (C6 _)))),?_⟩
 exact⟨_,rfl,rfl,k H (A8.refl H)⟩
noncomputable abbrev sT3:Stmt:=(U3 (top 56) 2)
theorem J4p:B8 Q3 Q3 (A6 sT3):=scK
theorem J0n(F:Fun K "to_end" "Ceiling.to_end" sT3 f fd):B9 P w K mg base 1 f fd Q3 (A2a .ceiling):=by
 refine F.ok2 J4p (fun vs H Q E h=>?_) (fun X cdv A outer s H vs Q E hX hr hx h=>?_)
 . obtain⟨p,z,rfl,_⟩:=h
   rfl
 subst hX
 obtain⟨p,z,rfl,k⟩:=h
 refine⟨_,(A7 (B5 (G5 G8 (pv 1) A2 (C6 _)))),?_⟩
 exact⟨_,rfl,rfl,k H (A8.refl H)⟩
noncomputable abbrev sU4:Stmt:=(U3 (top 57) 1)
theorem J3u:B8 Q0 Q0 (A6 sU4):=scK
theorem J0z(F:Fun K "goes_up" "HalfUp.goes_up" sU4 f fd):B9 P w K mg base 1 f fd Q0 (A3s .halfUp):=by
 refine F.ok2 J3u (fun vs H Q E h=>?_) (fun X cdv A outer s H vs Q E hX hr hx h=>?_)
 . obtain⟨p,z,l,t,rfl,_⟩:=h
   rfl
 subst hX
 obtain⟨p,z,l,t,rfl,k⟩:=h
 refine⟨_,(A7 (B5 (G5 C5r (pv 3) A2 (C6 _)))),?_⟩
 exact⟨_,rfl,_,_,rfl,rfl,k H (A8.refl H)⟩
noncomputable abbrev sT4:Stmt:=(U3 (top 57) 2)
theorem J3n:B8 Q3 Q3 (A6 sT4):=scK
theorem J0e(F:Fun K "to_end" "HalfUp.to_end" sT4 f fd):B9 P w K mg base 1 f fd Q3 (A2a .halfUp):=by
 refine F.ok2 J3n (fun vs H Q E h=>?_) (fun X cdv A outer s H vs Q E hX hr hx h=>?_)
 . obtain⟨p,z,rfl,_⟩:=h
   rfl
 subst hX
 obtain⟨p,z,rfl,k⟩:=h
 refine⟨_,(A7 (B5 A1g)),?_⟩
 exact k H (A8.refl H)
noncomputable abbrev sU5:Stmt:=(U3 (top 58) 1)
theorem J3k:B8 Q0 Q0 (A6 sU5):=scK
theorem J0p(F:Fun K "goes_up" "HalfDown.goes_up" sU5 f fd):B9 P w K mg base 1 f fd Q0 (A3s .halfDown):=by
 refine F.ok2 J3k (fun vs H Q E h=>?_) (fun X cdv A outer s H vs Q E hX hr hx h=>?_)
 . obtain⟨p,z,l,t,rfl,_⟩:=h
   rfl
 subst hX
 obtain⟨p,z,l,t,rfl,k⟩:=h
 refine⟨_,(A7 (B5 (G5 G8 (pv 3) A2 (C6 _)))),?_⟩
 exact⟨_,rfl,rfl,k H (A8.refl H)⟩
noncomputable abbrev sT5:Stmt:=(U3 (top 58) 2)
theorem J4u:B8 Q3 Q3 (A6 sT5):=scK
theorem G9f(F:Fun K "to_end" "HalfDown.to_end" sT5 f fd):B9 P w K mg base 1 f fd Q3 (A2a .halfDown):=by
 refine F.ok2 J4u (fun vs H Q E h=>?_) (fun X cdv A outer s H vs Q E hX hr hx h=>?_)
 . obtain⟨p,z,rfl,_⟩:=h
   rfl
 subst hX
 obtain⟨p,z,rfl,k⟩:=h
 refine⟨_,(A7 (B5 A1g)),?_⟩
 exact k H (A8.refl H)
noncomputable abbrev sU6:Stmt:=(U3 (top 59) 1)
theorem J3s:B8 Q0 Q0 (A6 sU6):=scK
theorem G9d(F:Fun K "goes_up" "HalfEven.goes_up" sU6 f fd):B9 P w K mg base 1 f fd Q0 (A3s .halfEven):=by
 refine F.ok2 J3s (fun vs H Q E h=>?_) (fun X cdv A outer s H vs Q E hX hr hx h=>?_)
 . obtain⟨p,z,l,t,rfl,_⟩:=h
   rfl
 subst hX
 obtain⟨p,z,l,t,rfl,k⟩:=h
 refine⟨_,(A7 (B5 (B1h (G5 G8 (pv 3) A2 (C6 _)) (Z6 (A0e (G5 G8 (pv 3) A2 (C6 _)) (Z6 (G5 G8 (B7 V2 (pv 2) A2) A2 (C6 _)))))))),?_⟩
 have k:=k H (A8.refl H)
 unfold Wy.goes at k
 refine⟨_,rfl,rfl,_,rfl,?_⟩
 cases e:decide (V.int t=V.int 3) with
 |true=>rw[e] at k;exact Z0 k
 | false=>
   rw[e] at k
   refine Y3 ⟨_,rfl,rfl,_,rfl,?_⟩
   cases e2:decide (V.int t=V.int 2) with
   |true=>rw[e2] at k;exact Z0 ⟨_,rfl,_,_,rfl,rfl,(by decide:(0:Int)<2),rfl,k⟩
   |false=>rw[e2] at k;exact Y3 k
noncomputable abbrev sT6:Stmt:=(U3 (top 59) 2)
theorem J4j:B8 Q3 Q3 (A6 sT6):=scK
theorem J0g(F:Fun K "to_end" "HalfEven.to_end" sT6 f fd):B9 P w K mg base 1 f fd Q3 (A2a .halfEven):=by
 refine F.ok2 J4j (fun vs H Q E h=>?_) (fun X cdv A outer s H vs Q E hX hr hx h=>?_)
 . obtain⟨p,z,rfl,_⟩:=h
   rfl
 subst hX
 obtain⟨p,z,rfl,k⟩:=h
 refine⟨_,(A7 (B5 A1g)),?_⟩
 exact k H (A8.refl H)
noncomputable abbrev sU7:Stmt:=(U3 (top 60) 1)
theorem J2y:B8 Q0 Q0 (A6 sU7):=scK
theorem G8s(F:Fun K "goes_up" "FiveUp.goes_up" sU7 f fd):B9 P w K mg base 1 f fd Q0 (A3s .fiveUp):=by
 refine F.ok2 J2y (fun vs H Q E h=>?_) (fun X cdv A outer s H vs Q E hX hr hx h=>?_)
 . obtain⟨p,z,l,t,rfl,_⟩:=h
   rfl
 subst hX
 obtain⟨p,z,l,t,rfl,k⟩:=h
 refine⟨_,(A7 (B5 (G5 A3j (pv 2) (U7 (A0 A2 (A0 A2 A3))) (by rfl)))),?_⟩
 exact⟨_,rfl,C9 (by decide),fun q nq=>⟨q,_,rfl,.inr (SqT.of A4),rfl,rfl,k _ (A8.upd nq)⟩⟩
noncomputable abbrev sT7:Stmt:=(U3 (top 60) 2)
theorem J4x:B8 Q3 Q3 (A6 sT7):=scK
theorem J1c(F:Fun K "to_end" "FiveUp.to_end" sT7 f fd):B9 P w K mg base 1 f fd Q3 (A2a .fiveUp):=by
 refine F.ok2 J4x (fun vs H Q E h=>?_) (fun X cdv A outer s H vs Q E hX hr hx h=>?_)
 . obtain⟨p,z,rfl,_⟩:=h
   rfl
 subst hX
 obtain⟨p,z,rfl,k⟩:=h
 refine⟨_,(A7 (B5 A1g)),?_⟩
 exact k H (A8.refl H)
noncomputable abbrev B0x:Stmt:=(top 32)
noncomputable abbrev A7n:Stmt:=(top 33)
noncomputable abbrev A3y:Stmt:=(top 34)
noncomputable abbrev B0r:Stmt:=(top 35)
noncomputable abbrev B0g:Stmt:=(top 36)
noncomputable abbrev B6m:Stmt:=(top 37)
noncomputable abbrev B7a:Stmt:=(top 38)
noncomputable abbrev A7b:Stmt:=(top 39)
noncomputable abbrev A7h:Stmt:=(top 40)
noncomputable abbrev B0k:Stmt:=(top 41)
structure Cv where
 r:Int
 y:Wy
 l:Int
 m:Int
structure Cv.Ok(c:Cv):Prop where
 r1:1<=c.r
 r2:c.r<=24
 l1: -60<=c.l
 l2:c.l<=0
 m1:0<=c.m
 m2:c.m<=60
noncomputable def A9r (ideal:Int):Nat ->Int ->Int ->Int×Int
 |0,f,p=>(f,p)
 |n+1,f,p=>if f % 10=0 then A9r ideal n (f/10) (p+1) else(f,p)
noncomputable def A0h (ideal f p:Int):Int×Int:=A9r ideal (ideal-p).toNat f p
theorem B1p{ideal f p:Int}(h:p<ideal)(z:f % 10=0):A0h ideal f p=A0h ideal (f/10) (p+1):=by
 unfold A0h
 obtain⟨n,hn⟩:∃n,(ideal-p).toNat=n+1:=⟨(ideal-p).toNat-1,by omega⟩
 rw[hn,show(ideal-(p+1)).toNat=n by omega]
 show(if f % 10=0 then A9r ideal n (f/10) (p+1) else(f,p))=_
 rw[if_pos z]
theorem B2y{ideal f p:Int}(h:¬(p<ideal/\f % 10=0)):A0h ideal f p=(f,p):=by
 unfold A0h
 by_cases q:p<ideal
 . obtain⟨n,hn⟩:∃n,(ideal-p).toNat=n+1:=⟨(ideal-p).toNat-1,by omega⟩
   rw[hn]
   show(if f % 10=0 then A9r ideal n (f/10) (p+1) else(f,p))=_
   rw[if_neg fun z=>h ⟨q,z⟩]
 rw[show(ideal-p).toNat=0 by omega]
 rfl
noncomputable def A1j (f:Int):Int:=((Str.ofString (toString f)).length:Nat)
noncomputable def upI (y:Wy) (s wh pt:Int):Int:=if(if pt=0 then false else y.goes s (wh % 10) pt)=true then wh+1 else wh
noncomputable def A4j (r f q:Int):Int×Int:=if f=B0 r then(f/10,q+1) else(f,q)
noncomputable def A0n (c:Cv) (s wh pt q ideal:Int):Int×Int:=if pt=0 then A0h ideal wh q else A4j c.r (upI c.y s wh pt) q
noncomputable def A1z (m f p:Int):Bool:=if f=0 then false else decide (p+A1j f-1>m)
noncomputable def A8x (c:Cv) (s:Int):Nm:=if c.y.toEnd s=true then⟨.end_,s,0,0⟩ else⟨.plain,s,B0 c.r-1,c.m-c.r+1⟩
noncomputable def A0u (pt:Int) (cut:Bool):List Str:=if pt=0 then(if cut=true then ["cut"] else []) else ["off","cut"]
noncomputable def A0v (l L pt:Int):List Str:=if L>=l then [] else if pt=0 then ["faint"] else ["sunk","faint"]
noncomputable def A5r (c:Cv) (s wh pt L q ideal:Int):Nm×List Str:=
 if A1z c.m (A0n c s wh pt q ideal).1 (A0n c s wh pt q ideal).2=true then(A8x c s,Q37)
 else(⟨.plain,s,(A0n c s wh pt q ideal).1,(A0n c s wh pt q ideal).2⟩,A0u pt (decide ((A0n c s wh pt q ideal).2>ideal))++A0v c.l L pt)
noncomputable def B0b (a b:Int):Int:=if b>a then b else a
noncomputable def D0e (a b:Int):Int:=if b<a then b else a
def Z8 (CC:Addr) (H:Hp) (c:Addr) (v:Cv) (a b:Addr) (xs ys:List Str):Prop:=A0k CC H c v.r v.y v.l v.m a b (xs.map V.str) (ys.map V.str)
theorem Z8.same{CC:Addr}{H H':Hp}{c:Addr}{v:Cv}{a b:Addr}{xs ys:List Str}(h:Z8 CC H c v a b xs ys)(e:A8 H H'):Z8 CC H' c v a b xs ys:=A0k.same h e
theorem B3k{CN:Addr}{H:Hp}{Q:VK}{E:XK}{k s f p:V}(h:∀n H',H n=none ->A8 H H' ->A2r CN H' n k s f p ->Q (.ref n) H'):
   ∀x dx,H x=none ->H dx=none ->dx≠x ->B6e CN (.ref x::([k,s,f,p]++ [])) (upd (upd H dx (.own x)) x (.ins CN dx [])) (fun v H2=>v= .non/\Q (.ref x) H2) E:=by
 intro x dx nx nd ne
 refine⟨x,dx,k,s,f,p,rfl,A4,fun H' e kp=>⟨rfl,h x H' nx (fun b o z=>?_) ⟨dx,e⟩⟩⟩
 refine kp b o ?_ (D8 z nx)
 rw[D0 (D8 z nx),D0 (D8 z nd)]
 exact z
structure A9b(P:Program)(w:World)(K:Frag)(mg:Str ->Option Value)(base:Heap)(CC CB CT CW:Addr)(cw:Wy ->Addr):Prop where
 c:B3r K mg CC
 way:A8d P w K mg base CC "way" 2 ["self"] (B2a CC cw)
 low:A8d P w K mg base CC "lowest" 1 ["self"] (B2x CC)
 raised:A8d P w K mg base CC "raised" 3 Q13 (B1m K CC CB CT)
 wc:∀y:Wy,B0c K mg y.cls (cw y) CW
 u:∀y:Wy,J0v P w K mg base (cw y) y
 e:∀y:Wy,G9s P w K mg base (cw y) y
def B5h (CN:Addr):Sp:=fun vs H Q _=>∃i s f p:Int,vs=[.int i,.int s,.int f,.int p]/\∀n H',H n=none ->A8 H H' ->V3 CN H' n ⟨.plain,s,(A0h i f p).1,(A0h i f p).2⟩ ->Q (.ref n) H'
theorem scNearest:B8 Q22 Q22 (A6 A7n):=scK
theorem C2h{f fI CN:Addr}{fd fdI:FuncData}(D:Def K mg "nearest_to" Q22 A7n f fd)(N:Num K mg CN)(M:A8a P w K mg base CN fI fdI):B9 P w K mg base 3 f fd Q22 (B5h CN):=by
 refine D.F.ok2 scNearest (fun vs H Q E h=>?_) (fun X cdv A outer s H vs Q E hX hr hx h=>?_)
 . obtain⟨i,s,f,p,rfl,_⟩:=h
   rfl
 subst hX
 obtain⟨i,sg,fg,pw,rfl,k⟩:=h
 refine⟨_,(A5 (A7r PassesOwn.leaving (PW.pt (A2q (C8 A2t (pv 3) (pv 0) (C6 _)) (A1q (C8 G8 (B7 V2 (pv 2) A2) A2 (C6 _))))) (A5 (D5 (i:=2) scNearest.nd rfl (Or.inl rfl) (B7 U1 (pv 2) A2)) (A7 (D5 (i:=3) scNearest.nd rfl (Or.inl rfl) (B7 V1 (pv 3) A2))))) (A7 (B5 (A2w M.m (B9.up M.g) hr N.g M.b .nil hx (A0 C7 (A0 (pv 1) (A0 (pv 2) (A0 (pv 3) A3)))))))),?_⟩
 have d10:(0:Int)<10/\(10:Int).natAbs.log2<9000:=⟨by decide,by decide+kernel⟩
 refine A7p (fun σ H2=>H2=H/\∃f p:Int,A0h i f p=A0h i fg pw/\σ=[si i,si sg,si f,si p]) (fun σ _=>match σ with| [_,_,_,some (.int p)]=>(i-p).toNat|_=>0) ?_ ?_ ?_
 . exact⟨rfl,fg,pw,rfl,rfl⟩
 . rintro σ H2 ⟨rfl,f,p,e,rfl⟩
   have stop:¬(p<i/\f % 10=0) ->∀n H',H2 n=none ->A8 H2 H' ->A2r CN H' n (.str "plain") (.int sg) (.int f) (.int p) ->Q (.ref n) H':=fun h n H' nn sm num=>by
     refine k n H' nn sm ?_
     rw[<-e,B2y h]
     exact num
   refine⟨_,rfl,_,rfl,_,_,rfl,rfl,_,rfl,V0 (fun h1=>?_) (fun h1=>Y3 ⟨_,rfl,_,rfl,_,rfl,B3k (stop fun q=>h1 q.1)⟩)⟩
   refine⟨_,rfl,_,_,rfl,rfl,d10.1,rfl,_,rfl,V0 (fun h2=>?_) (fun h2=>⟨_,rfl,_,rfl,_,rfl,B3k (stop fun q=>h2 (congrArg V.int q.2))⟩)⟩
   have h1:p<i:=h1
   have h2:f % 10=0:=by injection h2
   refine⟨_,rfl,_,_,rfl,rfl,d10,_,rfl,_,_,rfl,rfl,⟨rfl,f/10,p+1,(B1p h1 h2).symm.trans e,rfl⟩,?_⟩
   show(i-(p+1)).toNat<(i-p).toNat
   omega
 rintro σ H2 Q1 Q2 hQ ⟨v,e,v2,e2,a,b,e3,e4,c,e5,q⟩
 refine⟨v,e,v2,e2,a,b,e3,e4,c,e5,?_⟩
 cases c with
 |false=>exact Y3 (hQ _ _ (by simpa using q))
 | true=>
   have q:_:=q
   rw[if_pos rfl] at q ⊢
   obtain⟨v3,e6,a2,b2,e7,e8,e9,e10,e11,e12,q⟩:=q
   exact⟨v3,e6,a2,b2,e7,e8,e9,e10,e11,e12,hQ _ _ q⟩
def A9t (CC:Addr):Sp:=fun vs H Q _=>∃c v a b xs ys p,∃s wh pt:Int,vs=[.ref c,.int s,.ref p]/\Z8 CC H c v a b xs ys/\H p=some (.tup [.int wh,.int pt])/\∀H',A8 H H' ->Q (.int (upI v.y s wh pt)) H'
theorem B9e:B8 Q23 Q23 (A6 A3y):=scK
theorem B6s{f CC CB CT CW:Addr}{cw:Wy ->Addr}(D:Def K mg "neighbour" Q23 A3y f fd)(C:A9b P w K mg base CC CB CT CW cw):B9 P w K mg base 3 f fd Q23 (A9t CC):=by
 refine D.F.ok2 B9e (fun vs H Q E h=>?_) (fun X cdv A outer s H vs Q E hX hr hx h=>?_)
 . obtain⟨c,v,a,b,xs,ys,p,sg,wh,pt,rfl,_⟩:=h
   rfl
 subst hX
 obtain⟨c,v,a,b,xs,ys,p,sg,wh,pt,rfl,hc,hp,k⟩:=h
 obtain⟨fW,fdW,mW,gW,bW⟩:=C.way
 obtain⟨fU,fdU,mU,gU,bU⟩:=C.u v.y
 refine⟨_,(A5 (J1 (PW.pt (A2q (C8 B1c (G4 U8 (pv 2) A2 (fun _ _=>rfl)) A2 (C6 _)) (A1q (Z7 (A6k (A2e (pv 0) C.c.cl mW gW hr bW .nil hx) (C.wc v.y).cl mU gU hr bU .nil hx (A0 (pv 1) (A0 (B7 V2 (G4 U8 (pv 2) A2 (fun _ _=>rfl)) A2) (A0 (G4 U8 (pv 2) A2 (fun _ _=>rfl)) A3)))))))) (A7 (B5 (B7 V1 (G4 U8 (pv 2) A2 (fun _ _=>rfl)) A2))) D6) (A7 (B5 (G4 U8 (pv 2) A2 (fun _ _=>rfl))))),?_⟩
 obtain⟨⟨dx,e⟩,_,_⟩:=id hc
 unfold upI at k
 refine⟨_,rfl,p,_,_,_,rfl,rfl,SqT.of hp,D7 (j:=1) rfl,rfl,_,rfl,?_⟩
 by_cases h0:pt=0
 . subst h0
   rw[if_pos rfl,if_neg Bool.false_ne_true] at k
   exact B2t rfl (Y3 ⟨_,rfl,p,_,_,_,rfl,rfl,SqT.of hp,D7 (j:=0) rfl,k H (A8.refl H)⟩)
 rw[if_neg h0] at k
 rw[decide_eq_false (fun q=>h0 (by injection q):¬V.int pt=V.int 0)]
 refine Z0 ⟨_,rfl,c,dx,_,rfl,e,A6p _ _ _ _ _ _,c,v.r,v.y,v.l,v.m,a,b,_,_,rfl,hc,fun q dq H1 nq s1 eq=>?_⟩
 refine⟨q,dq,_,rfl,eq,rfl,_,rfl,_,rfl,p,_,_,_,rfl,rfl,SqT.of (s1 _ _ hp),D7 (j:=0) rfl,_,_,rfl,rfl,(by decide:(0:Int)<10),_,rfl,p,_,_,_,rfl,rfl,SqT.of (s1 _ _ hp),D7 (j:=1) rfl,q,sg,wh % 10,pt,rfl,fun H2 s2=>⟨_,rfl,?_⟩⟩
 have s3:=s1.trans s2
 cases g:v.y.goes sg (wh % 10) pt with
 | true=>
   rw[g,if_pos rfl] at k
   exact Z0 ⟨_,rfl,p,_,_,_,rfl,rfl,SqT.of (s3 _ _ hp),D7 (j:=0) rfl,_,_,rfl,rfl,k H2 s3⟩
 | false=>
   rw[g,if_neg Bool.false_ne_true] at k
   exact Y3 ⟨_,rfl,p,_,_,_,rfl,rfl,SqT.of (s3 _ _ hp),D7 (j:=0) rfl,k H2 s3⟩
def B8f (CN CC:Addr):Sp:=fun vs H Q _=>∃c v a b xs ys,∃s f q:Int,vs=[.ref c,.int s,.int f,.int q]/\Z8 CC H c v a b xs ys/\v.Ok/\∀n H',H n=none ->A8 H H' ->V3 CN H' n ⟨.plain,s,(A4j v.r f q).1,(A4j v.r f q).2⟩ ->Q (.ref n) H'
theorem C9g:B8 Q24 Q24 (A6 B0r):=scK
theorem C8b{f f1 fI CN CC CB CT CW:Addr}{cw:Wy ->Addr}{fd fd1 fdI:FuncData}(D:Def K mg "within_room" Q24 B0r f fd)(dA:Def K mg "ten_to" ["count"] A4w f1 fd1)(dB:B9 P w K mg base 2 f1 fd1 ["count"] A5m)(C:A9b P w K mg base CC CB CT CW cw)(N:Num K mg CN)(M:A8a P w K mg base CN fI fdI):
   B9 P w K mg base 3 f fd Q24 (B8f CN CC):=by
 refine D.F.ok2 C9g (fun vs H Q E h=>?_) (fun X cdv A outer s H vs Q E hX hr hx h=>?_)
 . obtain⟨c,v,a,b,xs,ys,sg,f,q,rfl,_⟩:=h
   rfl
 subst hX
 obtain⟨c,v,a,b,xs,ys,sg,fg,q,rfl,hc,ok,k⟩:=h
 refine⟨_,(A5 (J1 (C8 G8 (pv 2) (G0 dA dB hr hx (A0 (J0 (pv 0) rfl) A3)) (C6 _)) (A7 (B5 (A2w M.m (B9.up M.g) hr N.g M.b .nil hx (A0 C7 (A0 (pv 1) (A0 (B7 U1 (pv 2) A2) (A0 (B7 V1 (pv 3) A2) A3))))))) D6) (A7 (B5 (A2w M.m (B9.up M.g) hr N.g M.b .nil hx (A0 C7 (A0 (pv 1) (A0 (pv 2) (A0 (pv 3) A3)))))))),?_⟩
 have d10:(0:Int)<10/\(10:Int).natAbs.log2<9000:=⟨by decide,by decide+kernel⟩
 obtain⟨⟨dx,e⟩,_,_⟩:=id hc
 have r1:=ok.r1;have r2:=ok.r2
 refine⟨_,rfl,_,rfl,c,CC,dx,_,_,rfl,e,C.c.cl,C.c.n_room,A4h _ _ _ _ _ _,v.r.toNat,(by rw[Int.toNat_of_nonneg (by omega)];rfl),by omega,rfl,_,rfl,?_⟩
 unfold A4j at k
 refine V0 (fun h=>?_) (fun h=>?_)
 . have h:fg=B0 v.r:=by injection h
   rw[if_pos h] at k
   exact⟨_,rfl,_,rfl,_,_,rfl,rfl,d10,_,rfl,_,_,rfl,rfl,B3k k⟩
 have h:¬fg=B0 v.r:=fun z=>h (congrArg V.int z)
 rw[if_neg h] at k
 exact⟨_,rfl,_,rfl,_,rfl,B3k k⟩
def B8p (CN CC:Addr):Sp:=fun vs H Q _=>∃c v a b xs ys n x,vs=[.ref c,.ref n]/\Z8 CC H c v a b xs ys/\V3 CN H n x/\x.f.natAbs<2^300/\Q (.bl (A1z v.m x.f x.p)) H
theorem C9w:B8 Q25 Q25 (A6 B0g):=scK
theorem C8j{f f1 CN CC CB CT CW:Addr}{cw:Wy ->Addr}(D:Def K mg "is_beyond" Q25 B0g f fd)(dA:Def K mg "lead_of" ["number"] C5t f1 fd1)(dB:B9 P w K mg base 1 f1 fd1 ["number"] (C8z CN))(C:A9b P w K mg base CC CB CT CW cw)(N:Num K mg CN):
   B9 P w K mg base 2 f fd Q25 (B8p CN CC):=by
 refine D.F.ok2 C9w (fun vs H Q E h=>?_) (fun X cdv A outer s H vs Q E hX hr hx h=>?_)
 . obtain⟨c,v,a,b,xs,ys,n,x,rfl,_⟩:=h
   rfl
 subst hX
 obtain⟨c,v,a,b,xs,ys,n,x,rfl,hc,hn,hf,k⟩:=h
 refine⟨_,(A7 (B5 (A0e (G5 B1c (J0 (pv 1) rfl) A2 (C6 _)) (Z6 (G5 A5y (G0 dA dB hr hx (A0 (pv 1) A3)) (J0 (pv 0) rfl) (C6 _)))))),?_⟩
 obtain⟨⟨dx,e⟩,_,_⟩:=id hc
 obtain⟨dn,en⟩:=id hn
 unfold A1z at k
 refine⟨_,rfl,n,CN,dn,_,_,rfl,en,N.cl,N.n3,B3z _ _ _ _,rfl,_,rfl,?_⟩
 by_cases h0:x.f=0
 . rw[if_pos h0] at k
   rw[decide_eq_true (congrArg V.int h0)]
   exact Y3 k
 rw[if_neg h0] at k
 rw[decide_eq_false (fun q=>h0 (by injection q):¬V.int x.f=V.int 0)]
 exact Z0 ⟨_,rfl,n,_,_,_,_,rfl,hn,hf,_,rfl,c,CC,dx,_,_,rfl,e,C.c.cl,C.c.n_most,B2z _ _ _ _ _ _,_,_,rfl,rfl,k⟩
def C5d (CN CC:Addr):Sp:=fun vs H Q _=>∃c v a b xs ys,∃s:Int,vs=[.ref c,.int s]/\Z8 CC H c v a b xs ys/\v.Ok/\∀n H',H n=none ->A8 H H' ->V3 CN H' n ⟨.plain,s,B0 v.r-1,v.m-v.r+1⟩ ->Q (.ref n) H'
theorem G1v:B8 Q10 Q10 (A6 B7a):=scK
theorem D1v{f f1 fI CN CC CB CT CW:Addr}{cw:Wy ->Addr}{fd fd1 fdI:FuncData}(D:Def K mg "nines" Q10 B7a f fd)(dA:Def K mg "ten_to" ["count"] A4w f1 fd1)(dB:B9 P w K mg base 2 f1 fd1 ["count"] A5m)(C:A9b P w K mg base CC CB CT CW cw)(N:Num K mg CN)(M:A8a P w K mg base CN fI fdI):
   B9 P w K mg base 3 f fd Q10 (C5d CN CC):=by
 refine D.F.ok2 G1v (fun vs H Q E h=>?_) (fun X cdv A outer s H vs Q E hX hr hx h=>?_)
 . obtain⟨c,v,a,b,xs,ys,sg,rfl,_⟩:=h
   rfl
 subst hX
 obtain⟨c,v,a,b,xs,ys,sg,rfl,hc,ok,k⟩:=h
 refine⟨_,(A7 (B5 (A2w M.m (B9.up M.g) hr N.g M.b .nil hx (A0 C7 (A0 (pv 1) (A0 (B7 Y2 (G0 dA dB hr hx (A0 (J0 (pv 0) rfl) A3)) A2) (A0 (B7 V1 (B7 Y2 (J0 (pv 0) rfl) (J0 (pv 0) rfl)) A2) A3))))))),?_⟩
 obtain⟨⟨dx,e⟩,_,_⟩:=id hc
 have r1:=ok.r1;have r2:=ok.r2
 exact⟨_,rfl,_,rfl,c,CC,dx,_,_,rfl,e,C.c.cl,C.c.n_room,A4h _ _ _ _ _ _,v.r.toNat,(by rw[Int.toNat_of_nonneg (by omega)];rfl),by omega,_,_,rfl,rfl,_,rfl,c,CC,dx,_,_,rfl,e,C.c.cl,C.c.n_most,B2z _ _ _ _ _ _,_,rfl,c,CC,dx,_,_,rfl,e,C.c.cl,C.c.n_room,A4h _ _ _ _ _ _,_,_,rfl,rfl,_,_,rfl,rfl,B3k k⟩
def C4j (CN CC:Addr):Sp:=fun vs H Q _=>∃c v a b xs ys,∃s:Int,vs=[.ref c,.int s]/\Z8 CC H c v a b xs ys/\v.Ok/\0<=s/\s<=1/\∀n H',A8 H H' ->V3 CN H' n (A8x v s) ->Q (.ref n) H'
theorem G0p:B8 Q10 Q10 (A6 B6m):=scK
theorem C9k{f f1 f2 CN CN' CC CB CT CW:Addr}{cw:Wy ->Addr}(D:Def K mg "burst" Q10 B6m f fd)(dA:Def K mg "nines" Q10 B7a f1 fd1)(dB:B9 P w K mg base 3 f1 fd1 Q10 (C5d CN CC))(dC:Def K mg "end" ["sign"] C7u f2 fd2)(dD:B9 P w K mg base 3 f2 fd2 ["sign"] (C4y K CN CN'))(C:A9b P w K mg base CC CB CT CW cw):
   B9 P w K mg base 4 f fd Q10 (C4j CN CC):=by
 refine D.F.ok2 G0p (fun vs H Q E h=>?_) (fun X cdv A outer s H vs Q E hX hr hx h=>?_)
 . obtain⟨c,v,a,b,xs,ys,sg,rfl,_⟩:=h
   rfl
 subst hX
 obtain⟨c,v,a,b,xs,ys,sg,rfl,hc,ok,s0,s1,k⟩:=h
 obtain⟨fW,fdW,mW,gW,bW⟩:=C.way
 obtain⟨fU,fdU,mU,gU,bU⟩:=C.e v.y
 refine⟨_,(A7 (B5 (A0p (Z7 (A6k (A2e (pv 0) C.c.cl mW gW hr bW .nil hx) (C.wc v.y).cl mU gU hr bU .nil hx (A0 (pv 1) A3))) (G0 dC dD hr hx (A0 (pv 1) A3)) (G0 dA dB hr hx (A0 (pv 0) (A0 (pv 1) A3)))))),?_⟩
 obtain⟨⟨dx,e⟩,_,_⟩:=id hc
 unfold A8x at k
 refine⟨_,rfl,c,dx,_,rfl,e,A6p _ _ _ _ _ _,c,v.r,v.y,v.l,v.m,a,b,_,_,rfl,hc,fun q dq H1 nq t1 eq=>?_⟩
 refine⟨q,dq,_,rfl,eq,rfl,_,rfl,q,sg,rfl,fun H2 t2=>⟨_,rfl,?_⟩⟩
 have t3:=t1.trans t2
 cases g:v.y.toEnd sg with
 | true=>
   rw[g,if_pos rfl] at k
   exact Z0 ⟨_,rfl,_,rfl,.inl ⟨⟨sg,rfl,s0,s1⟩,fun n H' _ sm num=>k n H' (t3.trans sm) num⟩⟩
 | false=>
   rw[g,if_neg Bool.false_ne_true] at k
   exact Y3 ⟨_,rfl,_,rfl,c,v,a,b,xs,ys,sg,rfl,hc.same t3,ok,fun n H' _ sm num=>k n H' (t3.trans sm) num⟩
def B5b:Sp:=fun vs H Q _=>∃(pt:Int) (cut:Bool),vs=[.int pt,.bl cut]/\∀l,H l=none ->Q (.ref l) (upd H l (.lst ((A0u pt cut).map V.str)))
theorem C7a:B8 Q26 Q26 (A6 A7b):=scK
theorem C2k(D:Def K mg "signals_of_rest" Q26 A7b f fd):B9 P w K mg base 1 f fd Q26 B5b:=by
 refine D.F.ok2 C7a (fun vs H Q E h=>?_) (fun X cdv A outer s H vs Q E hX hr hx h=>?_)
 . obtain⟨pt,cut,rfl,_⟩:=h
   rfl
 subst hX
 obtain⟨pt,cut,rfl,k⟩:=h
 refine⟨_,(A5 (J1 (C8 B1c (pv 0) A2 (C6 _)) (A7 (B5 (U0 (A0 C7 (A0 C7 A3))))) D6) (A7 (B5 (A0p (Z7 (pv 1)) (U0 (A0 C7 A3)) (U0 A3))))),?_⟩
 unfold A0u at k
 refine⟨_,rfl,rfl,_,rfl,?_⟩
 by_cases h0:pt=0
 . subst h0
   rw[if_pos rfl] at k
   refine B2t rfl ⟨_,rfl,_,rfl,?_⟩
   cases cut with
   |true=>exact Z0 ⟨C9 (by decide),k⟩
   |false=>exact Y3 ⟨C9 (by decide),k⟩
 rw[if_neg h0] at k
 rw[decide_eq_false (fun q=>h0 (by injection q):¬V.int pt=V.int 0)]
 exact Z0 ⟨C9 (by decide),k⟩
def B5n (CC:Addr):Sp:=fun vs H Q _=>∃c v a b xs ys,∃L pt:Int,vs=[.ref c,.int L,.int pt]/\Z8 CC H c v a b xs ys/\∀l,H l=none ->Q (.ref l) (upd H l (.lst ((A0v v.l L pt).map V.str)))
theorem C6p:B8 Q27 Q27 (A6 A7h):=scK
theorem C2a{f CC CB CT CW:Addr}{cw:Wy ->Addr}(D:Def K mg "signals_of_lead" Q27 A7h f fd)(C:A9b P w K mg base CC CB CT CW cw):B9 P w K mg base 1 f fd Q27 (B5n CC):=by
 refine D.F.ok2 C6p (fun vs H Q E h=>?_) (fun X cdv A outer s H vs Q E hX hr hx h=>?_)
 . obtain⟨c,v,a,b,xs,ys,L,pt,rfl,_⟩:=h
   rfl
 subst hX
 obtain⟨c,v,a,b,xs,ys,L,pt,rfl,hc,k⟩:=h
 refine⟨_,(A5 (J1 (C8 C5r (pv 1) (J0 (pv 0) rfl) (C6 _)) (A7 (B5 (U0 A3))) D6) (A7 (B5 (A0p (C8 G8 (pv 2) A2 (C6 _)) (U0 (A0 C7 A3)) (U0 (A0 C7 (A0 C7 A3))))))),?_⟩
 obtain⟨⟨dx,e⟩,_,_⟩:=id hc
 unfold A0v at k
 refine⟨_,rfl,_,rfl,c,CC,dx,_,_,rfl,e,C.c.cl,C.c.n_least,B4x _ _ _ _ _ _,_,_,rfl,rfl,_,rfl,V0 (fun h=>?_) (fun h=>?_)⟩
 . rw[if_pos h] at k
   exact⟨C9 (by decide),k⟩
 rw[if_neg h] at k
 refine⟨_,rfl,rfl,_,rfl,V0 (fun h=>?_) (fun h=>?_)⟩
 . rw[if_pos (by injection h)] at k
   exact⟨C9 (by decide),k⟩
 rw[if_neg fun q=>h (congrArg V.int q)] at k
 exact⟨C9 (by decide),k⟩
def B9s (CN CC:Addr):Sp:=fun vs H Q _=>∃c v a b xs ys,∃s i:Int,vs=[.ref c,.int s,.int i]/\Z8 CC H c v a b xs ys/\∀n H',H n=none ->A8 H H' ->V3 CN H' n ⟨.plain,s,0,D0e (B0b i (v.l-v.r+1)) v.m⟩ ->Q (.ref n) H'
theorem C9b:B8 Q28 Q28 (A6 B0k):=scK
theorem C6e{f fI CN CC CB CT CW:Addr}{cw:Wy ->Addr}{fd fdI:FuncData}(D:Def K mg "nought" Q28 B0k f fd)(C:A9b P w K mg base CC CB CT CW cw)(N:Num K mg CN)(M:A8a P w K mg base CN fI fdI)(O:Own mg):B9 P w K mg base 3 f fd Q28 (B9s CN CC):=by
 refine D.F.ok2 C9b (fun vs H Q E h=>?_) (fun X cdv A outer s H vs Q E hX hr hx h=>?_)
 . obtain⟨c,v,a,b,xs,ys,sg,i,rfl,_⟩:=h
   rfl
 subst hX
 obtain⟨c,v,a,b,xs,ys,sg,i,rfl,hc,k⟩:=h
 obtain⟨fL,fdL,mL,gL,bL⟩:=C.low
 refine⟨_,(A7 (B5 (A2w M.m (B9.up M.g) hr N.g M.b .nil hx (A0 C7 (A0 (pv 1) (A0 A2 (A0 (V7 (B3d hx.hd) (by rfl) O.min_ boot_min (A0 (V7 (A3t hx.hd) (by rfl) O.max_ boot_max (A0 (pv 2) (A0 (A2e (pv 0) C.c.cl mL gL hr bL .nil hx) A3))) (A0 (J0 (pv 0) rfl) A3))) A3))))))),?_⟩
 obtain⟨⟨dx,e⟩,_,_⟩:=id hc
 exact⟨_,rfl,_,rfl,_,rfl,c,dx,_,rfl,e,A5x _ _ _ _ _ _,c,v.r,v.y,v.l,v.m,a,b,_,_,rfl,hc,_,_,rfl,_,rfl,c,CC,dx,_,_,rfl,e,C.c.cl,C.c.n_most,B2z _ _ _ _ _ _,_,_,rfl,B3k k⟩
noncomputable abbrev A6x:Stmt:=(top 31)
theorem B2h(i:Int):∀(n:Nat) (f p:Int),0<=f ->0<=(A9r i n f p).1/\(A9r i n f p).1<=f
 |0,f,p,h=>⟨h,Int.le_refl _⟩
 | n +1,f,p,h=>by
   show 0<=(if f % 10=0 then A9r i n (f/10) (p+1) else(f,p)).1/\(if f % 10=0 then A9r i n (f/10) (p+1) else(f,p)).1<=f
   by_cases z:f % 10=0
   . rw[if_pos z]
     have:=B2h i n (f/10) (p+1) (by omega)
     omega
   . rw[if_neg z]
     exact⟨h,Int.le_refl _⟩
theorem D1y{t b u1 v1 u2 v2 d:Nat}(h:t*10^u1<10*(b*10^v1))(e:u2+v1<=u1+v2+d):t*10^u2<10^(d+1)*(b*10^v2):=by
 have p:0<10^v1:=Nat.pow_pos (by decide)
 apply Nat.lt_of_mul_lt_mul_right (a:=10^v1)
 calc t*10^u2*10^v1=t*10^(u2+v1):=by rw[Nat.mul_assoc, <-Nat.pow_add]
   _<=t*10^(u1+v2+d):=Nat.mul_le_mul_left t (Nat.pow_le_pow_right (by decide) e)
   _=t*10^u1*(10^v2*10^d):=by rw[Nat.mul_assoc, <-Nat.pow_add, <-Nat.pow_add,Nat.add_assoc]
   _<10*(b*10^v1)*(10^v2*10^d):=Nat.mul_lt_mul_of_pos_right h (Nat.mul_pos (Nat.pow_pos (by decide)) (Nat.pow_pos (by decide)))
   _=10^(d+1)*(b*10^v2)*10^v1:=by rw[Nat.pow_succ];ac_rfl
theorem C5s{t b s1 s2 r:Int}(ht:Sz t)(hb:Sz b)(h:A1e t b s1)(hr:1<=r)(e:s2<=s1+(r-1)):0<=whI t b s2/\whI t b s2<B0 r:=by
 obtain⟨tn,rfl,_,_⟩:=ht.nat
 obtain⟨bn,rfl,b1,_⟩:=hb.nat
 have lp:0<(bn:Int)*B0 (-s2):=Int.mul_pos (by omega) (Y4 _)
 refine⟨Int.ediv_nonneg (Int.mul_nonneg (by omega) (Int.le_of_lt (Y4 _))) (Int.le_of_lt lp),?_⟩
 refine Int.ediv_lt_of_lt_mul lp ?_
 have a:tn*10^s1.toNat<10*(bn*10^(-s1).toNat):=Int.ofNat_lt.mp h.2
 have c:=D1y (u2:=s2.toNat) (v2:=(-s2).toNat) (d:=(r-1).toNat) a (by
   have x1:=Int.toNat_sub_toNat_neg s1
   have x2:=Int.toNat_sub_toNat_neg s2
   have x3:=Int.toNat_of_nonneg (show 0<=r-1 by omega)
   clear a lp h
   generalize s1.toNat=A at*
   generalize (-s1).toNat=B at*
   generalize s2.toNat=C at*
   generalize (-s2).toNat=D at*
   generalize (r-1).toNat=E at*
   omega)
 rw[show(r-1).toNat+1=r.toNat by omega] at c
 exact Int.ofNat_lt.mpr c
theorem D9c{r:Int}(h:r<=24):B0 r<=10^24:=by
 unfold B0
 have:10^r.toNat<=10^24:=Nat.pow_le_pow_right (by decide) (by omega)
 exact Int.ofNat_le.mpr this
theorem B1q{c:Cv}{s wh pt q i:Int}(ok:c.Ok)(h0:0<=wh)(h1:wh<B0 c.r):(A0n c s wh pt q i).1.natAbs<2^300:=by
 have t:=D9c ok.r2
 have big:((10^24:Nat):Int)=10^24:=by decide+kernel
 have lt:∀z:Int,0<=z ->z<=10^24 ->z.natAbs<2^300:=fun z a b=>Nat.lt_of_le_of_lt (show z.natAbs<=10^24 by omega) (by decide+kernel)
 unfold A0n
 split
 . have:=B2h i (i-q).toNat wh q h0
   exact lt _ this.1 (by unfold A0h;omega)
 have hu:0<=upI c.y s wh pt/\upI c.y s wh pt<=B0 c.r:=by
   have e:upI c.y s wh pt=wh+1\/upI c.y s wh pt=wh:=by
     unfold upI
     generalize (if pt=0 then false else c.y.goes s (wh % 10) pt)=g
     cases g with
     |true=>exact .inl rfl
     |false=>exact .inr rfl
   omega
 generalize upI c.y s wh pt=u at hu
 unfold A4j
 split
 . exact lt (u/10) (by omega) (by omega)
 exact lt u (by omega) (by omega)
def B9f (CC CR:Addr):Sp:=fun vs H Q _=>∃c v a b xs ys x,∃t bo n L:Int,vs=[.ref c,.ref x]/\Z8 CC H c v a b xs ys/\A8c CR H x t bo n/\Sz t/\Sz bo/\A1e t bo (n-L)/\∀H',A8 H H' ->Q (.int (B0b (L-v.r+1) (v.l-v.r+1))) H'
theorem D0s:B8 Q29 Q29 (A6 B0x):=scK
theorem C6n{f CC CB CT CW CR CE g1 g2:Addr}{cw:Wy ->Addr}(D:Def K mg "finest_power" Q29 B0x f fd)(C:A9b P w K mg base CC CB CT CW cw)(RM:G6p P w K mg base CR g1 g2 gd1 gd2)(R:C3e K mg CR CE)(O:Own mg):B9 P w K mg base 5 f fd Q29 (B9f CC CR):=by
 refine D.F.ok2 D0s (fun vs H Q E h=>?_) (fun X cdv A outer s H vs Q E hX hr hx h=>?_)
 . obtain⟨c,v,a,b,xs,ys,x,t,bo,n,L,rfl,_⟩:=h
   rfl
 subst hX
 obtain⟨c,v,a,b,xs,ys,x,t,bo,n,L,rfl,hc,ra,ht,hb,hL,k⟩:=h
 obtain⟨fL,fdL,mL,gL,bL⟩:=C.low
 refine⟨_,(A7 (B5 (V7 (A3t hx.hd) (by rfl) O.max_ boot_max (A0 (B7 V1 (B7 Y2 (A2e (pv 1) R.cl RM.m1 RM.g1 hr RM.b1 .nil hx) (J0 (pv 0) rfl)) A2) (A0 (A2e (pv 0) C.c.cl mL gL hr bL .nil hx) A3))))),?_⟩
 obtain⟨dr,er⟩:=id ra
 refine⟨_,rfl,x,dr,_,rfl,er,A7f _ _ _,x,t,bo,n,rfl,ra,ht,hb,fun f H1 s1 ld=>?_⟩
 have ef:f=L:=by
   have:=C4c (show 0<bo by have:=hb.1;omega) ld hL
   omega
 subst ef
 have hc1:=hc.same s1
 obtain⟨⟨dx,e⟩,_,_⟩:=id hc1
 exact⟨_,rfl,c,CC,dx,_,_,rfl,e,C.c.cl,C.c.n_room,A4h _ _ _ _ _ _,_,_,rfl,rfl,_,_,rfl,rfl,_,rfl,c,dx,_,rfl,e,A5x _ _ _ _ _ _,c,v.r,v.y,v.l,v.m,a,b,_,_,rfl,hc1,_,_,rfl,k H1 s1⟩
noncomputable def Cv.fin (v:Cv) (L:Int):Int:=B0b (L-v.r+1) (v.l-v.r+1)
noncomputable def A0z (v:Cv) (s t bo n L i:Int):Nm×List Str:=A5r v s (whI t bo (n-v.fin L)) (ptI t bo (n-v.fin L)) L (v.fin L) i
def A5d (CN CC CT:Addr) (H:Hp) (c:Addr) (v:Cv) (b:Addr) (xs ys:List Str) (res:Nm×List Str) (Q:VK) (E:XK):Prop:=
 (hit ys res.2=none ->∀m a' H',Exc c H H' ->Z8 CC H' c v a' b (Y5 (xs++res.2)) ys ->V3 CN H' m res.1 ->Q (.ref m) H')/\
 (∀z,hit ys res.2=some z ->∀a' d H',Exc c H H' ->Z8 CC H' c v a' b (Y5 (xs++res.2)) ys ->H' d=some (.xd [("signal",.str z)]) ->E (.ref CT) (some d) H')
def A8z (CN CC CT CR:Addr):Sp:=fun vs H Q E=>∃c v a b xs ys x,∃t bo n L s i:Int,vs=[.ref c,.int s,.ref x,.int i]/\Z8 CC H c v a b xs ys/\v.Ok/\xs.length<=900/\A8c CR H x t bo n/\Sz t/\Sz bo/\A1e t bo (n-L)/\ -1500<=n-v.fin L/\n-v.fin L<=1500/\0<=s/\s<=1/\
 A5d CN CC CT H c v b xs ys (A0z v s t bo n L i) Q E
theorem scSettled:B8 ["context","sign","exact","ideal","finest","pair","number","names"] Q38 (A6 A6x):=scK
theorem C7h:∀z∈(Q37:List Str),z∈Y8:=by decide+kernel
theorem D0x{pt:Int}{cut:Bool}{l L:Int}:∀z∈A0u pt cut++A0v l L pt,z∈Y8:=by
 have r:∀z∈A0u pt cut,z∈Y8:=by
   unfold A0u
   split
   . split
     . decide+kernel
     . decide+kernel
   . decide+kernel
 have d:∀z∈A0v l L pt,z∈Y8:=by
   unfold A0v
   split
   . decide+kernel
   . split
     . decide+kernel
     . decide+kernel
 intro z hz
 rcases List.mem_append.mp hz with h|h
 . exact r z h
 exact d z h
theorem C9s{pt:Int}{cut:Bool}{l L:Int}:(A0u pt cut++A0v l L pt).length<=4:=by
 have r:(A0u pt cut).length<=2:=by
   unfold A0u
   split
   . split<;>decide
   . decide
 have d:(A0v l L pt).length<=2:=by
   unfold A0v
   split
   . decide
   . split<;>decide
 rw[List.length_append]
 omega
theorem C2n{f f1 f2 f3 f4 f5 f6 f7 f8 CN CC CB CT CW CR CE g1 g2:Addr}{cw:Wy ->Addr}(D:Def K mg "settled" Q38 A6x f fd)
   (dA:Def K mg "finest_power" Q29 B0x f1 fd1) (dB:B9 P w K mg base 5 f1 fd1 Q29 (B9f CC CR)) (dC:Def K mg "nearest_to" Q22 A7n f2 fd2) (dD:B9 P w K mg base 3 f2 fd2 Q22 (B5h CN))
   (dE:Def K mg "neighbour" Q23 A3y f3 fd3) (dF:B9 P w K mg base 3 f3 fd3 Q23 (A9t CC)) (dG:Def K mg "within_room" Q24 B0r f4 fd4) (dH:B9 P w K mg base 3 f4 fd4 Q24 (B8f CN CC))
   (dJ:Def K mg "is_beyond" Q25 B0g f5 fd5) (dL:B9 P w K mg base 2 f5 fd5 Q25 (B8p CN CC)) (dM:Def K mg "burst" Q10 B6m f6 fd6) (dN:B9 P w K mg base 4 f6 fd6 Q10 (C4j CN CC))
   (dP:Def K mg "signals_of_rest" Q26 A7b f7 fd7) (dQ:B9 P w K mg base 1 f7 fd7 Q26 B5b) (dS:Def K mg "signals_of_lead" Q27 A7h f8 fd8) (dU:B9 P w K mg base 1 f8 fd8 Q27 (B5n CC))
   (C:A9b P w K mg base CC CB CT CW cw) (RM:G6p P w K mg base CR g1 g2 gd1 gd2) (R:C3e K mg CR CE) (N:Num K mg CN):B9 P w K mg base 6 f fd Q38 (A8z CN CC CT CR):=by
 refine D.F.ok2 scSettled (fun vs H Q E h=>?_) (fun X cdv A outer s H vs Q E hX hr hx h=>?_)
 . obtain⟨c,v,a,b,xs,ys,x,t,bo,n,L,sg,i,rfl,_⟩:=h
   rfl
 subst hX
 obtain⟨c,v,a,b,xs,ys,x,t,bo,n,L,sg,i,rfl,hc,ok,lx,ra,ht,hb,hL,q0,q1,s0,s1,k⟩:=h
 obtain⟨fR,fdR,mR,gR,bR⟩:=C.raised
 refine⟨_,(A5 (A9 (D5 (i:=4) scSettled.nd rfl (Or.inl rfl) (G0 dA dB hr hx (A0 (pv 0) (A0 (pv 2) A3))))) (A5 (A9 (D5 (i:=5) scSettled.nd rfl (Or.inl rfl) (A6k (pv 2) R.cl RM.m2 RM.g2 hr RM.b2 .nil hx (A0 (pv 4) A3)))) (A5 (A9 (J1 (C8 G8 (G4 U8 (pv 5) A2 (fun _ _=>rfl)) A2 (C6 _)) (A7 (D5 (i:=6) scSettled.nd rfl (Or.inl rfl) (G0 dC dD hr hx (A0 (pv 3) (A0 (pv 1) (A0 (G4 U8 (pv 5) A2 (fun _ _=>rfl)) (A0 (pv 4) A3))))))) (A7 (D5 (i:=6) scSettled.nd rfl (Or.inl rfl) (G0 dG dH hr hx (A0 (pv 0) (A0 (pv 1) (A0 (G0 dE dF hr hx (A0 (pv 0) (A0 (pv 1) (A0 (pv 5) A3)))) (A0 (pv 4) A3))))))))) (A5 (A9 (J1 (Z7 (G0 dJ dL hr hx (A0 (pv 0) (A0 (pv 6) A3)))) (A5 (Z3 (A6k (pv 0) C.c.cl mR gR hr bR .nil hx (A0 (U0 (A0 C7 (A0 C7 (A0 C7 A3)))) A3))) (A7 (B5 (G0 dM dN hr hx (A0 (pv 0) (A0 (pv 1) A3)))))) D6)) (A5 (A9 (D5 (i:=7) scSettled.nd rfl (Or.inl rfl) (G0 dP dQ hr hx (A0 (G4 U8 (pv 5) A2 (fun _ _=>rfl)) (A0 (G5 A5y (J0 (pv 6) rfl) (pv 3) (C6 _)) A3))))) (A5 (A9 (Z3 (A6k (pv 0) C.c.cl mR gR hr bR .nil hx (A0 (B7 B1u (pv 7) (G0 dS dU hr hx (A0 (pv 0) (A0 (A2e (pv 2) R.cl RM.m1 RM.g1 hr RM.b1 .nil hx) (A0 (G4 U8 (pv 5) A2 (fun _ _=>rfl)) A3))))) A3)))) (A7 (B5 (pv 6))))))))),?_⟩
 have b0:0<bo:=by have:=hb.1;omega
 have wr:=C5s (s2:=n-v.fin L) ht hb hL ok.r1 (by
   unfold Cv.fin B0b
   split<;>omega)
 unfold A0z A5r at k
 refine⟨fun σ' H'=>A8 H H'/\σ'=[sr c,si sg,sr x,si i,si (v.fin L),none,none,none],?_,?_⟩
 . exact⟨_,rfl,_,rfl,c,v,a,b,xs,ys,x,t,bo,n,L,rfl,hc,ra,ht,hb,hL,fun H' s'=>⟨s',rfl⟩⟩
 rintro σ' H1 ⟨t1,rfl⟩
 have hc1:=hc.same t1
 have ra1:=ra.same t1
 generalize v.fin L=q at*
 generalize hwh:whI t bo (n-q)=wh at*
 generalize hpt:ptI t bo (n-q)=pt at*
 refine⟨fun σ' H'=>∃p,A8 H1 H'/\H' p=some (.tup [.int wh,.int pt])/\σ'=[sr c,si sg,sr x,si i,si q,sr p,none,none],?_,?_⟩
 . obtain⟨dr,er⟩:=id ra1
   refine⟨_,rfl,x,dr,_,rfl,er,B4t _ _ _,_,rfl,x,t,bo,n,q,rfl,ra1,ht,hb,q0,q1,fun p H' s' np ep=>⟨p,s',?_,rfl⟩⟩
   rw[hwh,hpt] at ep
   exact ep
 refine L2.hideG fun Z_ z_=>?_
 rintro σ' H2 ⟨p,t2,hp,rfl⟩
 subst z_
 have hc2:=hc1.same t2
 have sm:=B1q (s:=sg) (pt:=pt) (q:=q) (i:=i) ok wr.1 wr.2
 refine⟨fun σ' H'=>∃m,A8 H2 H'/\H2 m=none/\V3 CN H' m ⟨.plain,sg,(A0n v sg wh pt q i).1,(A0n v sg wh pt q i).2⟩/\σ'=[sr c,si sg,sr x,si i,si q,sr p,sr m,none],?_,?_⟩
 . refine⟨_,rfl,p,_,_,_,rfl,rfl,SqT.of hp,D7 (j:=1) rfl,rfl,_,rfl,V0 (fun h=>?_) (fun h=>?_)⟩
   . have h:pt=0:=by injection h
     refine⟨_,rfl,_,rfl,_,rfl,p,_,_,_,rfl,rfl,SqT.of hp,D7 (j:=0) rfl,_,rfl,i,sg,wh,q,rfl,fun m H' nm s' num=>⟨m,s',nm,?_,rfl⟩⟩
     unfold A0n
     rw[if_pos h]
     exact num
   . have h:¬pt=0:=fun z=>h (congrArg V.int z)
     refine⟨_,rfl,_,rfl,_,rfl,_,rfl,_,rfl,c,v,a,b,xs,ys,p,sg,wh,pt,rfl,hc2,hp,fun H3 s3=>?_⟩
     refine⟨_,rfl,c,v,a,b,xs,ys,sg,_,q,rfl,hc2.same s3,ok,fun m H' nm s' num=>⟨m,s3.trans s',s3.free nm,?_,rfl⟩⟩
     unfold A0n
     rw[if_neg h]
     exact num
 refine L2.hideG fun Z_ z_=>?_
 rintro σ' H3 ⟨m,t3,nm,num,rfl⟩
 subst z_
 have hc3:=hc2.same t3
 have tA:=(t1.trans t2).trans t3
 have nmc:m≠c:=fun z=>by
   obtain⟨⟨dx,e⟩,_,_⟩:=hc2
   rw[z,e] at nm
   cases nm
 obtain⟨⟨dx,e3⟩,_,_⟩:=id hc3
 generalize hf:(A0n v sg wh pt q i).1=fg at*
 generalize hg:(A0n v sg wh pt q i).2=pw at*
 refine⟨fun σ' H'=>H'=H3/\A1z v.m fg pw=false/\σ'=[sr c,si sg,sr x,si i,si q,sr p,sr m,none],?_,?_⟩
 . refine⟨_,rfl,_,rfl,c,v,a,b,xs,ys,m,_,rfl,hc3,num,sm,_,rfl,?_⟩
   cases e:A1z v.m fg pw with
   |false=>exact Y3 ⟨rfl,rfl,rfl⟩
   | true=>
     rw[e,if_pos rfl] at k
     refine Z0 ⟨_,rfl,c,dx,_,rfl,e3,A2x _ _ _ _ _ _,C9 (by decide),fun l nl=>?_⟩
     have u:=A8.upd (o:= .lst [.str "burst",.str "off",.str "cut"]) nl
     refine⟨c,v.r,v.y,v.l,v.m,a,b,xs,ys,.ref l,rfl,hc3.same u,by omega,.inl ⟨l,Q37,rfl,A4,by decide,C7h,fun hn a' H4 x4 na ct=>?_,fun z hz a' d H4 x4 na ct nd ed=>?_⟩⟩
     . refine⟨_,rfl,_,rfl,c,v,a',b,_,ys,sg,rfl,ct,ok,s0,s1,fun m' H5 s5 num5=>k.1 hn m' a' H5 (((Exc.of (tA.trans u)).trans x4).trans (.of s5)) (Z8.same ct s5) num5⟩
     . exact k.2 z hz a' d H4 ((Exc.of (tA.trans u)).trans x4) ct ed
 refine L2.hideG fun Z_ z_=>?_
 rintro σ' H4 ⟨rfl,e,rfl⟩
 subst z_
 rw[e,if_neg Bool.false_ne_true] at k
 refine⟨fun σ' H'=>∃l,A8 H4 H'/\H' l=some (.lst ((A0u pt (decide (pw>i))).map V.str))/\σ'=[sr c,si sg,sr x,si i,si q,sr p,sr m,sr l],?_,?_⟩
 . obtain⟨dn,en⟩:=id num
   exact⟨_,rfl,p,_,_,_,rfl,rfl,SqT.of (t3 _ _ hp),D7 (j:=1) rfl,_,rfl,m,CN,dn,_,_,rfl,en,N.cl,N.n4,num4 _ _ _ _,_,rfl,_,_,rfl,rfl,pt,_,rfl,fun l nl=>⟨l,A8.upd nl,A4,rfl⟩⟩
 refine L2.hideG fun Z_ z_=>?_
 rintro σ' H5 ⟨l,t5,hl,rfl⟩
 subst z_
 refine⟨fun σ' H'=>hit ys (A0u pt (decide (pw>i))++A0v v.l L pt)=none/\∃a',Exc c H H'/\Z8 CC H' c v a' b (Y5 (xs++(A0u pt (decide (pw>i))++A0v v.l L pt))) ys/\V3 CN H' m ⟨.plain,sg,fg,pw⟩/\σ'=[sr c,si sg,sr x,si i,si q,sr p,sr m,sr l],?_,?_⟩
 . have ra5:=((ra1.same t2).same t3).same t5
   obtain⟨dr,er⟩:=id ra5
   have hc5:=hc3.same t5
   refine⟨_,rfl,c,dx,_,rfl,t5 _ _ e3,A2x _ _ _ _ _ _,_,rfl,_,rfl,_,rfl,x,dr,_,rfl,er,A7f _ _ _,x,t,bo,n,rfl,ra5,ht,hb,fun f H6 t6 ld=>?_⟩
   have ef:f=L:=by
     have:=C4c b0 ld hL
     omega
   subst ef
   refine⟨_,rfl,p,_,_,_,rfl,rfl,SqT.of ((t5.trans t6) _ _ (t3 _ _ hp)),D7 (j:=1) rfl,c,v,a,b,xs,ys,f,pt,rfl,hc5.same t6,fun l2 nl2=>?_⟩
   have u2:=A8.upd (o:= .lst ((A0v v.l f pt).map V.str)) nl2
   have rl:=C9s (pt:=pt) (cut:=decide (pw>i)) (l:=v.l) (L:=f)
   rw[List.length_append] at rl
   refine⟨l,l2,_,_,rfl,rfl,(t6.trans u2) _ _ hl,A4,C9 (by rw[List.length_map,List.length_map];omega),fun l3 nl3=>?_⟩
   have u3:=A8.upd (o:= .lst ((A0u pt (decide (pw>i))).map V.str++(A0v v.l f pt).map V.str)) nl3
   have tB:=(t6.trans u2).trans u3
   have num7:=(num.same t5).same tB
   obtain⟨dn7,en7⟩:=id num7
   have keep:∀{H':Hp},Exc c _ H' ->V3 CN H' m ⟨.plain,sg,fg,pw⟩:=fun x7=>⟨dn7,x7 _ _ en7 nmc⟩
   refine⟨c,v.r,v.y,v.l,v.m,a,b,xs,ys,.ref l3,rfl,(hc5.same tB),by omega,.inl ⟨l3,A0u pt (decide (pw>i))++A0v v.l f pt,rfl,by rw[A4,List.map_append],by rw[List.length_append];omega,D0x,fun hn a' H8 x8 na ct=>?_,fun z hz a' d H8 x8 na ct nd ed=>?_⟩⟩
   . exact⟨hn,a',(Exc.of (tA.trans (t5.trans tB))).trans x8,ct,keep x8,rfl⟩
   . exact k.2 z hz a' d H8 ((Exc.of (tA.trans (t5.trans tB))).trans x8) ct ed
 refine L2.hideG fun Z_ z_=>?_
 rintro σ' H6 ⟨hn,a',x6,ct,num6,rfl⟩
 subst z_
 exact⟨_,rfl,k.1 hn m a' H6 x6 ct num6⟩
theorem C9u{v:Cv}{L n:Int}(ok:v.Ok)(h1: -1000<=n-L)(h2:n-L<=1000)(n1: -400<=n)(n2:n<=400): -1500<=n-v.fin L/\n-v.fin L<=1500:=by
 have:=ok.r1;have:=ok.r2;have:=ok.l1;have:=ok.l2
 unfold Cv.fin B0b
 split<;>omega
theorem C1e{t b s:Int}(ht:Sz t)(hb:Sz b)(h:A1e t b s): -1000<=s/\s<=1000:=by
 have e:=Y4 1000
 refine⟨?_,?_⟩
 . apply Classical.byContradiction
   intro hs
   have z:B0 s=1:=by unfold B0;rw[show s.toNat=0 by omega];rfl
   have g:B0 1000<=B0 (-s):=A2c (by omega)
   have a:=h.1
   rw[z,Int.mul_one] at a
   have:1*B0 (-s)<=b*B0 (-s):=Int.mul_le_mul_of_nonneg_right hb.1 (Int.le_of_lt (Y4 _))
   have:=ht.2
   omega
 apply Classical.byContradiction
 intro hs
 have z:B0 (-s)=1:=by unfold B0;rw[show(-s).toNat=0 by omega];rfl
 have g:B0 1001<=B0 s:=A2c (by omega)
 have e1:B0 1001=10*B0 1000:=by
   unfold B0
   rw[show(1001:Int).toNat=(1000:Int).toNat+1 by decide,Nat.pow_succ,Nat.mul_comm]
   rfl
 have a:=h.2
 rw[z,Int.mul_one] at a
 have:1*B0 s<=t*B0 s:=Int.mul_le_mul_of_nonneg_right ht.1 (Int.le_of_lt (Y4 _))
 have:=hb.2
 omega
theorem C1z:Sz 1:=⟨by decide,by
 have:B0 1<=B0 1000:=A2c (by decide)
 have e:B0 1=10:=rfl
 omega⟩
noncomputable def A4e:Nm:=⟨.none,0,0,0⟩
noncomputable def C5g (v:Cv) (s i:Int):Nm:=⟨.plain,s,0,D0e (B0b i (v.l-v.r+1)) v.m⟩
theorem A5d.same{CN CC CT:Addr}{H H1:Hp}{c:Addr}{v:Cv}{b:Addr}{xs ys:List Str}{res:Nm×List Str}{Q:VK}{E:XK}(k:A5d CN CC CT H c v b xs ys res Q E)(s:A8 H H1):A5d CN CC CT H1 c v b xs ys res Q E:=
 ⟨fun hn m a' H' x=>k.1 hn m a' H' ((Exc.of s).trans x),fun z hz a' d H' x=>k.2 z hz a' d H' ((Exc.of s).trans x)⟩
theorem G2e(tr:List Str):hit tr []=none:=by
 unfold hit
 rw[List.find?_eq_none]
 simp
theorem A5d.calm{CN CC CT:Addr}{H H1:Hp}{c n a:Addr}{v:Cv}{b:Addr}{xs ys:List Str}{x:Nm}{Q:VK}{E:XK}(k:A5d CN CC CT H c v b xs ys (x,[]) Q E)(ox:Y5 xs=xs)(s:A8 H H1)(hc:Z8 CC H c v a b xs ys)(hn:V3 CN H1 n x):Q (.ref n) H1:=
 k.1 (G2e _) n a H1 (Exc.of s) (by show Z8 CC H1 c v a b (Y5 (xs++ [])) ys;rw[List.append_nil,ox];exact hc.same s) hn
deriving instance DecidableEq for Kd
noncomputable abbrev B8r:Stmt:=(top 42)
def Two (CN:Addr) (H:Hp) (n1 n2:Addr) (x1 x2:Nm):Prop:=V3 CN H n1 x1/\V3 CN H n2 x2
theorem Two.same{CN:Addr}{H H':Hp}{n1 n2:Addr}{x1 x2:Nm}(h:Two CN H n1 n2 x1 x2)(e:A8 H H'):Two CN H' n1 n2 x1 x2:=⟨h.1.same e,h.2.same e⟩
theorem B1g{CN:Addr}{H:Hp}{l n1 n2:Addr}{x1 x2:Nm}(h:Two CN H n1 n2 x1 x2)(hl:H l=some (.lst [.ref n1,.ref n2])):C3f CN H l [(n1,x1),(n2,x2)]:=⟨hl,List.forall_mem_cons.2 ⟨h.1,List.forall_mem_cons.2 ⟨h.2,by simp⟩⟩⟩
theorem B7k{n1 n2:Addr}{x1 x2:Nm}:([(n1,x1),(n2,x2)].any fun p=>decide (p.2.k.str=("end":Str)))=decide (x1.k= .end_\/x2.k= .end_):=by
 have q:∀k:Kd,decide (k.str=("end":Str))=decide (k= .end_):=fun k=>by cases k<;>decide+kernel
 simp[q]
theorem kd_str{a b:Kd}:V.str a.str=V.str b.str↔a=b:=⟨fun h=>by cases a<;>cases b<;>first|rfl|(exfalso;revert h;decide+kernel),fun h=>by rw[h]⟩
def C0v (CN CC CT:Addr):Sp:=fun vs H Q E=>∃c v a b xs ys,vs=[.ref c]/\Z8 CC H c v a b xs ys/\xs.length<=900/\A5d CN CC CT H c v b xs ys (A4e,["void"]) Q E
theorem G3u:B8 ["context"] ["context"] (A6 B8r):=scK
theorem G0a{f f1 CN CC CB CT CW:Addr}{cw:Wy ->Addr}(D:Def K mg "void" ["context"] B8r f fd)(dA:Def K mg "nothing" [] A3b f1 fd1)(dB:B9 P w K mg base 3 f1 fd1 [] (A5j CN))(C:A9b P w K mg base CC CB CT CW cw):B9 P w K mg base 4 f fd ["context"] (C0v CN CC CT):=by
 refine D.F.ok2 G3u (fun vs H Q E h=>?_) (fun X cdv A outer s H vs Q E hX hr hx h=>?_)
 . obtain⟨c,v,a,b,xs,ys,rfl,_⟩:=h
   rfl
 subst hX
 obtain⟨c,v,a,b,xs,ys,rfl,hc,lx,k⟩:=h
 obtain⟨fR,fdR,mR,gR,bR⟩:=C.raised
 refine⟨_,(A5 (Z3 (A6k (pv 0) C.c.cl mR gR hr bR .nil hx (A0 (U0 (A0 C7 A3)) A3))) (A7 (B5 (C5e dA dB hr hx)))),?_⟩
 have z1:1<=sizeLine:=C9 (by decide)
 obtain⟨dx,e⟩:=hc.ins
 refine⟨_,rfl,c,dx,_,rfl,e,A2x _ _ _ _ _ _,z1,fun p np=>?_⟩
 have u:=A8.upd (o:= .lst [.str "void"]) np
 refine⟨c,v.r,v.y,v.l,v.m,a,b,xs,ys,_,rfl,hc.same u,by omega,.inl ⟨p,["void"],rfl,A4,by decide,by decide+kernel,fun hn a' H' x na ct=>?_,fun t ht a' d H' x na ct nd ed=>?_⟩⟩
 . exact⟨rfl,fun n H2 nn s2 num=>k.1 hn n a' H2 ((Exc.of u).trans (x.trans (Exc.of s2))) (A0k.same ct s2) num⟩
 exact k.2 t ht a' d H' ((Exc.of u).trans x) ct ed
noncomputable abbrev B5z:Stmt:=(top 48)
noncomputable abbrev A5q:Stmt:=(top 49)
noncomputable abbrev B7j:Stmt:=(top 50)
noncomputable def V8 (x y:Nm):Int:=if y.p<x.p then y.p else x.p
noncomputable def Z1 (x y:Nm):Int:=x.wh (V8 x y)+y.wh (V8 x y)
noncomputable def A3x (t:Int):Int:=if t<0 then -t else t
noncomputable def A7a (t:Int):Int:=if t<0 then 1 else 0
noncomputable def G9e:Wy ->Int
 | .floor=>1
 |_=>0
noncomputable def A4q (y:Wy) (a b:Int):Int:=if a=b then a else G9e y
theorem C4f(x y:Nm):V8 x y<=x.p/\V8 x y<=y.p/\(V8 x y=x.p\/V8 x y=y.p):=by
 unfold V8
 split<;>omega
theorem J0q{x:Nm}{q:Int}(h:x.Bg)(e:x.p-q<=800): -(B0 920)<=x.wh q/\x.wh q<=B0 920:=by
 have tp:=Y4 (x.p-q)
 have a:x.f*B0 (x.p-q)<=B0 120*B0 800:=Int.mul_le_mul (Int.le_of_lt h.f1) (A2c (by omega)) (Int.le_of_lt tp) (Int.le_of_lt (Y4 _))
 have b:B0 120*B0 800=B0 920:=by decide+kernel
 have c:0<=x.f*B0 (x.p-q):=Int.mul_nonneg h.f0 (Int.le_of_lt tp)
 unfold Nm.wh
 split<;>omega
theorem G5t{t:Int}(h:t≠0)(a: -(2*B0 920)<=t)(b:t<=2*B0 920):Sz (A3x t):=by
 have c:2*B0 920<B0 1000:=by decide+kernel
 unfold A3x
 constructor<;>split<;>omega
theorem C1m{x y:Nm}(hx:x.Bg)(hy:y.Bg)(h:Z1 x y≠0):Sz (A3x (Z1 x y)):=by
 obtain⟨m1,m2,m3⟩:=C4f x y
 have:=hx.p0;have:=hx.p1;have:=hy.p0;have:=hy.p1
 have a:=J0q (q:=V8 x y) hx (by omega)
 have b:=J0q (q:=V8 x y) hy (by omega)
 refine G5t h ?_ ?_<;>unfold Z1<;>omega
def C4p (CN CC:Addr):Sp:=fun vs H Q _=>∃c v a b xs ys n1 n2 x1 x2,vs=[.ref c,.ref n1,.ref n2]/\Z8 CC H c v a b xs ys/\Two CN H n1 n2 x1 x2/\∀H',A8 H H' ->Q (.int (A4q v.y x1.s x2.s)) H'
theorem G1a:B8 Q5 Q5 (A6 B7j):=scK
theorem C9f{f CN CC CB CT CW:Addr}{cw:Wy ->Addr}(D:Def K mg "sign_of_no_sum" Q5 B7j f fd)(C:A9b P w K mg base CC CB CT CW cw)(WN:∀y:Wy,G4y P w K mg base (cw y) y.name)(N:Num K mg CN):B9 P w K mg base 3 f fd Q5 (C4p CN CC):=by
 refine D.F.ok2 G1a (fun vs H Q E h=>?_) (fun X cdv A outer s H vs Q E hX hr hx h=>?_)
 . obtain⟨c,v,a,b,xs,ys,n1,n2,x1,x2,rfl,_⟩:=h
   rfl
 subst hX
 obtain⟨c,v,a,b,xs,ys,n1,n2,x1,x2,rfl,hc,⟨⟨d1,e1⟩,⟨d2,e2⟩⟩,k⟩:=h
 obtain⟨fW,fdW,mW,gW,bW⟩:=C.way
 obtain⟨fU,fdU,mU,gU,bU⟩:=WN v.y
 refine⟨_,(A5 (J1 (C8 G8 (J0 (pv 1) rfl) (J0 (pv 2) rfl) (C6 _)) (A7 (B5 (J0 (pv 1) rfl))) D6) (A7 (B5 (A0p (C8 G8 (A2e (A2e (pv 0) C.c.cl mW gW hr bW .nil hx) (C.wc v.y).cl mU gU hr bU .nil hx) C7 (C6 _)) A2 A2)))),?_⟩
 obtain⟨dx,e⟩:=hc.ins
 refine⟨_,rfl,n1,CN,d1,_,_,rfl,e1,N.cl,N.n2,num2 _ _ _ _,_,rfl,n2,CN,d2,_,_,rfl,e2,N.cl,N.n2,num2 _ _ _ _,rfl,_,rfl,V0 (fun h=>?_) (fun h=>?_)⟩
 . have k:=k H (A8.refl _)
   unfold A4q at k
   rw[if_pos (V.int.inj h)] at k
   exact⟨_,rfl,n1,CN,d1,_,_,rfl,e1,N.cl,N.n2,num2 _ _ _ _,k⟩
 refine⟨_,rfl,c,dx,_,rfl,e,A6p _ _ _ _ _ _,c,v.r,v.y,v.l,v.m,a,b,_,_,rfl,hc,fun q dq H1 nq s1 eq=>?_⟩
 have k:=k H1 s1
 have e:A4q v.y x1.s x2.s=(if V.str v.y.name=V.str "floor" then 1 else 0):=by
   unfold A4q
   rw[if_neg fun z=>h (congrArg V.int z)]
   cases v.y<;>decide+kernel
 rw[e] at k
 refine⟨q,dq,_,rfl,eq,rfl,q,rfl,rfl,_,rfl,V0 (fun h=>?_) (fun h=>?_)⟩
 . rw[if_pos h] at k
   exact k
 rw[if_neg h] at k
 exact k
theorem G2s(t:Int):0<=A7a t/\A7a t<=1:=by unfold A7a;split<;>decide
noncomputable def B7r (x y:Nm):Nm×List Str:=if x.k=y.k/\¬x.s=y.s then(A4e,["void"]) else(if x.k= .end_ then x else y,[])
noncomputable def B6u (v:Cv) (x y:Nm) (L:Int):Nm×List Str:=if x.k= .end_\/y.k= .end_ then B7r x y else if Z1 x y=0 then(C5g v (A4q v.y x.s y.s) (V8 x y),[]) else A0z v (A7a (Z1 x y)) (A3x (Z1 x y)) 1 (V8 x y) L (V8 x y)
def A9k (x y:Nm) (L:Int):Prop:=x.k= .plain ->y.k= .plain ->Z1 x y≠0 ->A1e (A3x (Z1 x y)) 1 (V8 x y-L)
noncomputable def A4d (v:Cv) (x y:Nm) (L:Int):Nm×List Str:=if x.k= .none\/y.k= .none then(A4e,[]) else B6u v x y L
theorem C3x{x:Nm}(h1:x.k≠ .none)(h2:x.k≠ .end_):x.k= .plain:=by
 cases h:x.k with
 |plain=>rfl
 |end_=>exact absurd h h2
 |none=>exact absurd h h1
def B1j (CN CC CT:Addr):Sp:=fun vs H Q E=>∃c v a b xs ys n1 n2 x1 x2,vs=[.ref c,.ref n1,.ref n2]/\Z8 CC H c v a b xs ys/\xs.length<=900/\Y5 xs=xs/\Two CN H n1 n2 x1 x2/\A5d CN CC CT H c v b xs ys (B7r x1 x2) Q E
theorem C1r:B8 Q5 Q5 (A6 A5q):=scK
theorem B8c{f f1 CN CC CT:Addr}(D:Def K mg "end_added" Q5 A5q f fd)(dA:Def K mg "void" ["context"] B8r f1 fd1)(dB:B9 P w K mg base 4 f1 fd1 ["context"] (C0v CN CC CT))(N:Num K mg CN):B9 P w K mg base 5 f fd Q5 (B1j CN CC CT):=by
 refine D.F.ok2 C1r (fun vs H Q E h=>?_) (fun X cdv A outer s H vs Q E hX hr hx h=>?_)
 . obtain⟨c,v,a,b,xs,ys,n1,n2,x1,x2,rfl,_⟩:=h
   rfl
 subst hX
 obtain⟨c,v,a,b,xs,ys,n1,n2,x1,x2,rfl,hc,lx,ox,tw,k⟩:=h
 obtain⟨⟨d1,e1⟩,⟨d2,e2⟩⟩:=id tw
 refine⟨_,(A5 (J1 (PW.pt (A2q (C8 G8 (J0 (pv 1) rfl) (J0 (pv 2) rfl) (C6 _)) (A1q (C8 B1c (J0 (pv 1) rfl) (J0 (pv 2) rfl) (C6 _))))) (A7 (B5 (G0 dA dB hr hx (A0 (pv 0) A3)))) D6) (A7 (B5 (A0p (C8 G8 (J0 (pv 1) rfl) C7 (C6 _)) (pv 1) (pv 2))))),?_⟩
 unfold B7r at k
 have rest:(¬(x1.k=x2.k/\¬x1.s=x2.s)) ->(if decide (V.str x1.k.str=V.str ("end":Str))=true then Q (.ref n1) H else Q (.ref n2) H):=fun hn=>by
   rw[if_neg hn] at k
   refine V0 (fun h=>?_) (fun h=>?_)
   . rw[if_pos (eqS (b:= .end_) h)] at k
     exact k.calm ox (A8.refl _) hc tw.1
   . rw[if_neg (neS (b:= .end_) h)] at k
     exact k.calm ox (A8.refl _) hc tw.2
 refine⟨_,rfl,n1,CN,d1,_,_,rfl,e1,N.cl,N.n1,num1 _ _ _ _,_,rfl,n2,CN,d2,_,_,rfl,e2,N.cl,N.n1,num1 _ _ _ _,rfl,_,rfl,V0 (fun h1=>?_) (fun h1=>?_)⟩
 . refine⟨_,rfl,n1,CN,d1,_,_,rfl,e1,N.cl,N.n2,num2 _ _ _ _,_,rfl,n2,CN,d2,_,_,rfl,e2,N.cl,N.n2,num2 _ _ _ _,rfl,_,rfl,?_⟩
   by_cases h2:x1.s=x2.s
   . refine B2t (congrArg V.int h2) ?_
     have r:=rest fun z=>z.2 h2
     refine⟨_,rfl,n1,CN,d1,_,_,rfl,e1,N.cl,N.n1,num1 _ _ _ _,rfl,_,rfl,V0 (fun h=>?_) (fun h=>?_)⟩
     . rw[decide_eq_true h] at r
       exact⟨_,rfl,r⟩
     . rw[decide_eq_false h] at r
       exact⟨_,rfl,r⟩
   . rw[if_pos ⟨kd_str.mp h1,h2⟩] at k
     rw[decide_eq_false (fun z=>h2 (V.int.inj z):¬V.int x1.s=V.int x2.s)]
     exact Z0 ⟨_,rfl,c,v,a,b,xs,ys,rfl,hc,lx,k⟩
 have r:=rest fun z=>h1 (kd_str.mpr z.1)
 refine⟨_,rfl,n1,CN,d1,_,_,rfl,e1,N.cl,N.n1,num1 _ _ _ _,rfl,_,rfl,V0 (fun h=>?_) (fun h=>?_)⟩
 . rw[decide_eq_true h] at r
   exact⟨_,rfl,r⟩
 rw[decide_eq_false h] at r
 exact⟨_,rfl,r⟩
def C5b (CN CC CT:Addr):Sp:=fun vs H Q E=>∃c v a b xs ys n1 n2 x1 x2 L,vs=[.ref c,.ref n1,.ref n2]/\Z8 CC H c v a b xs ys/\v.Ok/\xs.length<=900/\Y5 xs=xs/\Two CN H n1 n2 x1 x2/\x1.k≠ .none/\x2.k≠ .none/\x1.Bg/\x2.Bg/\A9k x1 x2 L/\A5d CN CC CT H c v b xs ys (B6u v x1 x2 L) Q E
theorem scAdded:B8 ["context","one","other","low","total"] Q5 (A6 B5z):=scK
theorem D0w{f f1 f2 f3 f4 f5 f6 fR CN CC CB CT CW CR CE:Addr}{cw:Wy ->Addr}{fd fd1 fd2 fd3 fd4 fd5 fd6 fdR:FuncData}{d0:Value}{gP:List Value ->List Value ->List Value}{vP:List V ->List V ->List V}(D:Def K mg "added" Q5 B5z f fd)(dC:Def K mg "some_of_kind" Q9 A6c f1 fd1)(dD:B9 P w K mg base 1 f1 fd1 Q9 (A7k CN))
   (dE:Def K mg "end_added" Q5 A5q f2 fd2) (dF:B9 P w K mg base 5 f2 fd2 Q5 (B1j CN CC CT)) (dA:Def K mg "whole_at" Q35 A7m f3 fd3) (dB:B9 P w K mg base 3 f3 fd3 Q35 (B5t CN)) (dG:Def K mg "nought" Q28 B0k f4 fd4) (dH:B9 P w K mg base 3 f4 fd4 Q28 (B9s CN CC))
   (dJ:Def K mg "sign_of_no_sum" Q5 B7j f5 fd5) (dL:B9 P w K mg base 3 f5 fd5 Q5 (C4p CN CC)) (dM:Def K mg "settled" Q38 A6x f6 fd6) (dN:B9 P w K mg base 6 f6 fd6 Q38 (A8z CN CC CT CR))
   (C:A9b P w K mg base CC CB CT CW cw) (N:Num K mg CN) (MR:G3e P w K mg base CR fR fdR d0 gP vP) (R:C3e K mg CR CE) (O:Own mg):B9 P w K mg base 7 f fd Q5 (C5b CN CC CT):=by
 refine D.F.ok2 scAdded (fun vs H Q E h=>?_) (fun X cdv A outer s H vs Q E hX hr hx h=>?_)
 . obtain⟨c,v,a,b,xs,ys,n1,n2,x1,x2,L,rfl,_⟩:=h
   rfl
 subst hX
 obtain⟨c,v,a,b,xs,ys,n1,n2,x1,x2,L,rfl,hc,ok,lx,ox,tw,h1,h2,g1,g2,hL,k⟩:=h
 refine⟨_,(A5 (J1 (Z7 (G0 dC dD hr hx (A0 (U0 (A0 (pv 1) (A0 (pv 2) A3))) (A0 C7 A3)))) (A7 (B5 (G0 dE dF hr hx (A0 (pv 0) (A0 (pv 1) (A0 (pv 2) A3)))))) D6) (A5 (D5 (i:=3) scAdded.nd rfl (Or.inl rfl) (V7 (B3d hx.hd) (by rfl) O.min_ boot_min (A0 (J0 (pv 1) rfl) (A0 (J0 (pv 2) rfl) A3)))) (A5 (D5 (i:=4) scAdded.nd rfl (Or.inl rfl) (B7 V1 (G0 dA dB hr hx (A0 (pv 1) (A0 (pv 3) A3))) (G0 dA dB hr hx (A0 (pv 2) (A0 (pv 3) A3))))) (A5 (J1 (C8 G8 (pv 4) A2 (C6 _)) (A7 (B5 (G0 dG dH hr hx (A0 (pv 0) (A0 (G0 dJ dL hr hx (A0 (pv 0) (A0 (pv 1) (A0 (pv 2) A3)))) (A0 (pv 3) A3)))))) D6) (A7 (B5 (G0 dM dN hr hx (A0 (pv 0) (A0 (A0p (C8 A2t (pv 4) A2 (C6 _)) A2 A2) (A0 (A2w MR.m MR.g hr R.g MR.b3 .nil hx (A0 (V7 B9n (by rfl) O.abs_ boot_abs (A0 (pv 4) A3)) (A0 A2 (A0 (pv 3) A3)))) (A0 (pv 3) A3))))))))))),?_⟩
 have z2:2<=sizeLine:=C9 (by decide)
 refine⟨_,rfl,_,rfl,z2,fun l nl=>?_⟩
 have u:=A8.upd (o:= .lst [.ref n1,.ref n2]) nl
 refine⟨l,_,_,rfl,B1g (tw.same u) A4,(by show 2<=1000;decide),fun H3 s3=>⟨_,rfl,?_⟩⟩
 have sm3:=u.trans s3
 have tw3:=tw.same sm3
 have hc3:=hc.same sm3
 rw[B7k]
 unfold B6u at k
 refine V0 (fun he=>?_) (fun he=>?_)
 . rw[if_pos he] at k
   exact⟨_,rfl,_,rfl,_,rfl,c,v,a,b,xs,ys,n1,n2,x1,x2,rfl,hc3,lx,ox,tw3,k.same sm3⟩
 rw[if_neg he] at k
 have k1:x1.k= .plain:=C3x h1 fun z=>he (.inl z)
 have k2:x2.k= .plain:=C3x h2 fun z=>he (.inr z)
 obtain⟨⟨d1,e1⟩,⟨d2,e2⟩⟩:=id tw3
 obtain⟨m1,m2,m3⟩:=C4f x1 x2
 have:=g1.p0;have:=g1.p1;have:=g2.p0;have:=g2.p1
 refine⟨_,rfl,n1,CN,d1,_,_,rfl,e1,N.cl,N.n4,num4 _ _ _ _,_,rfl,n2,CN,d2,_,_,rfl,e2,N.cl,N.n4,num4 _ _ _ _,_,_,rfl,?_⟩
 show G0h _ _ _ [sr c,sr n1,sr n2,si (V8 x1 x2),none] H3
 refine⟨_,rfl,_,rfl,n1,x1,V8 x1 x2,rfl,tw3.1,g1,by omega,by omega,_,rfl,_,rfl,n2,x2,V8 x1 x2,rfl,tw3.2,g2,by omega,by omega,_,_,rfl,rfl,?_⟩
 show G0h _ _ _ [sr c,sr n1,sr n2,si (V8 x1 x2),si (Z1 x1 x2)] H3
 refine⟨_,rfl,rfl,_,rfl,V0 (fun hf=>?_) (fun hf=>?_)⟩
 . have hf:Z1 x1 x2=0:=V.int.inj hf
   rw[if_pos hf] at k
   refine⟨_,rfl,_,rfl,_,rfl,_,rfl,c,v,a,b,xs,ys,n1,n2,x1,x2,rfl,hc3,tw3,fun H4 s4=>?_⟩
   have sm4:=sm3.trans s4
   exact⟨_,rfl,c,v,a,b,xs,ys,A4q v.y x1.s x2.s,V8 x1 x2,rfl,hc.same sm4,fun n H' nn s' num=>k.calm ox (sm4.trans s') hc num⟩
 have hf:¬Z1 x1 x2=0:=fun z=>hf (congrArg V.int z)
 rw[if_neg hf] at k
 have sz:=C1m g1 g2 hf
 have ld:=hL k1 k2 hf
 have ls:=C1e sz C1z ld
 have fn:=C9u (n:=V8 x1 x2) ok ls.1 ls.2 (by omega) (by omega)
 have nb:=G2s (Z1 x1 x2)
 have fin:∀sg:Int,sg=A7a (Z1 x1 x2) ->∀q H4,A8 H3 H4 ->A8c CR H4 q (A3x (Z1 x1 x2)) 1 (V8 x1 x2) ->A8z CN CC CT CR [.ref c,.int sg,.ref q,.int (V8 x1 x2)] H4 Q E:=fun sg e q H4 s4 ra=>by
   subst e
   have sm4:=sm3.trans s4
   exact⟨c,v,a,b,xs,ys,q,_,1,_,_,_,_,rfl,hc.same sm4,ok,lx,ra,sz,C1z,ld,fn.1,fn.2,nb.1,nb.2,k.same sm4⟩
 refine⟨_,rfl,_,rfl,_,_,rfl,rfl,_,rfl,V0 (fun h=>?_) (fun h=>?_)⟩
 . have e:(1:Int)=A7a (Z1 x1 x2):=by unfold A7a;rw[if_pos h]
   exact⟨_,rfl,_,rfl,_,rfl,fun q dq m1 m2 me=>G3c m1 m2 me fun H4 s4 ra=>⟨rfl,_,rfl,fin 1 e q H4 s4 ra⟩⟩
 have e:(0:Int)=A7a (Z1 x1 x2):=by unfold A7a;rw[if_neg h]
 exact⟨_,rfl,_,rfl,_,rfl,fun q dq m1 m2 me=>G3c m1 m2 me fun H4 s4 ra=>⟨rfl,_,rfl,fin 0 e q H4 s4 ra⟩⟩
noncomputable abbrev B0e:Stmt:=(top 26)
noncomputable abbrev A5u:Stmt:=(top 45)
noncomputable abbrev B0s:Stmt:=(top 46)
noncomputable abbrev A6w:Stmt:=(top 47)
noncomputable def A9a (a b:Int):Int:=if a=b then 0 else 1
theorem D1e(a b:Int):0<=A9a a b/\A9a a b<=1:=by unfold A9a;split<;>decide
noncomputable def D3r (x1 x2:Nm):Nm:=⟨.plain,A9a x1.s x2.s,x1.f*x2.f,x1.p+x2.p⟩
noncomputable def Z5 (x y:Nm):Nm:=if x.k= .end_\/y.k= .end_ then⟨.end_,A9a x.s y.s,0,0⟩ else D3r x y
noncomputable def C2j (x:Nm):Bool:=decide (x.k= .plain)&&decide (x.f=0)
noncomputable def EbN (x y:Nm):Bool:=decide (x.k= .end_\/y.k= .end_)&&(C2j x||C2j y)
theorem G1k{x y:Nm}(hx:x.Ok)(hy:y.Ok):(D3r x y).Bg:=by
 have:=hx.p0;have:=hx.p1;have:=hy.p0;have:=hy.p1
 refine⟨Int.mul_nonneg hx.f0 hy.f0,?_,by show -400<=x.p+y.p;omega,by show x.p+y.p<=400;omega⟩
 have a:x.f*y.f<=(10^60-1)*(10^60-1):=Int.mul_le_mul hx.f1 hy.f1 hy.f0 (by decide+kernel)
 exact Int.lt_of_le_of_lt a (by decide+kernel)
theorem A6y{x y:Nm}(hx:x.Ok)(hy:y.Ok):(Z5 x y).Bg:=by
 unfold Z5
 split
 . exact⟨by show(0:Int)<=0;decide,by show(0:Int)<B0 120;decide+kernel,by show(-400:Int)<=0;decide,by show(0:Int)<=400;decide⟩
 exact G1k hx hy
theorem G2d(x y:Nm):(Z5 x y).s=A9a x.s y.s:=by
 unfold Z5
 split<;>rfl
theorem C5v(x y:Nm):(Z5 x y).k≠ .none:=by
 unfold Z5
 split
 . exact fun z=>by cases z
 exact fun z=>by cases z
theorem D0b{x y:Nm}(hx:x.Ok)(hy:y.Ok):IntMulOk x.f y.f:=IntMulOk.of_bits hx.bits hy.bits
def B9r (CN:Addr):Sp:=fun vs H Q _=>∃n1 n2 x1 x2,vs=[.ref n1,.ref n2]/\Two CN H n1 n2 x1 x2/\Q (.int (A9a x1.s x2.s)) H
theorem D0a:B8 Q7 Q7 (A6 B0e):=scK
theorem C6w{f CN:Addr}(D:Def K mg "unlike_sign" Q7 B0e f fd)(N:Num K mg CN):B9 P w K mg base 1 f fd Q7 (B9r CN):=by
 refine D.F.ok2 D0a (fun vs H Q E h=>?_) (fun X cdv A outer s H vs Q E hX hr hx h=>?_)
 . obtain⟨n1,n2,x1,x2,rfl,_⟩:=h
   rfl
 subst hX
 obtain⟨n1,n2,x1,x2,rfl,⟨⟨d1,e1⟩,⟨d2,e2⟩⟩,k⟩:=h
 refine⟨_,(A7 (B5 (A0p (C8 B1c (J0 (pv 0) rfl) (J0 (pv 1) rfl) (C6 _)) A2 A2))),?_⟩
 refine⟨_,rfl,n1,CN,d1,_,_,rfl,e1,N.cl,N.n2,num2 _ _ _ _,_,rfl,n2,CN,d2,_,_,rfl,e2,N.cl,N.n2,num2 _ _ _ _,rfl,_,rfl,?_⟩
 unfold A9a at k
 by_cases h:x1.s=x2.s
 . rw[if_pos h] at k
   exact B2t (congrArg V.int h) k
 rw[if_neg h] at k
 rw[decide_eq_false (fun z=>h (by injection z):¬V.int x1.s=V.int x2.s)]
 exact Z0 k
def B2m (CN:Addr):Sp:=fun vs H Q _=>∃n x,vs=[.ref n]/\V3 CN H n x/\Q (.bl (C2j x)) H
theorem C1w:B8 ["number"] ["number"] (A6 A5u):=scK
theorem B8u{f CN:Addr}(D:Def K mg "is_nought" ["number"] A5u f fd)(N:Num K mg CN):B9 P w K mg base 1 f fd ["number"] (B2m CN):=by
 refine D.F.ok2 C1w (fun vs H Q E h=>?_) (fun X cdv A outer s H vs Q E hX hr hx h=>?_)
 . obtain⟨n,x,rfl,_⟩:=h
   rfl
 subst hX
 obtain⟨n,x,rfl,⟨d,e⟩,k⟩:=h
 refine⟨_,(A7 (B5 (A0e (G5 G8 (J0 (pv 0) rfl) C7 (C6 _)) (Z6 (G5 G8 (J0 (pv 0) rfl) A2 (C6 _)))))),?_⟩
 unfold C2j at k
 refine⟨_,rfl,n,CN,d,_,_,rfl,e,N.cl,N.n1,num1 _ _ _ _,rfl,_,rfl,V0 (fun h=>?_) (fun h=>?_)⟩
 . rw[decide_eq_true (eqS (b:= .plain) h),Bool.true_and] at k
   refine⟨_,rfl,n,CN,d,_,_,rfl,e,N.cl,N.n3,B3z _ _ _ _,rfl,?_⟩
   have:decide (V.int x.f=V.int 0)=decide (x.f=0):=decide_eq_decide.mpr ⟨fun z=>V.int.inj z,fun z=>congrArg V.int z⟩
   rw[<-this] at k
   exact k
 rw[decide_eq_false (neS (b:= .plain) h),Bool.false_and] at k
 have:decide (V.str x.k.str=V.str ("plain":Str))=false:=decide_eq_false h
 first|exact k|(rw[this];exact k)
def C0g (CN:Addr):Sp:=fun vs H Q _=>∃n1 n2 x1 x2,vs=[.ref n1,.ref n2]/\Two CN H n1 n2 x1 x2/\∀H',A8 H H' ->Q (.bl (EbN x1 x2)) H'
theorem C9d:B8 Q7 Q7 (A6 B0s):=scK
theorem C8a{f f1 f2 CN:Addr}(D:Def K mg "is_end_by_nought" Q7 B0s f fd)(dC:Def K mg "some_of_kind" Q9 A6c f1 fd1)(dD:B9 P w K mg base 1 f1 fd1 Q9 (A7k CN))(dA:Def K mg "is_nought" ["number"] A5u f2 fd2)(dB:B9 P w K mg base 1 f2 fd2 ["number"] (B2m CN)):B9 P w K mg base 2 f fd Q7 (C0g CN):=by
 refine D.F.ok2 C9d (fun vs H Q E h=>?_) (fun X cdv A outer s H vs Q E hX hr hx h=>?_)
 . obtain⟨n1,n2,x1,x2,rfl,_⟩:=h
   rfl
 subst hX
 obtain⟨n1,n2,x1,x2,rfl,tw,k⟩:=h
 refine⟨_,(A7 (B5 (A0e (G0 dC dD hr hx (A0 (U0 (A0 (pv 0) (A0 (pv 1) A3))) (A0 C7 A3))) (Z6 (B1h (G0 dA dB hr hx (A0 (pv 0) A3)) (Z6 (G0 dA dB hr hx (A0 (pv 1) A3)))))))),?_⟩
 have z2:2<=sizeLine:=C9 (by decide)
 refine⟨_,rfl,_,rfl,z2,fun l nl=>?_⟩
 have u:=A8.upd (o:= .lst [.ref n1,.ref n2]) nl
 refine⟨l,_,_,rfl,B1g (tw.same u) A4,(by show 2<=1000;decide),fun H' s'=>⟨_,rfl,?_⟩⟩
 have k:=k H' (u.trans s')
 unfold EbN at k
 have tw':=tw.same (u.trans s')
 rw[B7k]
 cases he:decide (x1.k= .end_\/x2.k= .end_) with
 | false=>
   rw[he] at k
   exact Y3 k
 | true=>
   rw[he,Bool.true_and] at k
   refine Z0 ⟨_,rfl,n1,x1,rfl,tw'.1,_,rfl,?_⟩
   cases h1:C2j x1 with
   | true=>
     rw[h1] at k
     exact Z0 k
   | false=>
     rw[h1,Bool.false_or] at k
     exact Y3 ⟨_,rfl,n2,x2,rfl,tw'.2,k⟩
def D3a (CN:Addr):Sp:=fun vs H Q _=>∃n1 n2 x1 x2,vs=[.ref n1,.ref n2]/\Two CN H n1 n2 x1 x2/\IntMulOk x1.f x2.f/\∀n H',H n=none ->A8 H H' ->V3 CN H' n (Z5 x1 x2) ->Q (.ref n) H'
theorem scProd:B8 ["one","other","sign"] Q7 (A6 A6w):=scK
theorem D9u{f f1 f2 f3 fI CN CB:Addr}{fd fd1 fd2 fd3 fdI:FuncData}(D:Def K mg "product" Q7 A6w f fd)(dA:Def K mg "some_of_kind" Q9 A6c f1 fd1)(dB:B9 P w K mg base 1 f1 fd1 Q9 (A7k CN))(dC:Def K mg "unlike_sign" Q7 B0e f2 fd2)(dD:B9 P w K mg base 1 f2 fd2 Q7 (B9r CN))
   (dE:Def K mg "end" ["sign"] C7u f3 fd3) (dF:B9 P w K mg base 3 f3 fd3 ["sign"] (C4y K CN CB)) (N:Num K mg CN) (M:A8a P w K mg base CN fI fdI):B9 P w K mg base 4 f fd Q7 (D3a CN):=by
 refine D.F.ok2 scProd (fun vs H Q E h=>?_) (fun X cdv A outer s H vs Q E hX hr hx h=>?_)
 . obtain⟨n1,n2,x1,x2,rfl,_⟩:=h
   rfl
 subst hX
 obtain⟨n1,n2,x1,x2,rfl,tw,hm,k⟩:=h
 refine⟨_,(A5 (D5 (i:=2) scProd.nd rfl (Or.inl rfl) (G0 dC dD hr hx (A0 (pv 0) (A0 (pv 1) A3)))) (A5 (J1 (Z7 (G0 dA dB hr hx (A0 (U0 (A0 (pv 0) (A0 (pv 1) A3))) (A0 C7 A3)))) (A7 (B5 (G0 dE dF hr hx (A0 (pv 2) A3)))) D6) (A7 (B5 (A2w M.m (B9.up M.g) hr N.g M.b .nil hx (A0 C7 (A0 (pv 2) (A0 (B7 U9 (J0 (pv 0) rfl) (J0 (pv 1) rfl)) (A0 (B7 V1 (J0 (pv 0) rfl) (J0 (pv 1) rfl)) A3))))))))),?_⟩
 have z2:2<=sizeLine:=C9 (by decide)
 refine⟨_,rfl,_,rfl,n1,n2,x1,x2,rfl,tw,?_⟩
 refine⟨_,rfl,_,rfl,z2,fun l nl=>?_⟩
 have u:=A8.upd (o:= .lst [.ref n1,.ref n2]) nl
 refine⟨l,_,_,rfl,B1g (tw.same u) A4,(by show 2<=1000;decide),fun H' s'=>⟨_,rfl,?_⟩⟩
 rw[B7k]
 have sm:=u.trans s'
 have us:=D1e x1.s x2.s
 unfold Z5 at k
 refine V0 (fun h=>?_) (fun h=>?_)
 . rw[if_pos h] at k
   exact⟨_,rfl,_,rfl,.inl ⟨⟨_,rfl,us.1,us.2⟩,fun n H2 nn s2 num=>k n H2 (sm.free nn) (sm.trans s2) num⟩⟩
 rw[if_neg h] at k
 obtain⟨⟨d1,e1⟩,⟨d2,e2⟩⟩:=tw.same sm
 refine⟨_,rfl,_,rfl,n1,CN,d1,_,_,rfl,e1,N.cl,N.n3,B3z _ _ _ _,_,rfl,n2,CN,d2,_,_,rfl,e2,N.cl,N.n3,B3z _ _ _ _,_,_,rfl,rfl,hm,_,rfl,n1,CN,d1,_,_,rfl,e1,N.cl,N.n4,num4 _ _ _ _,_,rfl,n2,CN,d2,_,_,rfl,e2,N.cl,N.n4,num4 _ _ _ _,_,_,rfl,rfl,?_⟩
 exact B3k fun n H2 nn s2 num=>k n H2 (sm.free nn) (sm.trans s2) num
noncomputable abbrev B6z:Stmt:=(top 44)
noncomputable def A0g (v:Cv) (x y z:Nm) (L:Int):Nm×List Str:=if x.k= .none\/y.k= .none\/z.k= .none then(A4e,[]) else if EbN x y=true then(A4e,["void"]) else B6u v (Z5 x y) z L
theorem C6v{n1 n2 n3:Addr}{x1 x2 x3:Nm}:([(n1,x1),(n2,x2),(n3,x3)].any fun p=>decide (p.2.k.str=("none":Str)))=decide (x1.k= .none\/x2.k= .none\/x3.k= .none):=by
 have q:∀k:Kd,decide (k.str=("none":Str))=decide (k= .none):=fun k=>by cases k<;>decide+kernel
 simp[q]
theorem B1s{CN:Addr}{H:Hp}{l n1 n2 n3:Addr}{x1 x2 x3:Nm}(h:Two CN H n1 n2 x1 x2)(h3:V3 CN H n3 x3)(hl:H l=some (.lst [.ref n1,.ref n2,.ref n3])):C3f CN H l [(n1,x1),(n2,x2),(n3,x3)]:=⟨hl,List.forall_mem_cons.2 ⟨h.1,List.forall_mem_cons.2 ⟨h.2,List.forall_mem_cons.2 ⟨h3,by simp⟩⟩⟩⟩
def G8v (K:Frag) (CN:Addr) (H:Hp) (v1 v2 v3:V):Prop:=A2z K CN H v1\/(∃n x,v1= .ref n/\V3 CN H n x/\A2z K CN H v2)\/∃n x m y,v1= .ref n/\V3 CN H n x/\v2= .ref m/\V3 CN H m y/\A2z K CN H v3
def B6w (K:Frag) (CN CC CT CB:Addr):Sp:=fun vs H Q E=>∃c v1 v2 v3,vs=[.ref c,v1,v2,v3]/\
 ((∃v a b xs ys n1 n2 n3 x1 x2 x3 L,v1= .ref n1/\v2= .ref n2/\v3= .ref n3/\Z8 CC H c v a b xs ys/\v.Ok/\xs.length<=900/\Y5 xs=xs/\V3 CN H n1 x1/\V3 CN H n2 x2/\V3 CN H n3 x3/\x1.Ok/\x2.Ok/\x3.Ok/\A9k (Z5 x1 x2) x3 L/\A5d CN CC CT H c v b xs ys (A0g v x1 x2 x3 L) Q E)\/
  (G8v K CN H v1 v2 v3/\∀H',A8 H H' ->E (.ref CB) none H'))
theorem G0f:B8 Q30 Q30 (A6 B6z):=scK
theorem D1s{f f1 f2 f3 f4 f7 f8 f9 CN CC CB' CT:Addr}(D:Def K mg "fused" Q30 B6z f fd)(dA:Def K mg "need_numbers" ["things"] B0q f1 fd1)(dB:B9 P w K mg base 2 f1 fd1 ["things"] (B9h K CN CB'))
   (dC:Def K mg "some_of_kind" Q9 A6c f2 fd2) (dD:B9 P w K mg base 1 f2 fd2 Q9 (A7k CN)) (dE:Def K mg "nothing" [] A3b f3 fd3) (dF:B9 P w K mg base 3 f3 fd3 [] (A5j CN))
   (dG:Def K mg "added" Q5 B5z f4 fd4) (dH:B9 P w K mg base 7 f4 fd4 Q5 (C5b CN CC CT))
   (dJ:Def K mg "is_end_by_nought" Q7 B0s f7 fd7) (dL:B9 P w K mg base 2 f7 fd7 Q7 (C0g CN)) (dM:Def K mg "product" Q7 A6w f8 fd8) (dN:B9 P w K mg base 4 f8 fd8 Q7 (D3a CN)) (dP:Def K mg "void" ["context"] B8r f9 fd9) (dQ:B9 P w K mg base 4 f9 fd9 ["context"] (C0v CN CC CT)):B9 P w K mg base 8 f fd Q30 (B6w K CN CC CT CB'):=by
 refine D.F.ok2 G0f (fun vs H Q E h=>?_) (fun X cdv A outer s H vs Q E hX hr hx h=>?_)
 . obtain⟨c,v1,v2,v3,rfl,_⟩:=h
   rfl
 subst hX
 obtain⟨c,v1,v2,v3,rfl,h⟩:=h
 refine⟨_,(A5 (Z3 (G0 dA dB hr hx (A0 (U0 (A0 (pv 1) (A0 (pv 2) (A0 (pv 3) A3)))) A3))) (A5 (J1 (Z7 (G0 dC dD hr hx (A0 (U0 (A0 (pv 1) (A0 (pv 2) (A0 (pv 3) A3)))) (A0 C7 A3)))) (A7 (B5 (C5e dE dF hr hx))) D6) (A5 (J1 (Z7 (G0 dJ dL hr hx (A0 (pv 1) (A0 (pv 2) A3)))) (A7 (B5 (G0 dP dQ hr hx (A0 (pv 0) A3)))) D6) (A7 (B5 (G0 dG dH hr hx (A0 (pv 0) (A0 (G0 dM dN hr hx (A0 (pv 1) (A0 (pv 2) A3))) (A0 (pv 3) A3))))))))),?_⟩
 have z3:3<=sizeLine:=C9 (by decide)
 refine⟨_,rfl,_,rfl,_,rfl,z3,fun l nl=>?_⟩
 have u:=A8.upd (o:= .lst [v1,v2,v3]) nl
 rcases h with⟨v,a,b,xs,ys,n1,n2,n3,x1,x2,x3,L,rfl,rfl,rfl,hc,ok,lx,ox,m1,m2,m3,o1,o2,o3,hL,k⟩|⟨bad,k⟩
 . have tw:Two CN H n1 n2 x1 x2:=⟨m1,m2⟩
   refine⟨l,[(n1,x1),(n2,x2),(n3,x3)],rfl,(B1s (tw.same u) (m3.same u) A4).n,.inl ⟨A4,?_⟩⟩
   refine⟨_,rfl,_,rfl,_,rfl,z3,fun l2 nl2=>?_⟩
   have u2:=u.trans (A8.upd (o:= .lst [.ref n1,.ref n2,.ref n3]) nl2)
   refine⟨l2,_,_,rfl,B1s (tw.same u2) (m3.same u2) A4,(by show 3<=1000;decide),fun H3 s3=>⟨_,rfl,?_⟩⟩
   have sm3:=u2.trans s3
   rw[C6v]
   unfold A0g at k
   refine V0 (fun hn=>?_) (fun hn=>?_)
   . rw[if_pos hn] at k
     exact⟨rfl,fun n H' nn s' num=>k.calm ox (sm3.trans s') hc num⟩
   rw[if_neg hn] at k
   refine⟨_,rfl,_,rfl,n1,n2,x1,x2,rfl,tw.same sm3,fun H4 s4=>⟨_,rfl,?_⟩⟩
   have sm4:=sm3.trans s4
   cases he:EbN x1 x2 with
   | true=>
     rw[if_pos he] at k
     exact Z0 ⟨_,rfl,c,v,a,b,xs,ys,rfl,hc.same sm4,lx,k.same sm4⟩
   | false=>
     rw[if_neg (by rw[he];exact Bool.false_ne_true)] at k
     refine Y3 ⟨_,rfl,_,rfl,_,rfl,n1,n2,x1,x2,rfl,tw.same sm4,D0b o1 o2,fun n H5 nn s5 num=>?_⟩
     have sm5:=sm4.trans s5
     exact⟨_,rfl,c,v,a,b,xs,ys,n,n3,Z5 x1 x2,x3,L,rfl,hc.same sm5,ok,lx,ox,⟨num,m3.same sm5⟩,C5v x1 x2,fun z=>hn (.inr (.inr z)),A6y o1 o2,o3.bg,hL,k.same sm5⟩
 rcases bad with b|⟨n,x,rfl,num,b⟩|⟨n,x,m,y,rfl,num,rfl,num2,b⟩
 . exact⟨l,[],rfl,(fun p hp=>by cases hp),.inr ⟨v1,[v2,v3],A4,b.same u,k _ u⟩⟩
 . exact⟨l,[(n,x)],rfl,(fun p hp=>by rw[List.mem_singleton.mp hp];exact num.same u),.inr ⟨v2,[v3],A4,b.same u,k _ u⟩⟩
 exact⟨l,[(n,x),(m,y)],rfl,List.forall_mem_cons.2 ⟨num.same u,List.forall_mem_cons.2 ⟨num2.same u,by simp⟩⟩,.inr ⟨v3,[],A4,b.same u,k _ u⟩⟩
noncomputable abbrev C4s:Stmt:=(top 69)
def D3g (K:Frag):Sp:=fun vs H Q _=>∃a ns k,vs=[.ref a,.int k]/\SqL K H a ((ns:List Int).map V.int)/\0<=k/\∀i,Q (.int i) H
theorem G3s:B8 Q31 Q31 (A6 C4s):=scK
theorem G0s(D:Def K mg "_law_cell_at" Q31 C4s f fd)(O:Own mg):sI P w K mg base 1 f fd Q31 (D3g K):=by
 refine G6.up (D.F.ok G3s (fun vs H Q E h=>?_) (fun cdv A outer s H vs Q E hr h=>?_))
 . obtain⟨a,ns,k,rfl,_⟩:=h
   rfl
 obtain⟨a,ns,i,rfl,hs,h0,k⟩:=h
 refine⟨_,(A5 (J1 (C8 A2t (pv 1) (V7 B6n (by rfl) O.len_ PySem.boot_len (A0 (pv 0) A3)) (C6 _)) (A7 (B5 (G4 U5 (pv 0) (pv 1) (fun _ _=>rfl)))) D6) (A7 (B5 A2))),?_⟩
 refine⟨_,rfl,_,rfl,a,_,rfl,.inl hs,_,_,rfl,rfl,_,rfl,?_⟩
 refine V0 (fun hlt=>?_) (fun _=>k 0)
 rw[List.length_map] at hlt
 obtain⟨j,rfl⟩:=Int.eq_ofNat_of_zero_le h0
 have hj:j<ns.length:=by omega
 exact⟨_,rfl,_,rfl,a,_,_,_,rfl,rfl,hs,D7 (v:=V.int ns[j]) (by simp[hj]),k _⟩
noncomputable abbrev A4n:Stmt:=(top 70)
def B0j:Sp:=fun vs H Q _=>∃c k,vs=[.int c,.int k]/\0<=k/\k<=100/\∀m,0<=m ->m<2147483629 ->Q (.int m) H
theorem C4g:B8 Q8 Q8 (A6 A4n):=scK
theorem D2f(D:Def K mg "_law_mixed" Q8 A4n f fd):sI P w K mg base 1 f fd Q8 B0j:=by
 refine G6.up (D.F.ok C4g (fun vs H Q E h=>?_) (fun cdv A outer s H vs Q E hr h=>?_))
 . obtain⟨c,k,rfl,_⟩:=h
   rfl
 obtain⟨c,i,rfl,h0,h1,k⟩:=h
 refine⟨_,(A7 (B5 (B7 V2 (B7 U9 (B7 V2 (B7 V1 (B7 V1 (B7 U9 (pv 0) (B7 V1 A2 (B7 U9 (B7 U9 A2 (pv 1)) (pv 1)))) (B7 U9 A2 (pv 1))) A2) A2) A2) A2))),?_⟩
 have q0:(0:Int)<=2*i*i:=Int.mul_nonneg (by omega) h0
 have q1:2*i*i<=200*100:=Int.mul_le_mul (by omega) h1 h0 (by decide)
 have m1:IntMulOk 2 i:=A3m.ok (.inl ⟨by decide,by decide⟩)
 have m2:IntMulOk (2*i) i:=A3m.ok (.inr ⟨by omega,by omega⟩)
 have m3:IntMulOk c (48271+2*i*i):=A3m.ok (.inr ⟨by omega,by omega⟩)
 have m4:IntMulOk 69621 i:=A3m.ok (.inl ⟨by decide,by decide⟩)
 have m5:∀z:Int,IntMulOk z 69621:=fun z=>A3m.ok (.inr ⟨by decide,by decide⟩)
 refine⟨_,rfl,_,rfl,_,_,rfl,rfl,m1,_,rfl,_,_,rfl,rfl,m2,_,_,rfl,rfl,_,_,rfl,rfl,m3,_,rfl,_,_,rfl,rfl,m4,_,_,rfl,rfl,_,_,rfl,rfl,_,_,rfl,rfl,(by show(0:Int)<2147483647;decide),_,_,rfl,rfl,m5 _,_,_,rfl,rfl,(by show(0:Int)<2147483629;decide),?_⟩
 exact k _ (Int.emod_nonneg _ (by decide)) (Int.emod_lt_of_pos _ (by decide))
noncomputable abbrev A7x:Stmt:=(top 71)
def A6g:Sp:=fun vs H Q _=>∃n:Nat,vs=[.int (n:Int)]/\n<=900/\Q (.int ((10^n:Nat):Int)) H
theorem G4v:B8 ["_law_count"] ["_law_count"] (A6 A7x):=scK
theorem D9j(D:Def K mg "_law_ten" ["_law_count"] A7x f fd)(O:Own mg)(DG:base.NoDigits):sI P w K mg base 1 f fd ["_law_count"] A6g:=by
 refine G6.up (D.F.ok G4v (fun vs H Q E h=>?_) (fun cdv A outer s H vs Q E hr h=>?_))
 . obtain⟨n,rfl,_⟩:=h
   rfl
 obtain⟨n,rfl,hn,k⟩:=h
 refine⟨_,(A7 (B5 (V6 (B2p DG) (by rfl) O.int_ boot_int (A0 (B7 C3a C7 (B7 C1s C7 (pv 0))) A3)))),?_⟩
 have l1:("1":Str).length=1:=by decide+kernel
 have l0:("0":Str).length=1:=by decide+kernel
 refine⟨_,rfl,_,_,rfl,rfl,by omega,by omega,C9 (by rw[l0];omega),_,_,rfl,rfl,C9 (by rw[B2u,l0,l1];omega),?_⟩
 exact⟨C6b n,_,rfl,C7s n (by omega),C9 (by rw[B9a];omega),k⟩
noncomputable abbrev B0p:Stmt:=(top 72)
noncomputable abbrev A4y:Stmt:=(top 73)
noncomputable abbrev B3h:Stmt:=(top 74)
structure Nm.Wf(x:Nm):Prop where
 ok:x.Ok
 e:x.k= .end_ ->x.f=0/\x.p=0
 n:x.k= .none ->x.s=0/\x.f=0/\x.p=0
theorem B9d{s f p:Int}(h1:0<=s/\s<=1)(h2:0<=f/\f<=10^60-1)(h3: -200<=p/\p<=200):(Nm.mk .plain s f p).Wf:=⟨⟨h1.1,h1.2,h2.1,h2.2,h3.1,h3.2⟩,fun q=>(by cases q),fun q=>(by cases q)⟩
theorem D0j{s:Int}(h1:0<=s/\s<=1):(Nm.mk .end_ s 0 0).Wf:=⟨⟨h1.1,h1.2,by show(0:Int)<=0;decide,by show(0:Int)<=10^60-1;decide,by show(-200:Int)<=0;decide,by show(0:Int)<=200;decide⟩,fun _=>⟨rfl,rfl⟩,fun q=>(by cases q)⟩
theorem G0w:(Nm.mk .none 0 0 0).Wf:=⟨⟨by show(0:Int)<=0;decide,by show(0:Int)<=1;decide,by show(0:Int)<=0;decide,by show(0:Int)<=10^60-1;decide,by show(-200:Int)<=0;decide,by show(0:Int)<=200;decide⟩,fun q=>(by cases q),fun _=>⟨rfl,rfl,rfl⟩⟩
theorem G2f{L:Int}{n:Nat}(hn:n<=60):0<=L % ((10^n:Nat):Int)/\L % ((10^n:Nat):Int)<=10^60-1:=by
 have p:0<((10^n:Nat):Int):=Int.natCast_pos.mpr (Nat.pow_pos (by decide))
 have a:=Int.emod_nonneg L (Int.ne_of_gt p)
 have b:=Int.emod_lt_of_pos L p
 have c:(10:Nat)^n<=10^60:=Nat.pow_le_pow_right (by decide) hn
 have e:((10^60:Nat):Int)=10^60:=by decide+kernel
 omega
theorem C8s{L:Int}{n:Nat}(h1:1<=n)(hn:n<=60):0<=((10^n:Nat):Int)-1-L % 3/\((10^n:Nat):Int)-1-L % 3<=10^60-1:=by
 have c:(10:Nat)^n<=10^60:=Nat.pow_le_pow_right (by decide) hn
 have d:(10:Nat)^1<=10^n:=Nat.pow_le_pow_right (by decide) h1
 have e:((10^60:Nat):Int)=10^60:=by decide+kernel
 omega
theorem C6d{L:Int}{n:Nat}(hn:n<60):0<=((10^n:Nat):Int)*(1+L % 9)/\((10^n:Nat):Int)*(1+L % 9)<=10^60-1:=by
 have c:(10:Nat)^n<=10^59:=Nat.pow_le_pow_right (by decide) (by omega)
 have q:0<=1+L % 9/\1+L % 9<=9:=by omega
 generalize 1+L % 9=d at q
 have a:((10^n:Nat):Int)*d<=((10^59:Nat):Int)*9:=Int.mul_le_mul (Int.ofNat_le.mpr c) q.2 q.1 (by omega)
 have b:0<=((10^n:Nat):Int)*d:=Int.mul_nonneg (Int.natCast_nonneg _) q.1
 have e:((10^59:Nat):Int)*9<=10^60-1:=by decide+kernel
 exact⟨b,Int.le_trans a e⟩
def B9y:Sp:=fun vs H Q _=>∃i,vs=[.int i]/\Q (.bl true) H
theorem D0t:B8 ["_law_thing"] ["_law_thing"] (A6 B0p):=scK
def B4f:Sp:=fun vs H Q _=>∃c,vs=[.int c]/\∀(x:Nm) t H',x.Wf ->A8 H H' ->H' t=some (.tup x.vs) ->Q (.ref t) H'
theorem scLNumber:B8 Q52 ["_law_cell"] (A6 A4y):=scK
theorem C0u(D:Def K mg "_law_number" ["_law_cell"] A4y f fd)(dA:Def K mg "_law_mixed" Q8 A4n f1 fd1)(dB:sI P w K mg base 1 f1 fd1 Q8 B0j)
   (dC:Def K mg "_law_ten" ["_law_count"] A7x f2 fd2) (dD:sI P w K mg base 1 f2 fd2 ["_law_count"] A6g) (O:Own mg):sI P w K mg base 2 f fd ["_law_cell"] B4f:=by
 refine G6.up (D.F.ok scLNumber (fun vs H Q E h=>?_) (fun cdv A outer s H vs Q E hr h=>?_))
 . obtain⟨c,rfl,_⟩:=h
   rfl
 obtain⟨c,rfl,k⟩:=h
 have hx:Y1 (A2p CX0 P w K mg base Q52 "_law_number" (A6 A4y) f cdv A outer s H E).nox EKF:=A1u
 refine⟨_,(A5 (A9 (D5 (i:=1) scLNumber.nd rfl (Or.inl rfl) (B7 V2 (B7 U1 (V5 dA dB hr hx (A0 (pv 0) (A0 A2 A3))) A2) A2))) (A5 (A9 (D5 (i:=2) scLNumber.nd rfl (Or.inl rfl) (B7 V2 (B7 U1 (V5 dA dB hr hx (A0 (pv 0) (A0 A2 A3))) A2) A2))) (A5 (A9 (J1 (C8 A2t (pv 1) A2 (C6 _)) (A7 (B5 (G4 U5 (U0 (A0 (U7 (A0 C7 (A0 A2 (A0 A2 (A0 A2 A3))))) (A0 (U7 (A0 C7 (A0 (pv 2) (A0 A2 (A0 A2 A3))))) A3))) (pv 1) (fun _ _=>rfl)))) D6)) (A5 (A9 (D5 (i:=3) scLNumber.nd rfl (Or.inl rfl) (G4 U5 (U0 (A0 A2 (A0 A2 (A0 A2 (A0 A2 (A0 A2 (A0 A2 (A0 A2 (A0 A2 (A0 A2 (A0 A2 (A0 A2 (A0 A2 A3))))))))))))) (B7 V2 (B7 U1 (V5 dA dB hr hx (A0 (pv 0) (A0 A2 A3))) A2) A2) (fun _ _=>rfl)))) (A5 (A9 (D5 (i:=4) scLNumber.nd rfl (Or.inl rfl) A2)) (A5 (A9 (B2q PassesOwn.never rfl (A3k rfl O.range_ (A0 (B7 V1 A2 (B7 U1 (pv 3) A2)) A3)) (D4 (i:=5) scLNumber.nd rfl (Or.inl rfl)) (A7 (D5 (i:=4) scLNumber.nd rfl (Or.inl rfl) (B7 V1 (B7 U9 (pv 4) A2) (V5 dA dB hr hx (A0 (pv 0) (A0 (B7 V1 A2 (pv 5)) A3)))))))) (A5 (A9 (D5 (i:=6) scLNumber.nd rfl (Or.inl rfl) (B7 V2 (pv 4) (V5 dC dD hr hx (A0 (pv 3) A3))))) (A5 (A9 (J1 (C8 A2t (pv 1) A2 (C6 _)) (A7 (D5 (i:=6) scLNumber.nd rfl (Or.inl rfl) A2)) (A7 (J1 (C8 A2t (pv 1) A2 (C6 _)) (A7 (D5 (i:=6) scLNumber.nd rfl (Or.inl rfl) (B7 Y2 (B7 Y2 (V5 dC dD hr hx (A0 (pv 3) A3)) A2) (B7 V2 (pv 4) A2)))) (A7 (J1 (C8 A2t (pv 1) A2 (C6 _)) (A7 (D5 (i:=6) scLNumber.nd rfl (Or.inl rfl) (B7 U9 (V5 dC dD hr hx (A0 (B7 Y2 (pv 3) A2) A3)) (B7 V1 A2 (B7 V2 (pv 4) A2))))) D6)))))) (A5 (A9 (D5 (i:=7) scLNumber.nd rfl (Or.inl rfl) (B7 Y2 (B7 V2 (B7 U1 (V5 dA dB hr hx (A0 (pv 0) (A0 A2 A3))) A2) A2) A2))) (A5 (A9 (J1 (C8 G8 (B7 V2 (B7 U1 (V5 dA dB hr hx (A0 (pv 0) (A0 A2 A3))) A2) A2) A2 (C6 _)) (A7 (D5 (i:=7) scLNumber.nd rfl (Or.inl rfl) (G4 U5 (U0 (A0 (A2k A1b A2) (A0 A2 (A0 A2 (A0 (A2k A1b A2) (A0 A2 (A0 (A2k A1b A2) (A0 A2 (A0 (A2k A1b A2) A3))))))))) (B7 V2 (B7 U1 (V5 dA dB hr hx (A0 (pv 0) (A0 A2 A3))) A2) A2) (fun _ _=>rfl)))) D6)) (A7 (B5 (U7 (A0 C7 (A0 (pv 2) (A0 (pv 6) (A0 (pv 7) A3))))))))))))))))),?_⟩
 have z2:2<=sizeLine:=C9 (by decide)
 have z4:4<=sizeLine:=C9 (by decide)
 have z8:8<=sizeLine:=C9 (by decide)
 have z12:12<=sizeLine:=C9 (by decide)
 have d7:(0:Int)<7/\(7:Int).natAbs.log2<9000:=⟨by decide,by decide+kernel⟩
 have d8:(0:Int)<8/\(8:Int).natAbs.log2<9000:=⟨by decide,by decide+kernel⟩
 have mC:∀z n:Int, -(2^64)<n ->n<2^64 ->IntMulOk z n:=fun z n a b=>A3m.ok (.inr ⟨a,b⟩)
 have pT:∀n:Nat,0<((10^n:Nat):Int):=fun n=>Int.natCast_pos.mpr (Nat.pow_pos (by decide))
 let I_:L2.St ->L2.Hp ->Prop:=fun σ' H'=>∃kd:Int,H'=H/\0<=kd/\kd<24/\σ'=[si c,si kd,none,none,none,none,none,none]
 refine⟨I_,?_,?_⟩
 . refine⟨_,rfl,c,1,rfl,by decide,by decide,fun m _ _=>⟨_,_,rfl,rfl,d7,_,_,rfl,rfl,(by decide:(0:Int)<24),_,rfl,Int.emod_nonneg _ (by decide),Int.emod_lt_of_pos _ (by decide),rfl⟩⟩
 refine L2.hideG fun Z_ z_=>?_
 rintro σ' H' ⟨kd,rfl,k0,k1,rfl⟩
 subst z_
 clear I_
 refine⟨fun σ' H2=>∃sg:Int,H2=H'/\0<=sg/\sg<=1/\σ'=[si c,si kd,si sg,none,none,none,none,none],?_,?_⟩
 . refine⟨_,rfl,c,2,rfl,by decide,by decide,fun m _ _=>⟨_,_,rfl,rfl,d7,_,_,rfl,rfl,(by decide:(0:Int)<2),m/7 % 2,rfl,by omega,by omega,rfl⟩⟩
 refine L2.hideG fun Z_ z_=>?_
 rintro σ' H2 ⟨sg,rfl,s0,s1,rfl⟩
 subst z_
 refine⟨fun σ' H3=>H3=H2/\σ'=[si c,si kd,si sg,none,none,none,none,none],?_,?_⟩
 . refine⟨_,rfl,_,_,rfl,rfl,_,rfl,V0 (fun hk=>?_) (fun hk=>⟨rfl,rfl⟩)⟩
   refine⟨z4,fun t1 n1=>?_⟩
   have u1:=A8.upd (o:= .tup [.str "none",.int 0,.int 0,.int 0]) n1
   refine⟨_,rfl,z4,fun t2 n2=>⟨z2,fun l nl=>?_⟩⟩
   have u2:=A8.upd (o:= .tup [.str "end",.int sg,.int 0,.int 0]) n2
   have u3:=A8.upd (o:= .lst [.ref t1,.ref t2]) nl
   have hk:kd<2:=hk
   rcases(by omega:kd=0\/kd=1) with rfl|rfl
   . exact⟨_,rfl,l,_,_,_,rfl,rfl,SqL.of A4,D7 (j:=0) rfl,k ⟨.none,0,0,0⟩ t1 _ G0w ((u1.trans u2).trans u3) ((u2.trans u3) _ _ A4)⟩
   . exact⟨_,rfl,l,_,_,_,rfl,rfl,SqL.of A4,D7 (j:=1) rfl,k ⟨.end_,sg,0,0⟩ t2 _ (D0j ⟨s0,s1⟩) ((u1.trans u2).trans u3) (u3 _ _ A4)⟩
 rintro σ' H3 ⟨rfl,rfl⟩
 refine⟨fun σ' H4=>∃n:Nat,A8 H3 H4/\1<=n/\n<=60/\σ'=[si c,si kd,si sg,si (n:Int),none,none,none,none],?_,?_⟩
 . refine⟨z12,fun l nl=>⟨_,rfl,c,3,rfl,by decide,by decide,fun m _ _=>?_⟩⟩
   obtain⟨v,hv,ix⟩:=ixs (xs:=[1,1,2,2,3,3,4,5,9,12,24,60]) (i:=m/7 % 12) (Int.emod_nonneg _ (by decide)) (by show m/7 % 12<12;exact Int.emod_lt_of_pos _ (by decide))
   have bv:1<=v/\v<=60:=by
     simp only[List.mem_cons,List.not_mem_nil,or_false] at hv
     omega
   obtain⟨n,rfl⟩:=Int.eq_ofNat_of_zero_le (show 0<=v by omega)
   exact⟨_,_,rfl,rfl,d7,_,_,rfl,rfl,(by decide:(0:Int)<12),l,_,_,_,rfl,rfl,SqL.of A4,ix,n,A8.upd nl,by omega,by omega,rfl⟩
 refine L2.hideG fun Z_ z_=>?_
 rintro σ' H4 ⟨n,s4,n1,n2,rfl⟩
 subst z_
 refine⟨fun σ' H5=>H5=H4/\σ'=[si c,si kd,si sg,si (n:Int),si 0,none,none,none],⟨rfl,rfl⟩,?_⟩
 rintro σ' H5 ⟨rfl,rfl⟩
 refine⟨fun σ' H6=>H6=H5/\∃(L:Int) (v:Option V),σ'=[si c,si kd,si sg,si (n:Int),si L,v,none,none],?_,?_⟩
 . refine⟨_,rfl,_,_,rfl,rfl,d8,_,_,rfl,rfl,_,rfl,by omega,by omega,B4n (fun i σ' H6=>H6=H5/\∃(L:Int) (v:Option V),σ'=[si c,si kd,si sg,si (n:Int),si L,v,none,none]) ⟨rfl,0,none,rfl⟩ ?_ ?_⟩
   . rintro i σ' H6 hi ⟨rfl,L,v,rfl⟩
     exact⟨_,rfl,_,_,rfl,rfl,mC _ _ (by decide) (by decide),_,rfl,_,rfl,_,_,rfl,rfl,c,_,rfl,by omega,by omega,fun m _ _=>⟨_,_,rfl,rfl,rfl,_,_,rfl⟩⟩
   . rintro σ' H6 h
     exact h
 refine L2.hideG fun Z_ z_=>?_
 rintro σ' H6 ⟨rfl,L,v,rfl⟩
 subst z_
 refine⟨fun σ' H7=>H7=H6/\σ'=[si c,si kd,si sg,si (n:Int),si L,v,si (L % ((10^n:Nat):Int)),none],?_,?_⟩
 . exact⟨_,rfl,_,rfl,n,rfl,by omega,_,_,rfl,rfl,pT n,rfl,rfl⟩
 rintro σ' H7 ⟨rfl,rfl⟩
 refine⟨fun σ' H8=>H8=H7/\∃fg:Int,0<=fg/\fg<=10^60-1/\σ'=[si c,si kd,si sg,si (n:Int),si L,v,si fg,none],?_,?_⟩
 . have f1:=G2f (L:=L) n2
   have f2:=C8s (L:=L) n1 n2
   have f3:=C6d (L:=L) (n:=n-1) (by omega)
   refine⟨_,rfl,_,_,rfl,rfl,_,rfl,V0 (fun _=>⟨rfl,0,by decide,by decide,rfl⟩) (fun _=>?_)⟩
   refine⟨_,rfl,_,_,rfl,rfl,_,rfl,V0 (fun _=>?_) (fun _=>?_)⟩
   . exact⟨_,rfl,n,rfl,by omega,_,_,rfl,rfl,_,rfl,_,_,rfl,rfl,(by decide:(0:Int)<3),_,_,rfl,rfl,rfl,_,f2.1,f2.2,rfl⟩
   refine⟨_,rfl,_,_,rfl,rfl,_,rfl,V0 (fun _=>?_) (fun _=>⟨rfl,_,f1.1,f1.2,rfl⟩)⟩
   have mu:IntMulOk ((10^(n-1):Nat):Int) (1+L % 9):=A3m.ok (.inr ⟨by omega,by omega⟩)
   exact⟨_,rfl,_,_,rfl,rfl,n-1,(by show [V.int ((n:Int)-1)]=[V.int ((n-1:Nat):Int)];rw[show(n:Int)-1=((n-1:Nat):Int) by omega]),by omega,_,rfl,_,_,rfl,rfl,(by decide:(0:Int)<9),_,_,rfl,rfl,_,_,rfl,rfl,mu,rfl,_,f3.1,f3.2,rfl⟩
 refine L2.hideG fun Z_ z_=>?_
 rintro σ' H8 ⟨rfl,fg,g0,g1,rfl⟩
 subst z_
 refine⟨fun σ' H9=>H9=H8/\∃pw:Int, -200<=pw/\pw<=200/\σ'=[si c,si kd,si sg,si (n:Int),si L,v,si fg,si pw],?_,?_⟩
 . exact⟨_,rfl,c,14,rfl,by decide,by decide,fun m _ _=>⟨_,_,rfl,rfl,d7,_,_,rfl,rfl,(by decide:(0:Int)<13),_,_,rfl,rfl,rfl,m/7 % 13-6,by omega,by omega,rfl⟩⟩
 refine L2.hideG fun Z_ z_=>?_
 rintro σ' H9 ⟨rfl,pw,p0,p1,rfl⟩
 subst z_
 refine⟨fun σ' H10=>A8 H9 H10/\∃pw:Int, -200<=pw/\pw<=200/\σ'=[si c,si kd,si sg,si (n:Int),si L,v,si fg,si pw],?_,?_⟩
 . refine⟨_,rfl,c,15,rfl,by decide,by decide,fun m _ _=>⟨_,_,rfl,rfl,d7,_,_,rfl,rfl,(by decide:(0:Int)<12),rfl,_,rfl,V0 (fun _=>?_) (fun _=>⟨A8.refl _,pw,p0,p1,rfl⟩)⟩⟩
   refine⟨_,rfl,_,rfl,_,rfl,_,rfl,z8,fun l nl=>⟨_,rfl,c,16,rfl,by decide,by decide,fun m' _ _=>?_⟩⟩
   obtain⟨q,hq,ix⟩:=ixs (xs:=[-200,200,60, -60,97, -83,30, -30]) (i:=m'/7 % 8) (Int.emod_nonneg _ (by decide)) (by show m'/7 % 8<8;exact Int.emod_lt_of_pos _ (by decide))
   have bq: -200<=q/\q<=200:=by
     simp only[List.mem_cons,List.not_mem_nil,or_false] at hq
     omega
   exact⟨_,_,rfl,rfl,d7,_,_,rfl,rfl,(by decide:(0:Int)<8),l,_,_,_,rfl,rfl,SqL.of A4,ix,A8.upd nl,q,bq.1,bq.2,rfl⟩
 refine L2.hideG fun Z_ z_=>?_
 rintro σ' H10 ⟨s10,pw,p0,p1,rfl⟩
 subst z_
 refine⟨_,rfl,_,rfl,_,rfl,z4,fun t nt=>?_⟩
 exact k ⟨.plain,sg,fg,pw⟩ t _ (B9d ⟨s0,s1⟩ ⟨g0,g1⟩ ⟨p0,p1⟩) (s4.trans (s10.trans (A8.upd nt))) A4
def C5c (CN:Addr):Sp:=fun vs H Q _=>∃t x,vs=[.ref t]/\H t=some (.tup (Nm.vs x))/\x.Wf/\∀n H',H n=none ->A8 H H' ->V3 CN H' n x ->Q (.ref n) H'
theorem scLMade:B8 Q53 Q11 (A6 B3h):=scK
theorem D1h{f f1 f2 f3 CN CB:Addr}(D:Def K mg "_law_made" Q11 B3h f fd)(dA:Def K mg "plain" Q18 B6p f1 fd1)(dB:sI P w K mg base 3 f1 fd1 Q18 (C5h K CN CB))
   (dC:Def K mg "end" ["sign"] C7u f2 fd2) (dD:sI P w K mg base 3 f2 fd2 ["sign"] (C4y K CN CB)) (dE:Def K mg "nothing" [] A3b f3 fd3) (dF:sI P w K mg base 3 f3 fd3 [] (A5j CN)):sI P w K mg base 4 f fd Q11 (C5c CN):=by
 refine G6.up (D.F.ok scLMade (fun vs H Q E h=>?_) (fun cdv A outer s H vs Q E hr h=>?_))
 . obtain⟨t,x,rfl,_⟩:=h
   rfl
 obtain⟨t,x,rfl,ht,wf,k⟩:=h
 have hx:Y1 (A2p CX0 P w K mg base Q53 "_law_made" (A6 B3h) f cdv A outer s H E).nox EKF:=A1u
 refine⟨_,(A5 (A2m (pv 0) (A1w rfl (D9 (D4 (i:=1) scLMade.nd rfl (Or.inl rfl)) (D9 (D4 (i:=2) scLMade.nd rfl (Or.inl rfl)) (D9 (D4 (i:=3) scLMade.nd rfl (Or.inl rfl)) (D9 (D4 (i:=4) scLMade.nd rfl (Or.inl rfl)) A0d)))))) (A5 (J1 (C8 G8 (pv 1) C7 (C6 _)) (A7 (B5 (V5 dA dB hr hx (A0 (pv 2) (A0 (pv 3) (A0 (pv 4) A3)))))) D6) (A5 (J1 (C8 G8 (pv 1) C7 (C6 _)) (A7 (B5 (V5 dC dD hr hx (A0 (pv 2) A3)))) D6) (A7 (B5 (G5n dE dF hr hx)))))),?_⟩
 have ok:=wf.ok
 have g1:A3a 0 1 (.int x.s):=⟨_,rfl,ok.s0,ok.s1⟩
 have g2:A3a 0 (10^60-1) (.int x.f):=⟨_,rfl,ok.f0,ok.f1⟩
 have g3:A3a (-200) 200 (.int x.p):=⟨_,rfl,ok.p0,ok.p1⟩
 refine⟨_,rfl,t,_,rfl,SqT.of ht,rfl,_,_,rfl,_,_,rfl,_,_,rfl,_,_,rfl,rfl,?_⟩
 refine⟨_,rfl,rfl,_,rfl,V0 (fun h=>?_) (fun h=>?_)⟩
 . have hk:x.k= .plain:=eqS (b:= .plain) h
   refine⟨_,rfl,_,rfl,_,rfl,_,_,_,rfl,.inl ⟨g1,g2,g3,fun n H' nn sm num=>k n H' nn sm ?_⟩⟩
   unfold V3
   rw[hk]
   exact num
 have hk:x.k≠ .plain:=neS (b:= .plain) h
 refine⟨_,rfl,rfl,_,rfl,V0 (fun h=>?_) (fun h=>?_)⟩
 . have hk:x.k= .end_:=eqS (b:= .end_) h
   obtain⟨ef,ep⟩:=wf.e hk
   refine⟨_,rfl,_,rfl,.inl ⟨g1,fun n H' nn sm num=>k n H' nn sm ?_⟩⟩
   unfold V3
   rw[hk,ef,ep]
   exact num
 have hk':x.k= .none:=by
   have a:=neS (b:= .end_) h
   cases q:x.k with
   |plain=>exact absurd q hk
   |end_=>exact absurd q a
   |none=>rfl
 obtain⟨es,ef,ep⟩:=wf.n hk'
 refine⟨rfl,fun n H' nn sm num=>k n H' nn sm ?_⟩
 unfold V3
 rw[hk',es,ef,ep]
 exact num
structure A6q(H:Hp)(l:Addr)(ts:List (Addr×Nm)):Prop where
 l:H l=some (.lst (ts.map fun p=>V.ref p.1))
 t:∀p∈ts,H p.1=some (.tup p.2.vs)/\p.2.Wf
theorem A6q.same{H H':Hp}{l:Addr}{ts:List (Addr×Nm)}(h:A6q H l ts)(e:A8 H H'):A6q H' l ts:=⟨e _ _ h.l,fun p hp=>⟨e _ _ (h.t p hp).1,(h.t p hp).2⟩⟩
theorem C4r{α:Type}{f:α ->V}{R:α ->Prop}:∀{ys:List V},(∀(i:Nat) y,ys[i]?=some y ->∃a,y=f a/\R a) ->∃as:List α,ys=as.map f/\∀a∈as,R a
 | [],_=>⟨[],rfl,fun a h=>by simp at h⟩
 | y::ys,h=>by
   obtain⟨a,ha,ra⟩:=h 0 y rfl
   obtain⟨as,e,r⟩:=C4r (ys:=ys) (fun i z hz=>h (i+1) z (by simpa using hz))
   refine⟨a::as,by rw[ha,e];rfl,fun b hb=>?_⟩
   rcases List.mem_cons.mp hb with rfl|hb
   . exact ra
   . exact r b hb
noncomputable def rdS (zs:List Str):PyData:= .list (zs.map PyData.str)
def OkL (zs:List Str):Prop:=zs.length<=100/\∀z∈zs,PyData.strOk z=true
theorem G9j:∀{zs:List Str},(∀z∈zs,PyData.strOk z=true) ->PyData.canLayAll0 (zs.map PyData.str)=true/\PyData.depthAll (zs.map PyData.str)<=1
 | [],_=>by simp[PyData.canLayAll0,PyData.depthAll]
 | z ::zs,h=>by
   obtain⟨a,b⟩:=G9j (zs:=zs) fun z' h'=>h z' (List.mem_cons_of_mem _ h')
   have c:=h z List.mem_cons_self
   constructor
   . simp[PyData.canLayAll0,PyData.canLay0,c,a]
   . simp only[List.map_cons,PyData.depthAll,PyData.depth]
     omega
theorem shS{zs:List Str}(h:OkL zs):SeqAt.shaped (rdS zs)=true:=by
 obtain⟨a,b⟩:=G9j h.2
 unfold SeqAt.shaped rdS
 simp only[PyData.canLay0,PyData.depth,a,Bool.and_true,Bool.and_eq_true,decide_eq_true_eq,List.length_map]
 exact⟨trivial,decide_eq_true (by omega)⟩
theorem G5p:∀zs:List Str,PyData.eqv (rdS zs) (rdS zs)=true:=by
 have h:∀zs:List Str,PyData.eqvAll (zs.map PyData.str) (zs.map PyData.str)=true:=fun zs=>by
   induction zs with
   |nil=>simp[PyData.eqvAll]
   |cons z zs ih=>simp[PyData.eqvAll,PyData.eqv,ih]
 intro zs
 simp[rdS,PyData.eqv,h]
theorem J0c{K:Frag}{H:Hp}:∀zs:List Str,B3s K H (zs.map V.str) (zs.map PyData.str)
 | []=> .nil
 |z::zs=> .cons (.str z) (J0c zs)
theorem A4m{K:Frag}{H:Hp}{p:Addr}{zs:List Str}(h:H p=some (.lst (zs.map V.str))):RdD K H (.ref p) (rdS zs):= .lst (SqL.of h) (J0c zs)
theorem D2z:∀z∈Y8,PyData.strOk z=true:=by decide+kernel
def B4e (zs:List Str):Prop:=∃p:Str ->Bool,zs=Y8.filter p
theorem B4e.mem{zs:List Str}(h:B4e zs):∀z∈zs,z∈Y8:=by
 obtain⟨p,rfl⟩:=h
 exact fun z hz=>(List.mem_filter.mp hz).1
theorem B3j{zs ws:List Str}(h:B4e zs)(e:∀z,z∈ws↔z∈zs):Y5 ws=zs:=by
 obtain⟨p,rfl⟩:=h
 unfold Y5
 refine List.filter_congr fun z hz=>?_
 rw[Bool.eq_iff_iff,List.contains_iff_mem,e,List.mem_filter]
 simp[hz]
theorem G5x:∀i<7,Y8.idxOf (Y8.getD i "")=i:=by decide+kernel
noncomputable def C0f (k:Str) (s f p:Int):PyData:= .tuple [.str k,.int s,.int f,.int p]
theorem shD{k:Str}(s f p:Int)(h:PyData.strOk k=true):SeqAt.shaped (C0f k s f p)=true:=by
 unfold SeqAt.shaped C0f
 simp[PyData.canLay0,PyData.canLayAll0,PyData.depth,PyData.depthAll,h]
theorem eqD(k:Str)(s f p:Int):PyData.eqv (C0f k s f p) (C0f k s f p)=true:=by
 simp[C0f,PyData.eqv,PyData.eqvAll]
theorem rdD{K:Frag}{H:Hp}{d:Addr}{k:Str}{s f p:Int}(h:H d=some (.tup [.str k,.int s,.int f,.int p])):RdD K H (.ref d) (C0f k s f p):= .tup (SqT.of h) (.cons (.str _) (.cons (.int _) (.cons (.int _) (.cons (.int _) .nil))))
theorem okK(k:Kd):PyData.strOk k.str=true:=by cases k<;>decide+kernel
noncomputable abbrev D0p:Stmt:=(top 85)
theorem C1q(D:Def K mg "_law_whole" ["_law_thing"] B0p f fd)(O:Own mg)(T:Kit K):B9 P w K mg base 1 f fd ["_law_thing"] B9y:=by
 refine D.F.ok2 D0t (fun vs H Q E h=>?_) (fun X cdv A outer s H vs Q E hX hr hx h=>?_)
 . obtain⟨i,rfl,_⟩:=h
   rfl
 subst hX
 obtain⟨i,rfl,k⟩:=h
 refine⟨_,(A7 (B5 (A0e (A9z O.isi (pv 0) (pty O.int_ boot_int)) (Z6 (G4f (A9z O.isi (pv 0) (pty O.bool_ boot_bool))))))),?_⟩
 exact⟨_,rfl,_,_,_,_,true,rfl,rfl,B9t i,T.int_int,_,rfl,Z0 ⟨_,rfl,_,_,_,_,false,rfl,rfl,B9t i,T.int_bool,_,rfl,k⟩⟩
def D1n (CN:Addr):Sp:=fun vs H Q _=>∃n q x,vs=[.ref n,.ref q]/\V3 CN H n x/\H q=some (.tup (Nm.vs x))/\∀H',A8 H H' ->Q (.bl true) H'
theorem scLIs:B8 ["_law_found","_law_due","_law_made_here"] Q16 (A6 D0p):=scK
theorem G5v{f f1 f2 CN CB:Addr}(D:Def K mg "_law_is" Q16 D0p f fd)(dA:Def K mg "told" ["number"] C4z f1 fd1)(dB:B9 P w K mg base 2 f1 fd1 ["number"] (D3q K CN CB))(dC:Def K mg "_law_whole" ["_law_thing"] B0p f2 fd2)(dD:B9 P w K mg base 1 f2 fd2 ["_law_thing"] B9y)(O:Own mg)(T:Kit K):B9 P w K mg base 3 f fd Q16 (D1n CN):=by
 refine D.F.ok2 scLIs (fun vs H Q E h=>?_) (fun X cdv A outer s H vs Q E hX hr hx h=>?_)
 . obtain⟨n,q,x,rfl,_⟩:=h
   rfl
 subst hX
 obtain⟨n,q,x,rfl,num,eq,k⟩:=h
 have hu:=hr.units
 refine⟨_,(A5 (A9 (D5 (i:=2) scLIs.nd rfl (Or.inl rfl) (G0 dA dB hr hx (A0 (pv 0) A3)))) (A5 (A9 (J1 (PW.pt (A6a (A1v (Z7 (A9z O.isi (pv 2) (pty O.tuple_ boot_tuple)))) (A6a (C8 (B6g hr.units) (pv 2) (pv 1) (C6 _)) (A8f (A1v (Z7 (A9z O.isi (G4 U8 (pv 2) A2 (fun _ _=>rfl)) (pty O.str_ boot_str)))))))) (A7 (B5 A1g)) D6)) (A7 (B5 (V7 (C6s hx.hd) (by rfl) O.all_ boot_all (A0 (D3m (N:=["_law_part"]) ⟨rfl,by decide+kernel,by decide+kernel,by decide+kernel,by decide+kernel⟩ hx.hd (B0y (D0k G6b (pv 2) (G1n A2) G1t)) rfl (fun C s₀ H₀ ex pn h=>D4 (i:=0) (by decide+kernel:(["_law_part"]:List Str).Nodup) rfl (Or.inl rfl)) (fun C s₀ H₀ ex pn h=>(D9r h dC dD hr (A0 (pv 0) A3)))) A3)))))),?_⟩
 refine⟨fun σ' H'=>∃t,A8 H H'/\H' t=some (.tup x.vs)/\σ'=[sr n,sr q,sr t],⟨_,rfl,_,rfl,.inl ⟨n,_,_,_,_,rfl,num,fun t nt=>⟨t,A8.upd nt,A4,rfl⟩⟩⟩,?_⟩
 refine L2.hideG fun Z_ z_=>?_
 rintro σ' H1 ⟨t,s1,et,rfl⟩
 subst z_
 let I_:L2.St ->L2.Hp ->Prop:=fun σ' H'=>H'=H1/\σ'=[sr n,sr q,sr t]
 refine⟨I_,?_,?_⟩
 . refine⟨_,rfl,_,_,_,_,true,rfl,rfl,G2y et,T.tuple_tuple,_,rfl,Y3 ?_⟩
   refine⟨_,rfl,_,rfl,C0f x.k.str x.s x.f x.p,C0f x.k.str x.s x.f x.p,rdD et,rdD (s1 _ _ eq),shD _ _ _ (okK _),shD _ _ _ (okK _),_,rfl,?_⟩
   rw[if_pos rfl,eqD]
   refine Y3 ⟨_,rfl,t,_,_,_,rfl,rfl,SqT.of et,D7 (j:=0) rfl,_,_,_,_,true,rfl,rfl,B8m _,T.str_str,_,rfl,Y3 ⟨rfl,rfl⟩⟩
 rintro σ' H2 ⟨rfl,rfl⟩
 clear I_
 refine⟨_,rfl,1,rfl,t,x.vs,rfl,SqT.of et,(fun z=>absurd (show HT.sIx 4 0 (some 1)=0 from z.1) (by decide)),fun p np=>⟨p,rfl,⟨_,SqT.of A4⟩,?_⟩⟩
 have u1:=A8.upd (o:= .tup (C1p x.vs (some 1) none)) np
 have ep:upd H2 p (.tup (C1p x.vs (some 1) none)) p=some (.tup [.int x.s,.int x.f,.int x.p]):=A4
 generalize upd H2 p (.tup (C1p x.vs (some 1) none))=G at*
 refine A1m (J:=Itt K p) (n:=3) (fun _ y _=>y= .bl true) (by decide) (fun _ _ _ _ _ _ h _ _=>h) (fun i H3 Qy hi sm hy=>?_) (fun H3 sm=>⟨_,SqT.of (sm _ _ ep),Nat.le_refl 3⟩) (fun D H' ys sm nD eD hlen hR=>?_)
 . obtain⟨j,hj⟩:∃j:Int,([.int x.s,.int x.f,.int x.p]:List V)[i]?=some (.int j):=by
     rcases(by omega:i=0\/i=1\/i=2) with rfl|rfl|rfl<;>exact⟨_,rfl⟩
   refine⟨⟨_,_,SqT.of (sm _ _ ep),hj⟩,fun y H4 yl=>?_⟩
   obtain⟨rfl,yl⟩:=yl
   have e:=yl _ (SqT.of (sm _ _ ep))
   rw[hj] at e
   obtain rfl:=(Option.some.inj e).symm
   exact⟨_,rfl,j,rfl,hy _ _ (A8.refl _) rfl⟩
 have ey:ys=[true,true,true].map V.bl:=by
   match ys,hlen with
   | [a,b,c],_=>rw[hR 0 a rfl,hR 1 b rfl,hR 2 c rfl];rfl
 refine⟨D,[true,true,true],rfl,SqL.of (by rw[eD,ey]),k _ (s1.trans (u1.trans sm))⟩
noncomputable abbrev A5a:Stmt:=(top 84)
def Rdy (CN:Addr) (wh:Int) (as:List V) (v:Cv) (c:Addr) (res:Nm×List Str) (H:Hp):Prop:=∃n1 n2 n3 x1 x2 x3 L,as=[.ref n1,.ref n2,.ref n3]/\V3 CN H n1 x1/\V3 CN H n2 x2/\V3 CN H n3 x3/\x1.Ok/\x2.Ok/\x3.Ok/\A9k (Z5 x1 x2) x3 L/\res=A0g v x1 x2 x3 L/\n1≠c/\n2≠c/\n3≠c
def G5r (K:Frag) (CN:Addr) (wh:Int) (as:List V) (H:Hp):Prop:=∃v1 v2 v3,as=[v1,v2,v3]/\G8v K CN H v1 v2 v3
theorem V3.keepD{CN:Addr}{H H':Hp}{n c:Addr}{x:Nm}(h:V3 CN H n x)(k:∀b o,H b=some o ->(∀kv,o≠ .dK kv) ->b≠c ->H' b=some o)(hn:n≠c):V3 CN H' n x:=by
 obtain⟨d,e⟩:=h
 exact⟨d,k _ _ e (fun _ z=>by cases z) hn⟩
theorem Rdy.keep{CN:Addr}{wh:Int}{as:List V}{v:Cv}{c:Addr}{res:Nm×List Str}{H H':Hp}(h:Rdy CN wh as v c res H)(k:∀b o,H b=some o ->(∀kv,o≠ .dK kv) ->b≠c ->H' b=some o):Rdy CN wh as v c res H':=by
 obtain⟨n1,n2,n3,x1,x2,x3,L,h1,m1,m2,m3,o1,o2,o3,hL,hr,c1,c2,c3⟩:=h
 exact⟨n1,n2,n3,x1,x2,x3,L,h1,m1.keepD k c1,m2.keepD k c2,m3.keepD k c3,o1,o2,o3,hL,hr,c1,c2,c3⟩
def A8q (K:Frag) (CN CC CT CB:Addr):Sp:=fun vs H Q E=>∃wh c l as,vs=[.int wh,.ref c,.ref l]/\H l=some (.lst as)/\
 ((∃v a b xs ys res,Z8 CC H c v a b xs ys/\v.Ok/\xs.length<=900/\Y5 xs=xs/\Rdy CN wh as v c res H/\A5d CN CC CT H c v b xs ys res Q E)\/(G5r K CN wh as H/\∀H',A8 H H' ->E (.ref CB) none H'))
theorem C8n:B8 Q14 Q14 (A6 A5a):=scK
theorem C2d{f f1 CN CC CB CT:Addr}(D:Def K mg "_law_called" Q14 A5a f fd)(dA:Def K mg "fused" Q30 B6z f1 fd1)(dB:B9 P w K mg base 8 f1 fd1 Q30 (B6w K CN CC CT CB)):B9 P w K mg base 9 f fd Q14 (A8q K CN CC CT CB):=by
 refine D.F.ok2 C8n (fun vs H Q E h=>?_) (fun X cdv A outer s H vs Q E hX hr hx h=>?_)
 . obtain⟨wh,c,l,as,rfl,_⟩:=h
   rfl
 subst hX
 obtain⟨wh,c,l,as,rfl,el,h⟩:=h
 have go:∃v1 v2 v3,as=[v1,v2,v3]/\B6w K CN CC CT CB [.ref c,v1,v2,v3] H Q E:=by
   rcases h with⟨v,a,b,xs,ys,res,ct,ok,lx,ox,⟨n1,n2,n3,x1,x2,x3,L,rfl,m1,m2,m3,o1,o2,o3,hL,rfl,_,_,_⟩,k⟩|⟨⟨v1,v2,v3,rfl,bad⟩,k⟩
   . exact⟨_,_,_,rfl,c,_,_,_,rfl,.inl ⟨v,a,b,xs,ys,n1,n2,n3,x1,x2,x3,L,rfl,rfl,rfl,ct,ok,lx,ox,m1,m2,m3,o1,o2,o3,hL,k⟩⟩
   . exact⟨_,_,_,rfl,c,_,_,_,rfl,.inr ⟨bad,k⟩⟩
 obtain⟨v1,v2,v3,rfl,k⟩:=go
 refine⟨_,(A7 (B5 (G0 dA dB hr hx (A0 (pv 1) (A0 (G4 U5 (pv 2) A2 (fun _ _=>rfl)) (A0 (G4 U5 (pv 2) A2 (fun _ _=>rfl)) (A0 (G4 U5 (pv 2) A2 (fun _ _=>rfl)) A3))))))),?_⟩
 exact⟨_,rfl,_,rfl,l,_,_,_,rfl,rfl,SqL.of el,D7 (j:=0) rfl,_,rfl,l,_,_,_,rfl,rfl,SqL.of el,D7 (j:=1) rfl,_,rfl,l,_,_,_,rfl,rfl,SqL.of el,D7 (j:=2) rfl,k⟩
theorem B8g(n q:Int):∃d:Nat,B0 n*B0 (0-q)=B0 (n-q)*((10^d:Nat):Int)/\B0 (-n)*B0 (-(0-q))=B0 (-(n-q))*((10^d:Nat):Int):=by
 refine⟨n.toNat+(0-q).toNat-(n-q).toNat,?_,?_⟩
 . unfold B0
   rw[<-Int.natCast_mul, <-Int.natCast_mul, <-Nat.pow_add, <-Nat.pow_add]
   congr 2
   omega
 unfold B0
 rw[<-Int.natCast_mul, <-Int.natCast_mul, <-Nat.pow_add, <-Nat.pow_add]
 congr 2
 omega
theorem C1x{l m k:Int}(hk:0<k):A1h (l*k) (m*k)=A1h l m:=by
 unfold A1h
 have a:(0<l*k)↔0<l:=by
   constructor
   . intro h
     apply Classical.byContradiction
     intro z
     have:l*k<=0:=Int.mul_nonpos_of_nonpos_of_nonneg (by omega) (Int.le_of_lt hk)
     omega
   . intro h;exact Int.mul_pos h hk
 have e:2*(l*k)=2*l*k:=by rw[Int.mul_assoc]
 have b:(m*k<=2*(l*k))↔m<=2*l:=by
   rw[e]
   exact⟨fun h=>Int.le_of_mul_le_mul_right h hk,fun h=>Int.mul_le_mul_of_nonneg_right h (Int.le_of_lt hk)⟩
 have c:(m*k<2*(l*k))↔m<2*l:=by
   rw[e]
   exact⟨fun h=>Int.lt_of_mul_lt_mul_right h (Int.le_of_lt hk),fun h=>Int.mul_lt_mul_of_pos_right h hk⟩
 simp only[a,b,c]
theorem C9t{t b n q:Int}(hb:0<b):whI (t*B0 n) (b*B0 (-n)) (0-q)=whI t b (n-q)/\ptI (t*B0 n) (b*B0 (-n)) (0-q)=ptI t b (n-q):=by
 obtain⟨d,e1,e2⟩:=B8g n q
 have hk:0<((10^d:Nat):Int):=Int.natCast_pos.mpr (Nat.pow_pos (by decide))
 have a:t*B0 n*B0 (0-q)=t*B0 (n-q)*((10^d:Nat):Int):=by rw[Int.mul_assoc,e1,Int.mul_assoc]
 have c:b*B0 (-n)*B0 (-(0-q))=b*B0 (-(n-q))*((10^d:Nat):Int):=by rw[Int.mul_assoc,e2,Int.mul_assoc]
 have w:whI (t*B0 n) (b*B0 (-n)) (0-q)=whI t b (n-q):=by
   unfold whI
   rw[a,c]
   exact Int.mul_ediv_mul_of_pos_left _ _ hk
 refine⟨w,?_⟩
 unfold ptI
 rw[w,a,c,show whI t b (n-q)*(b*B0 (-(n-q))*((10^d:Nat):Int))=whI t b (n-q)*(b*B0 (-(n-q)))*((10^d:Nat):Int) by ac_rfl, <-Int.sub_mul]
 exact C1x hk
theorem lead_scale{t b n L:Int}:A1e (t*B0 n) (b*B0 (-n)) (0-L)↔A1e t b (n-L):=by
 obtain⟨d,e1,e2⟩:=B8g n L
 have hk:0<((10^d:Nat):Int):=Int.natCast_pos.mpr (Nat.pow_pos (by decide))
 have a:t*B0 n*B0 (0-L)=t*B0 (n-L)*((10^d:Nat):Int):=by rw[Int.mul_assoc,e1,Int.mul_assoc]
 have c:b*B0 (-n)*B0 (-(0-L))=b*B0 (-(n-L))*((10^d:Nat):Int):=by rw[Int.mul_assoc,e2,Int.mul_assoc]
 unfold A1e
 rw[a,c,show 10*(b*B0 (-(n-L))*((10^d:Nat):Int))=10*(b*B0 (-(n-L)))*((10^d:Nat):Int) by ac_rfl]
 constructor
 . intro h
   exact⟨Int.le_of_mul_le_mul_right h.1 hk,Int.lt_of_mul_lt_mul_right h.2 (Int.le_of_lt hk)⟩
 intro h
 exact⟨Int.mul_le_mul_of_nonneg_right h.1 (Int.le_of_lt hk),Int.mul_lt_mul_of_pos_right h.2 hk⟩
theorem B7t(v:Cv)(s t b n L i:Int)(hb:0<b):A0z v s (t*B0 n) (b*B0 (-n)) 0 L i=A0z v s t b n L i:=by
 unfold A0z
 have:=C9t (t:=t) (b:=b) (n:=n) (q:=v.fin L) hb
 rw[this.1,this.2]
theorem B7g(n:Nat)(h:1<=n):∃L:Nat,10^L<=n/\n<10^(L+1):=by
 induction n using Nat.strongRecOn with
 | ind n ih=>
   by_cases h10:n<10
   . exact⟨0,by simpa using h,by simpa using h10⟩
   . obtain⟨L,a,b⟩:=ih (n/10) (by omega) (by omega)
     refine⟨L+1,?_,?_⟩
     . rw[Nat.pow_succ];omega
     . rw[Nat.pow_succ];omega
theorem C5p{n j:Nat}(h1:n<10^(j+1))(h2:10^j<=n):A1j (n:Int)=(j:Int)+1:=by
 unfold A1j
 have e:(Str.ofString (toString (n:Int))).length=(Nat.toDigits 10 n).length:=by
   have:=congrArg List.length (KIN.signs_num n)
   rw[List.length_map] at this
   rw[<-this];rfl
 rw[e]
 have a:(Nat.toDigits 10 n).length<=j+1:=digits10_le (by omega) h1
 have b:j+1<=(Nat.toDigits 10 n).length:=digits10_ge h2
 omega
noncomputable abbrev A7g:Stmt:=(top 75)
noncomputable abbrev A2n:Stmt:=(top 76)
noncomputable abbrev B3c:Stmt:=(top 77)
noncomputable def Cv.tup (v:Cv):List V:=[.int v.r,.str v.y.name,.int v.l,.int v.m]
noncomputable def G3f:List Wy:=[.down,.up,.floor,.ceiling,.halfUp,.halfDown,.halfEven,.fiveUp]
def B9m:Sp:=fun vs H Q _=>∃c,vs=[.int c]/\∀(v:Cv) t H',v.Ok ->A8 H H' ->H' t=some (.tup v.tup) ->Q (.ref t) H'
theorem scLRules:B8 Q54 ["_law_cell"] (A6 A7g):=scK
theorem C7z(D:Def K mg "_law_rules" ["_law_cell"] A7g f fd)(dA:Def K mg "_law_mixed" Q8 A4n f1 fd1)(dB:sI P w K mg base 1 f1 fd1 Q8 B0j):sI P w K mg base 2 f fd ["_law_cell"] B9m:=by
 refine G6.up (D.F.ok scLRules (fun vs H Q E h=>?_) (fun cdv A outer s H vs Q E hr h=>?_))
 . obtain⟨c,rfl,_⟩:=h
   rfl
 obtain⟨c,rfl,k⟩:=h
 have hx:Y1 (A2p CX0 P w K mg base Q54 "_law_rules" (A6 A7g) f cdv A outer s H E).nox EKF:=A1u
 refine⟨_,(A5 (A9 (D5 (i:=1) scLRules.nd rfl (Or.inl rfl) (G4 U5 (U0 (A0 A2 (A0 A2 (A0 A2 (A0 A2 (A0 A2 (A0 A2 (A0 A2 (A0 A2 A3))))))))) (B7 V2 (B7 U1 (V5 dA dB hr hx (A0 (pv 0) (A0 A2 A3))) A2) A2) (fun _ _=>rfl)))) (A5 (A9 (D5 (i:=2) scLRules.nd rfl (Or.inl rfl) (U0 (A0 C7 (A0 C7 (A0 C7 (A0 C7 (A0 C7 (A0 C7 (A0 C7 (A0 C7 A3))))))))))) (A5 (A9 (D5 (i:=3) scLRules.nd rfl (Or.inl rfl) (G4 U5 (pv 2) (B7 V2 (B7 U1 (V5 dA dB hr hx (A0 (pv 0) (A0 A2 A3))) A2) A2) (fun _ _=>rfl)))) (A5 (A9 (D5 (i:=4) scLRules.nd rfl (Or.inl rfl) (G4 U5 (U0 (A0 (A2k A1b A2) (A0 A2 (A0 (A2k A1b A2) (A0 (A2k A1b A2) (A0 (A2k A1b A2) (A0 (A2k A1b A2) A3))))))) (B7 V2 (B7 U1 (V5 dA dB hr hx (A0 (pv 0) (A0 A2 A3))) A2) A2) (fun _ _=>rfl)))) (A5 (A9 (D5 (i:=5) scLRules.nd rfl (Or.inl rfl) (G4 U5 (U0 (A0 A2 (A0 A2 (A0 A2 (A0 A2 (A0 A2 (A0 A2 A3))))))) (B7 V2 (B7 U1 (V5 dA dB hr hx (A0 (pv 0) (A0 A2 A3))) A2) A2) (fun _ _=>rfl)))) (A7 (B5 (U7 (A0 (pv 1) (A0 (pv 3) (A0 (pv 4) (A0 (pv 5) A3)))))))))))),?_⟩
 have z4:4<=sizeLine:=C9 (by decide)
 have z6:6<=sizeLine:=C9 (by decide)
 have z8:8<=sizeLine:=C9 (by decide)
 have d7:(0:Int)<7/\(7:Int).natAbs.log2<9000:=⟨by decide,by decide+kernel⟩
 let I_:L2.St ->L2.Hp ->Prop:=fun σ' H'=>A8 H H'/\∃r:Int,1<=r/\r<=24/\σ'=[si c,si r,none,none,none,none]
 refine⟨I_,?_,?_⟩
 . refine⟨z8,fun l nl=>⟨_,rfl,c,1,rfl,by decide,by decide,fun m _ _=>?_⟩⟩
   obtain⟨q,hq,ix⟩:=ixs (xs:=[1,2,3,4,5,9,24,2]) (i:=m/7 % 8) (Int.emod_nonneg _ (by decide)) (by show m/7 % 8<8;exact Int.emod_lt_of_pos _ (by decide))
   have bq:1<=q/\q<=24:=by
     simp only[List.mem_cons,List.not_mem_nil,or_false] at hq
     omega
   exact⟨_,_,rfl,rfl,d7,_,_,rfl,rfl,(by decide:(0:Int)<8),l,_,_,_,rfl,rfl,SqL.of A4,ix,A8.upd nl,q,bq.1,bq.2,rfl⟩
 refine L2.hideG fun Z_ z_=>?_
 rintro σ' H1 ⟨s1,r,r1,r2,rfl⟩
 subst z_
 clear I_
 let I_:L2.St ->L2.Hp ->Prop:=fun σ' H'=>∃l,A8 H H'/\H' l=some (.lst (G3f.map fun y=>V.str y.name))/\σ'=[si c,si r,sr l,none,none,none]
 refine⟨I_,?_,?_⟩
 . exact⟨z8,fun l nl=>⟨l,s1.trans (A8.upd nl),A4,rfl⟩⟩
 refine L2.hideG fun Z_ z_=>?_
 rintro σ' H2 ⟨l,s2,hl,rfl⟩
 subst z_
 clear I_
 let I_:L2.St ->L2.Hp ->Prop:=fun σ' H'=>H'=H2/\∃y:Wy,σ'=[si c,si r,sr l,sR y.name,none,none]
 refine⟨I_,?_,?_⟩
 . refine⟨_,rfl,_,rfl,c,2,rfl,by decide,by decide,fun m _ _=>?_⟩
   obtain⟨q,hq,ix⟩:=ixv (xs:=G3f.map fun y=>V.str y.name) (i:=m/7 % 8) (Int.emod_nonneg _ (by decide)) (by show m/7 % 8<8;exact Int.emod_lt_of_pos _ (by decide))
   obtain⟨y,_,rfl⟩:=List.mem_map.mp hq
   exact⟨_,_,rfl,rfl,d7,_,_,rfl,rfl,(by decide:(0:Int)<8),l,_,_,_,rfl,rfl,SqL.of hl,ix,rfl,y,rfl⟩
 refine L2.hideG fun Z_ z_=>?_
 rintro σ' H3 ⟨rfl,y,rfl⟩
 subst z_
 clear I_
 let I_:L2.St ->L2.Hp ->Prop:=fun σ' H'=>A8 H H'/\∃q:Int, -60<=q/\q<=0/\σ'=[si c,si r,sr l,sR y.name,si q,none]
 refine⟨I_,?_,?_⟩
 . refine⟨_,rfl,_,rfl,_,rfl,_,rfl,_,rfl,z6,fun p np=>⟨_,rfl,c,3,rfl,by decide,by decide,fun m _ _=>?_⟩⟩
   obtain⟨q,hq,ix⟩:=ixs (xs:=[-60,0, -2, -5, -9, -1]) (i:=m/7 % 6) (Int.emod_nonneg _ (by decide)) (by show m/7 % 6<6;exact Int.emod_lt_of_pos _ (by decide))
   have bq: -60<=q/\q<=0:=by
     simp only[List.mem_cons,List.not_mem_nil,or_false] at hq
     omega
   exact⟨_,_,rfl,rfl,d7,_,_,rfl,rfl,(by decide:(0:Int)<6),p,_,_,_,rfl,rfl,SqL.of A4,ix,s2.trans (A8.upd np),q,bq.1,bq.2,rfl⟩
 refine L2.hideG fun Z_ z_=>?_
 rintro σ' H4 ⟨s4,q,q1,q2,rfl⟩
 subst z_
 clear I_
 let I_:L2.St ->L2.Hp ->Prop:=fun σ' H'=>A8 H H'/\∃m:Int,0<=m/\m<=60/\σ'=[si c,si r,sr l,sR y.name,si q,si m]
 refine⟨I_,?_,?_⟩
 . refine⟨z6,fun p np=>⟨_,rfl,c,4,rfl,by decide,by decide,fun m _ _=>?_⟩⟩
   obtain⟨u,hu,ix⟩:=ixs (xs:=[60,0,2,5,9,1]) (i:=m/7 % 6) (Int.emod_nonneg _ (by decide)) (by show m/7 % 6<6;exact Int.emod_lt_of_pos _ (by decide))
   have bu:0<=u/\u<=60:=by
     simp only[List.mem_cons,List.not_mem_nil,or_false] at hu
     omega
   exact⟨_,_,rfl,rfl,d7,_,_,rfl,rfl,(by decide:(0:Int)<6),p,_,_,_,rfl,rfl,SqL.of A4,ix,s4.trans (A8.upd np),u,bu.1,bu.2,rfl⟩
 refine L2.hideG fun Z_ z_=>?_
 rintro σ' H5 ⟨s5,m,m1,m2,rfl⟩
 subst z_
 clear I_
 exact⟨_,rfl,_,rfl,_,rfl,_,rfl,z4,fun t nt=>k ⟨r,y,q,m⟩ t _ ⟨r1,r2,q1,q2,m1,m2⟩ (s5.trans (A8.upd nt)) A4⟩
def A5n:Sp:=fun vs H Q _=>∃t b p:Int,vs=[.int t,.int b,.int p]/\ -900<=p/\p<=900/\IntMulOk t (B0 p)/\IntMulOk b (B0 (-p))/\∀q H',A8 H H' ->H' q=some (.tup [.int (t*B0 p),.int (b*B0 (-p))]) ->Q (.ref q) H'
theorem C7n:B8 Q12 Q12 (A6 A2n):=scK
theorem D2k{s:Int}(h:s<=0):B0 s=1:=by unfold B0;rw[show s.toNat=0 by omega];rfl
theorem C2w(D:Def K mg "_law_scaled" Q12 A2n f fd)(dA:Def K mg "_law_ten" ["_law_count"] A7x f1 fd1)(dB:sI P w K mg base 1 f1 fd1 ["_law_count"] A6g):sI P w K mg base 2 f fd Q12 A5n:=by
 refine G6.up (D.F.ok C7n (fun vs H Q E h=>?_) (fun cdv A outer s H vs Q E hr h=>?_))
 . obtain⟨t,b,p,rfl,_⟩:=h
   rfl
 obtain⟨t,b,p,rfl,p0,p1,o1,o2,k⟩:=h
 have hx:Y1 (A2p CX0 P w K mg base Q12 "_law_scaled" (A6 A2n) f cdv A outer s H E).nox EKF:=A1u
 refine⟨_,(A5 (J1 (C8 A2t (pv 2) A2 (C6 _)) (A7 (B5 (U7 (A0 (pv 0) (A0 (B7 U9 (pv 1) (V5 dA dB hr hx (A0 (B7 Y2 A2 (pv 2)) A3))) A3))))) D6) (A7 (B5 (U7 (A0 (B7 U9 (pv 0) (V5 dA dB hr hx (A0 (pv 2) A3))) (A0 (pv 1) A3)))))),?_⟩
 have z2:2<=sizeLine:=C9 (by decide)
 refine⟨_,rfl,_,_,rfl,rfl,_,rfl,V0 (fun h=>?_) (fun h=>?_)⟩
 . have h:p<0:=h
   rw[D2k (s:=p) (by omega),Int.mul_one] at k
   exact⟨_,rfl,_,rfl,_,rfl,_,_,rfl,rfl,(-p).toNat,(by show [V.int (0-p)]=_;rw[Int.toNat_of_nonneg (by omega),Int.zero_sub]),by omega,_,_,rfl,rfl,o2,z2,fun q nq=>k q _ (A8.upd nq) A4⟩
 have h:¬p<0:=h
 rw[D2k (s:= -p) (by omega),Int.mul_one] at k
 exact⟨_,rfl,_,rfl,p.toNat,(by show [V.int p]=_;rw[Int.toNat_of_nonneg (by omega)]),by omega,_,_,rfl,rfl,o1,_,rfl,z2,fun q nq=>k q _ (A8.upd nq) A4⟩
def SzL (t:Int):Prop:=1<=t/\t<B0 780
theorem SzL.nat{t:Int}(h:SzL t):∃n:Nat,t=(n:Int)/\1<=n/\n<10^780:=by
 obtain⟨n,rfl⟩:=Int.eq_ofNat_of_zero_le (show 0<=t by have:=h.1;omega)
 exact⟨n,rfl,Int.ofNat_le.mp h.1,Int.ofNat_lt.mp h.2⟩
theorem SzL.sz{t:Int}(h:SzL t):Sz t:=⟨h.1,Int.lt_of_lt_of_le h.2 (A2c (by decide))⟩
theorem SzL.log{t:Int}(h:SzL t):t.natAbs<10^4300:=by
 obtain⟨n,rfl,_,hn⟩:=h.nat
 rw[Int.natAbs_natCast]
 exact Nat.lt_of_lt_of_le hn (Nat.pow_le_pow_right (by decide) (by decide))
def C3q:Sp:=fun vs H Q _=>∃t b:Int,vs=[.int t,.int b]/\SzL t/\SzL b/\∀L H',A1e t b (0-L) -> -781<=L ->L<=781 ->A8 H H' ->Q (.int L) H'
theorem scLLead:B8 Q55 Q39 (A6 B3c):=scK
theorem D2x(D:Def K mg "_law_lead" Q39 B3c f fd)(dA:Def K mg "_law_scaled" Q12 A2n f1 fd1)(dB:sI P w K mg base 2 f1 fd1 Q12 A5n)(O:Own mg)(DG:base.NoDigits):sI P w K mg base 3 f fd Q39 C3q:=by
 refine G6.up (D.F.ok scLLead (fun vs H Q E h=>?_) (fun cdv A outer s H vs Q E hr h=>?_))
 . obtain⟨t,b,rfl,_⟩:=h
   rfl
 obtain⟨t,b,rfl,ht,hb,k⟩:=h
 have hx:Y1 (A2p CX0 P w K mg base Q55 "_law_lead" (A6 B3c) f cdv A outer s H E).nox EKF:=A1u
 refine⟨_,(A5 (D5 (i:=2) scLLead.nd rfl (Or.inl rfl) (B7 Y2 (V7 A2d (by rfl) O.len_ PySem.boot_len (A0 (V6 (A6b DG hr.hd) (by rfl) O.str_ boot_str (A0 (pv 0) A3)) A3)) (V7 A2d (by rfl) O.len_ PySem.boot_len (A0 (V6 (A6b DG hr.hd) (by rfl) O.str_ boot_str (A0 (pv 1) A3)) A3)))) (A5 (A2m (V5 dA dB hr hx (A0 (pv 0) (A0 (pv 1) (A0 (B7 Y2 A2 (pv 2)) A3)))) (A1w rfl (D9 (D4 (i:=3) scLLead.nd rfl (Or.inl rfl)) (D9 (D4 (i:=4) scLLead.nd rfl (Or.inl rfl)) A0d)))) (A7 (B5 (B7 Y2 (pv 2) (V6 A0a (by rfl) O.int_ boot_int (A0 (G5 A2t (pv 3) (pv 4) (C6 _)) A3))))))),?_⟩
 obtain⟨tn,et,t1,t2⟩:=ht.nat
 obtain⟨bn,eb,b1,b2⟩:=hb.nat
 obtain⟨L,l1,l2⟩:=B7g tn t1
 obtain⟨M,m1,m2⟩:=B7g bn b1
 have ft:A1j t=(L:Int)+1:=by rw[et];exact C5p l2 l1
 have fb:A1j b=(M:Int)+1:=by rw[eb];exact C5p m2 m1
 have lL:L<780:=(Nat.pow_lt_pow_iff_right (by decide:1<10)).mp (Nat.lt_of_le_of_lt l1 t2)
 have lM:M<780:=(Nat.pow_lt_pow_iff_right (by decide:1<10)).mp (Nat.lt_of_le_of_lt m1 b2)
 have es:0-(A1j t-A1j b)=(M:Int)-L:=by omega
 refine⟨_,rfl,_,rfl,ht.log,_,rfl,(C9 (by unfold A1j at ft;omega)),_,rfl,_,rfl,hb.log,_,rfl,(C9 (by unfold A1j at fb;omega)),_,_,rfl,rfl,?_⟩
 show G0h _ _ _ [si t,si b,si (A1j t-A1j b),none,none] H
 refine⟨_,rfl,_,rfl,_,rfl,_,_,rfl,rfl,t,b,0-(A1j t-A1j b),rfl,by omega,by omega,A4x ht.sz (by omega),A4x hb.sz (by omega),fun q H1 s1 eq=>?_⟩
 refine⟨q,_,rfl,SqT.of eq,rfl,_,_,rfl,_,_,rfl,rfl,?_⟩
 refine⟨_,rfl,_,rfl,_,rfl,_,_,rfl,rfl,.inr ⟨_,rfl,_,_,rfl,rfl,?_⟩⟩
 rw[es]
 subst et eb
 by_cases h:(tn:Int)*B0 ((M:Int)-L)<(bn:Int)*B0 (-((M:Int)-L))
 . rw[decide_eq_true h]
   refine k _ _ ?_ (by show -781<=A1j (tn:Int)-A1j (bn:Int)-1;omega) (by show A1j (tn:Int)-A1j (bn:Int)-1<=781;omega) s1
   have:=B2f l1 l2 m1 m2 h
   rw[show(0:Int)- (A1j (tn:Int)-A1j (bn:Int)- (if true=true then 1 else 0))=(M:Int)-L+1 by rw[if_pos rfl];omega]
   exact this
 rw[decide_eq_false h]
 refine k _ _ ?_ (by show -781<=A1j (tn:Int)-A1j (bn:Int)-0;omega) (by show A1j (tn:Int)-A1j (bn:Int)-0<=781;omega) s1
 have:=B4y l1 l2 m1 m2 (by omega)
 rw[show(0:Int)- (A1j (tn:Int)-A1j (bn:Int)- (if false=true then 1 else 0))=(M:Int)-L by rw[if_neg Bool.false_ne_true];omega]
 exact this
noncomputable abbrev B6f:Stmt:=(top 78)
noncomputable abbrev A7s:Stmt:=(top 79)
noncomputable abbrev A2j:Stmt:=(top 80)
noncomputable abbrev A3e:Stmt:=(top 81)
noncomputable abbrev A6z:Stmt:=(top 82)
noncomputable def Wy.code:Wy ->Nat
 | .down=>0
 | .up=>1
 | .floor=>2
 | .ceiling=>3
 | .halfUp=>4
 | .halfDown=>5
 | .halfEven=>6
 | .fiveUp=>7
theorem dI(a b:Int):decide (V.int a=V.int b)=decide (a=b):=by
 by_cases h:a=b
 . rw[decide_eq_true h,decide_eq_true (congrArg V.int h)]
 rw[decide_eq_false h,decide_eq_false fun q=>h (by injection q)]
theorem nW{y z:Wy}(h:y.code≠z.code):¬V.str y.name=V.str z.name:=fun q=>h (by rw[Wy.inj (V.str.inj q)])
def C4b:Sp:=fun vs H Q _=>∃(y:Wy) (s l t:Int),vs=[.str y.name,.int s,.int l,.int t]/\1<=t/\t<=3/\Q (.bl (y.goes s l t)) H
theorem D9g:B8 Q32 Q32 (A6 B6f):=scK
theorem D2d(D:Def K mg "_law_goes_up" Q32 B6f f fd):sI P w K mg base 1 f fd Q32 C4b:=by
 refine G6.up (D.F.ok D9g (fun vs H Q E h=>?_) (fun cdv A outer s H vs Q E hr h=>?_))
 . obtain⟨y,z,l,t,rfl,_⟩:=h
   rfl
 obtain⟨y,z,l,t,rfl,t1,t3,k⟩:=h
 refine⟨_,(A5 (J1 (PW.pt (A6a (C8 G8 (pv 0) C7 (C6 _)) (A6a (C8 G8 (pv 0) C7 (C6 _)) (A8f (C8 G8 (pv 0) C7 (C6 _)))))) (A7 (B5 (B1h (G5 G8 (pv 3) A2 (C6 _)) (Z6 (A0e (G5 G8 (pv 3) A2 (C6 _)) (Z6 (B1h (G5 G8 (pv 0) C7 (C6 _)) (Z6 (A0e (G5 G8 (pv 0) C7 (C6 _)) (Z6 (G5 G8 (B7 V2 (pv 2) A2) A2 (C6 _)))))))))))) D6) (A5 (J1 (C8 G8 (pv 0) C7 (C6 _)) (A7 (B5 (B1h (G5 G8 (pv 2) A2 (C6 _)) (Z6 (G5 G8 (pv 2) A2 (C6 _)))))) D6) (A7 (B5 (B1h (G5 G8 (pv 0) C7 (C6 _)) (B1h (A0e (G5 G8 (pv 0) C7 (C6 _)) (Z6 (G5 G8 (pv 1) A2 (C6 _)))) (Z6 (A0e (G5 G8 (pv 0) C7 (C6 _)) (Z6 (G5 G8 (pv 1) A2 (C6 _))))))))))),?_⟩
 cases y with
 | down=>
   exact⟨_,rfl,rfl,_,rfl,G9 (nW (y:= .down) (z:= .halfUp) (by decide)) ⟨_,rfl,rfl,_,rfl,G9 (nW (y:= .down) (z:= .halfDown) (by decide)) ⟨_,rfl,rfl,_,rfl,G9 (nW (y:= .down) (z:= .halfEven) (by decide)) ⟨_,rfl,rfl,_,rfl,G9 (nW (y:= .down) (z:= .fiveUp) (by decide)) ⟨_,rfl,rfl,_,rfl,G9 (nW (y:= .down) (z:= .up) (by decide)) ⟨_,rfl,rfl,_,rfl,G9 (nW (y:= .down) (z:= .floor) (by decide)) ⟨_,rfl,Y3 ⟨_,rfl,rfl,_,rfl,G9 (nW (y:= .down) (z:= .ceiling) (by decide)) k⟩⟩⟩⟩⟩⟩⟩⟩
 | up=>
   exact⟨_,rfl,rfl,_,rfl,G9 (nW (y:= .up) (z:= .halfUp) (by decide)) ⟨_,rfl,rfl,_,rfl,G9 (nW (y:= .up) (z:= .halfDown) (by decide)) ⟨_,rfl,rfl,_,rfl,G9 (nW (y:= .up) (z:= .halfEven) (by decide)) ⟨_,rfl,rfl,_,rfl,G9 (nW (y:= .up) (z:= .fiveUp) (by decide)) ⟨_,rfl,rfl,_,rfl,A0q rfl k⟩⟩⟩⟩⟩
 | floor=>
   have kT:V.int z=V.int 1 ->Q (.bl true) H:=fun e=>by
     have k:Q (.bl (decide (V.int z=V.int 1))) H:=k
     rw[decide_eq_true e] at k
     exact k
   have kF:¬V.int z=V.int 1 ->Q (.bl false) H:=fun e=>by
     have k:Q (.bl (decide (V.int z=V.int 1))) H:=k
     rw[decide_eq_false e] at k
     exact k
   exact⟨_,rfl,rfl,_,rfl,G9 (nW (y:= .floor) (z:= .halfUp) (by decide)) ⟨_,rfl,rfl,_,rfl,G9 (nW (y:= .floor) (z:= .halfDown) (by decide)) ⟨_,rfl,rfl,_,rfl,G9 (nW (y:= .floor) (z:= .halfEven) (by decide)) ⟨_,rfl,rfl,_,rfl,G9 (nW (y:= .floor) (z:= .fiveUp) (by decide)) ⟨_,rfl,rfl,_,rfl,G9 (nW (y:= .floor) (z:= .up) (by decide)) ⟨_,rfl,rfl,_,rfl,A0q rfl ⟨_,rfl,rfl,_,rfl,V0 (fun e=>kT e) fun e=>⟨_,rfl,rfl,_,rfl,G9 (nW (y:= .floor) (z:= .ceiling) (by decide)) (kF e)⟩⟩⟩⟩⟩⟩⟩⟩
 | ceiling=>
   exact⟨_,rfl,rfl,_,rfl,G9 (nW (y:= .ceiling) (z:= .halfUp) (by decide)) ⟨_,rfl,rfl,_,rfl,G9 (nW (y:= .ceiling) (z:= .halfDown) (by decide)) ⟨_,rfl,rfl,_,rfl,G9 (nW (y:= .ceiling) (z:= .halfEven) (by decide)) ⟨_,rfl,rfl,_,rfl,G9 (nW (y:= .ceiling) (z:= .fiveUp) (by decide)) ⟨_,rfl,rfl,_,rfl,G9 (nW (y:= .ceiling) (z:= .up) (by decide)) ⟨_,rfl,rfl,_,rfl,G9 (nW (y:= .ceiling) (z:= .floor) (by decide)) ⟨_,rfl,Y3 ⟨_,rfl,rfl,_,rfl,A0q rfl ⟨_,rfl,rfl,k⟩⟩⟩⟩⟩⟩⟩⟩⟩
 | halfUp=>
   have k3:t=3 ->Q (.bl true) H:=fun e=>by subst e;exact k
   have k2:V.int t=V.int 2 ->Q (.bl true) H:=fun e=>by cases e;exact k
   have k1:¬t=3 ->¬t=2 ->Q (.bl false) H:=fun a b=>by
     have e:t=1:=by omega
     subst e;exact k
   exact⟨_,rfl,rfl,_,rfl,A0q rfl (Z0 ⟨_,rfl,rfl,_,rfl,V0 (fun e3=>k3 (by injection e3)) fun e3=>⟨_,rfl,rfl,_,rfl,V0 (fun e2=>⟨_,rfl,rfl,_,rfl,A0q rfl (k2 e2)⟩) fun e2=>k1 (fun q=>e3 (congrArg V.int q)) (fun q=>e2 (congrArg V.int q))⟩⟩)⟩
 | halfDown=>
   have k3:t=3 ->Q (.bl true) H:=fun e=>by subst e;exact k
   have k2:V.int t=V.int 2 ->Q (.bl false) H:=fun e=>by cases e;exact k
   have k1:¬t=3 ->¬t=2 ->Q (.bl false) H:=fun a b=>by
     have e:t=1:=by omega
     subst e;exact k
   exact⟨_,rfl,rfl,_,rfl,G9 (nW (y:= .halfDown) (z:= .halfUp) (by decide)) ⟨_,rfl,rfl,_,rfl,A0q rfl (Z0 ⟨_,rfl,rfl,_,rfl,V0 (fun e3=>k3 (by injection e3)) fun e3=>⟨_,rfl,rfl,_,rfl,V0 (fun e2=>⟨_,rfl,rfl,_,rfl,G9 (nW (y:= .halfDown) (z:= .halfUp) (by decide)) ⟨_,rfl,rfl,_,rfl,G9 (nW (y:= .halfDown) (z:= .halfEven) (by decide)) (k2 e2)⟩⟩) fun e2=>k1 (fun q=>e3 (congrArg V.int q)) (fun q=>e2 (congrArg V.int q))⟩⟩)⟩⟩
 | halfEven=>
   have k3:t=3 ->Q (.bl true) H:=fun e=>by subst e;exact k
   have k2:V.int t=V.int 2 ->Q (.bl (decide (V.int (l % 2)=V.int 1))) H:=fun e=>by cases e;exact k
   have k1:¬t=3 ->¬t=2 ->Q (.bl false) H:=fun a b=>by
     have e:t=1:=by omega
     subst e;exact k
   exact⟨_,rfl,rfl,_,rfl,G9 (nW (y:= .halfEven) (z:= .halfUp) (by decide)) ⟨_,rfl,rfl,_,rfl,G9 (nW (y:= .halfEven) (z:= .halfDown) (by decide)) ⟨_,rfl,rfl,_,rfl,A0q rfl ⟨_,rfl,rfl,_,rfl,V0 (fun e3=>k3 (by injection e3)) fun e3=>⟨_,rfl,rfl,_,rfl,V0 (fun e2=>⟨_,rfl,rfl,_,rfl,G9 (nW (y:= .halfEven) (z:= .halfUp) (by decide)) ⟨_,rfl,rfl,_,rfl,A0q rfl ⟨_,rfl,_,_,rfl,rfl,(by decide:(0:Int)<2),rfl,k2 e2⟩⟩⟩) fun e2=>k1 (fun q=>e3 (congrArg V.int q)) (fun q=>e2 (congrArg V.int q))⟩⟩⟩⟩⟩
 | fiveUp=>
   have e5:∀a b:Int,eqV (.int a) (.int b)=decide (V.int b=V.int a):=fun a b=>by
     rw[dI]
     show(a==b)=_
     by_cases h:a=b
     . subst h;simp
     . rw[decide_eq_false (Ne.symm h)];simpa using h
   have k:Q (.bl (eqV (.int 0) (.int l)||(eqV (.int 5) (.int l)||false))) H:=k
   rw[e5,e5,Bool.or_false] at k
   have k0:l=0 ->Q (.bl true) H:=fun e=>by rw[decide_eq_true (congrArg V.int e)] at k;exact k
   have k5:¬l=0 ->Q (.bl (decide (V.int l=V.int 5))) H:=fun e=>by rw[decide_eq_false (fun q=>e (by injection q):¬V.int l=V.int 0)] at k;exact k
   exact⟨_,rfl,rfl,_,rfl,G9 (nW (y:= .fiveUp) (z:= .halfUp) (by decide)) ⟨_,rfl,rfl,_,rfl,G9 (nW (y:= .fiveUp) (z:= .halfDown) (by decide)) ⟨_,rfl,rfl,_,rfl,G9 (nW (y:= .fiveUp) (z:= .halfEven) (by decide)) ⟨_,rfl,rfl,_,rfl,A0q rfl ⟨_,rfl,rfl,_,rfl,V0 (fun e=>k0 (by injection e)) fun e=>⟨_,rfl,rfl,k5 (fun q=>e (congrArg V.int q))⟩⟩⟩⟩⟩⟩
def A5b (H:Hp) (q:Addr) (x:Nm) (zs:List Str):Prop:=∃t l,H q=some (.tup [.ref t,.ref l])/\H t=some (.tup x.vs)/\H l=some (.lst (zs.map V.str))
theorem A5b.same{H H':Hp}{q:Addr}{x:Nm}{zs:List Str}(h:A5b H q x zs)(s:A8 H H'):A5b H' q x zs:=by
 obtain⟨t,l,h1,h2,h3⟩:=h
 exact⟨t,l,s _ _ h1,s _ _ h2,s _ _ h3⟩
def C0a:Sp:=fun vs H Q _=>∃rt v,∃s:Int,vs=[.ref rt,.int s]/\H rt=some (.tup (Cv.tup v))/\v.Ok/\0<=s/\s<=1/\∀q H',A8 H H' ->A5b H' q (A8x v s) Q37 ->Q (.ref q) H'
theorem scLBurst:B8 Q56 Q40 (A6 A7s):=scK
theorem C8k(D:Def K mg "_law_burst" Q40 A7s f fd)(dA:Def K mg "_law_ten" ["_law_count"] A7x f1 fd1)(dB:sI P w K mg base 1 f1 fd1 ["_law_count"] A6g):sI P w K mg base 2 f fd Q40 C0a:=by
 refine G6.up (D.F.ok scLBurst (fun vs H Q E h=>?_) (fun cdv A outer s H vs Q E hr h=>?_))
 . obtain⟨rt,v,sg,rfl,_⟩:=h
   rfl
 obtain⟨rt,v,sg,rfl,hrt,ok,s0,s1,k⟩:=h
 have hx:Y1 (A2p CX0 P w K mg base Q56 "_law_burst" (A6 A7s) f cdv A outer s H E).nox EKF:=A1u
 refine⟨_,(A5 (A9 (A2m (pv 0) (A1w rfl (D9 (D4 (i:=2) scLBurst.nd rfl (Or.inl rfl)) (D9 (D4 (i:=3) scLBurst.nd rfl (Or.inl rfl)) (D9 (D4 (i:=4) scLBurst.nd rfl (Or.inl rfl)) (D9 (D4 (i:=5) scLBurst.nd rfl (Or.inl rfl)) A0d))))))) (A5 (A9 (D5 (i:=6) scLBurst.nd rfl (Or.inl rfl) (U0 (A0 C7 (A0 C7 (A0 C7 A3)))))) (A5 (A9 (J1 (PW.pt (A6a (C8 G8 (pv 3) C7 (C6 _)) (A6a (C8 G8 (pv 3) C7 (C6 _)) (A6a (PW.pt (A2q (C8 G8 (pv 3) C7 (C6 _)) (A1q (C8 G8 (pv 1) A2 (C6 _))))) (A8f (PW.pt (A2q (C8 G8 (pv 3) C7 (C6 _)) (A1q (C8 G8 (pv 1) A2 (C6 _)))))))))) (A7 (B5 (U7 (A0 (U7 (A0 C7 (A0 (pv 1) (A0 (B7 Y2 (V5 dA dB hr hx (A0 (pv 2) A3)) A2) (A0 (B7 V1 (B7 Y2 (pv 5) (pv 2)) A2) A3))))) (A0 (pv 6) A3))))) D6)) (A7 (B5 (U7 (A0 (U7 (A0 C7 (A0 (pv 1) (A0 A2 (A0 A2 A3))))) (A0 (pv 6) A3)))))))),?_⟩
 have z2:2<=sizeLine:=C9 (by decide)
 have z3:3<=sizeLine:=C9 (by decide)
 have z4:4<=sizeLine:=C9 (by decide)
 have r1:=ok.r1;have r2:=ok.r2
 let I_:L2.St ->L2.Hp ->Prop:=fun σ' H'=>H'=H/\σ'=[sr rt,si sg,si v.r,sR v.y.name,si v.l,si v.m,none]
 refine⟨I_,?_,?_⟩
 . exact⟨_,rfl,rt,_,rfl,SqT.of hrt,rfl,_,_,rfl,_,_,rfl,_,_,rfl,_,_,rfl,rfl,rfl,rfl⟩
 rintro σ' H1 ⟨rfl,rfl⟩
 clear I_
 refine⟨fun σ' H'=>∃l,A8 H1 H'/\H' l=some (.lst [.str "burst",.str "off",.str "cut"])/\σ'=[sr rt,si sg,si v.r,sR v.y.name,si v.l,si v.m,sr l],?_,?_⟩
 . exact⟨z3,fun l nl=>⟨l,A8.upd nl,A4,rfl⟩⟩
 refine L2.hideG fun Z_ z_=>?_
 rintro σ' H2 ⟨l,t2,hl,rfl⟩
 subst z_
 let I_:L2.St ->L2.Hp ->Prop:=fun σ' H'=>H'=H2/\v.y.toEnd sg=true/\σ'=[sr rt,si sg,si v.r,sR v.y.name,si v.l,si v.m,sr l]
 refine⟨I_,?_,?_⟩
 . have nines:v.y.toEnd sg=false ->∀t q,H2 t=none ->upd H2 t (.tup (Nm.vs ⟨.plain,sg,B0 v.r-1,v.m-v.r+1⟩)) q=none ->Q (.ref q) (upd (upd H2 t (.tup (Nm.vs ⟨.plain,sg,B0 v.r-1,v.m-v.r+1⟩))) q (.tup [.ref t,.ref l])):=fun e t q nt nq=>by
     have u1:=A8.upd (o:= .tup (Nm.vs ⟨.plain,sg,B0 v.r-1,v.m-v.r+1⟩)) nt
     have u2:=A8.upd (o:= .tup [.ref t,.ref l]) nq
     refine k q _ (t2.trans (u1.trans u2)) ⟨t,l,A4,?_,(u1.trans u2) _ _ hl⟩
     unfold A8x
     rw[e,if_neg Bool.false_ne_true]
     exact u2 _ _ A4
   obtain⟨vr,vy,vl,vm⟩:=v
   have r1:1<=vr:=ok.r1
   have r2:vr<=24:=ok.r2
   cases vy with
   | down=>
     have nines:=nines rfl
     exact⟨_,rfl,rfl,_,rfl,A0q rfl (Z0 ⟨_,rfl,_,rfl,vr.toNat,(by rw[Int.toNat_of_nonneg (by omega)];rfl),by omega,_,_,rfl,rfl,_,rfl,_,rfl,_,_,rfl,rfl,_,_,rfl,rfl,z4,fun t nt=>⟨_,rfl,z2,fun q nq=>nines t q nt nq⟩⟩)⟩
   |up=>exact⟨_,rfl,rfl,_,rfl,G9 (nW (y:= .up) (z:= .down) (by decide)) ⟨_,rfl,rfl,_,rfl,G9 (nW (y:= .up) (z:= .fiveUp) (by decide)) ⟨_,rfl,rfl,_,rfl,G9 (nW (y:= .up) (z:= .floor) (by decide)) (Y3 ⟨_,rfl,rfl,_,rfl,G9 (nW (y:= .up) (z:= .ceiling) (by decide)) (Y3 ⟨rfl,rfl,rfl⟩)⟩)⟩⟩⟩
   | floor=>
     rcases(by omega:sg=0\/sg=1) with rfl|rfl
     . have nines:=nines (show decide (V.int 0=V.int 1)=false by decide+kernel)
       exact⟨_,rfl,rfl,_,rfl,G9 (nW (y:= .floor) (z:= .down) (by decide)) ⟨_,rfl,rfl,_,rfl,G9 (nW (y:= .floor) (z:= .fiveUp) (by decide)) ⟨_,rfl,rfl,_,rfl,A0q rfl ⟨_,rfl,rfl,_,rfl,A0q rfl (Z0 ⟨_,rfl,_,rfl,vr.toNat,(by rw[Int.toNat_of_nonneg (by omega)];rfl),by omega,_,_,rfl,rfl,_,rfl,_,rfl,_,_,rfl,rfl,_,_,rfl,rfl,z4,fun t nt=>⟨_,rfl,z2,fun q nq=>nines t q nt nq⟩⟩)⟩⟩⟩⟩
     . exact⟨_,rfl,rfl,_,rfl,G9 (nW (y:= .floor) (z:= .down) (by decide)) ⟨_,rfl,rfl,_,rfl,G9 (nW (y:= .floor) (z:= .fiveUp) (by decide)) ⟨_,rfl,rfl,_,rfl,A0q rfl ⟨_,rfl,rfl,_,rfl,G9 (by decide) ⟨_,rfl,rfl,_,rfl,G9 (nW (y:= .floor) (z:= .ceiling) (by decide)) (Y3 ⟨rfl,(show decide (V.int 1=V.int 1)=true by decide+kernel),rfl⟩)⟩⟩⟩⟩⟩
   | ceiling=>
     rcases(by omega:sg=1\/sg=0) with rfl|rfl
     . have nines:=nines (show decide (V.int 1=V.int 0)=false by decide+kernel)
       exact⟨_,rfl,rfl,_,rfl,G9 (nW (y:= .ceiling) (z:= .down) (by decide)) ⟨_,rfl,rfl,_,rfl,G9 (nW (y:= .ceiling) (z:= .fiveUp) (by decide)) ⟨_,rfl,rfl,_,rfl,G9 (nW (y:= .ceiling) (z:= .floor) (by decide)) (Y3 ⟨_,rfl,rfl,_,rfl,A0q rfl ⟨_,rfl,rfl,_,rfl,A0q rfl ⟨_,rfl,_,rfl,vr.toNat,(by rw[Int.toNat_of_nonneg (by omega)];rfl),by omega,_,_,rfl,rfl,_,rfl,_,rfl,_,_,rfl,rfl,_,_,rfl,rfl,z4,fun t nt=>⟨_,rfl,z2,fun q nq=>nines t q nt nq⟩⟩⟩⟩)⟩⟩⟩
     . exact⟨_,rfl,rfl,_,rfl,G9 (nW (y:= .ceiling) (z:= .down) (by decide)) ⟨_,rfl,rfl,_,rfl,G9 (nW (y:= .ceiling) (z:= .fiveUp) (by decide)) ⟨_,rfl,rfl,_,rfl,G9 (nW (y:= .ceiling) (z:= .floor) (by decide)) (Y3 ⟨_,rfl,rfl,_,rfl,A0q rfl ⟨_,rfl,rfl,_,rfl,G9 (by decide) ⟨rfl,(show decide (V.int 0=V.int 0)=true by decide+kernel),rfl⟩⟩⟩)⟩⟩⟩
   |halfUp=>exact⟨_,rfl,rfl,_,rfl,G9 (nW (y:= .halfUp) (z:= .down) (by decide)) ⟨_,rfl,rfl,_,rfl,G9 (nW (y:= .halfUp) (z:= .fiveUp) (by decide)) ⟨_,rfl,rfl,_,rfl,G9 (nW (y:= .halfUp) (z:= .floor) (by decide)) (Y3 ⟨_,rfl,rfl,_,rfl,G9 (nW (y:= .halfUp) (z:= .ceiling) (by decide)) (Y3 ⟨rfl,rfl,rfl⟩)⟩)⟩⟩⟩
   |halfDown=>exact⟨_,rfl,rfl,_,rfl,G9 (nW (y:= .halfDown) (z:= .down) (by decide)) ⟨_,rfl,rfl,_,rfl,G9 (nW (y:= .halfDown) (z:= .fiveUp) (by decide)) ⟨_,rfl,rfl,_,rfl,G9 (nW (y:= .halfDown) (z:= .floor) (by decide)) (Y3 ⟨_,rfl,rfl,_,rfl,G9 (nW (y:= .halfDown) (z:= .ceiling) (by decide)) (Y3 ⟨rfl,rfl,rfl⟩)⟩)⟩⟩⟩
   |halfEven=>exact⟨_,rfl,rfl,_,rfl,G9 (nW (y:= .halfEven) (z:= .down) (by decide)) ⟨_,rfl,rfl,_,rfl,G9 (nW (y:= .halfEven) (z:= .fiveUp) (by decide)) ⟨_,rfl,rfl,_,rfl,G9 (nW (y:= .halfEven) (z:= .floor) (by decide)) (Y3 ⟨_,rfl,rfl,_,rfl,G9 (nW (y:= .halfEven) (z:= .ceiling) (by decide)) (Y3 ⟨rfl,rfl,rfl⟩)⟩)⟩⟩⟩
   | fiveUp=>
     have nines:=nines rfl
     exact⟨_,rfl,rfl,_,rfl,G9 (nW (y:= .fiveUp) (z:= .down) (by decide)) ⟨_,rfl,rfl,_,rfl,A0q rfl (Z0 ⟨_,rfl,_,rfl,vr.toNat,(by rw[Int.toNat_of_nonneg (by omega)];rfl),by omega,_,_,rfl,rfl,_,rfl,_,rfl,_,_,rfl,rfl,_,_,rfl,rfl,z4,fun t nt=>⟨_,rfl,z2,fun q nq=>nines t q nt nq⟩⟩)⟩⟩
 refine L2.hideG fun Z_ z_=>?_
 rintro σ' H3 ⟨rfl,e,rfl⟩
 subst z_
 clear I_
 refine⟨_,rfl,z4,fun t nt=>⟨_,rfl,z2,fun q nq=>?_⟩⟩
 have u1:=A8.upd (o:= .tup (Nm.vs ⟨.end_,sg,0,0⟩)) nt
 have u2:=A8.upd (o:= .tup [.ref t,.ref l]) nq
 refine k q _ (t2.trans (u1.trans u2)) ⟨t,l,A4,?_,(u1.trans u2) _ _ hl⟩
 unfold A8x
 rw[e,if_pos rfl]
 exact u2 _ _ A4
def B4j:Sp:=fun vs H Q _=>∃rt v,∃s i:Int,vs=[.ref rt,.int s,.int i]/\H rt=some (.tup (Cv.tup v))/\v.Ok/\∀q H',A8 H H' ->A5b H' q ⟨.plain,s,0,D0e (B0b i (v.l-v.r+1)) v.m⟩ [] ->Q (.ref q) H'
theorem scLNought:B8 ["_law_rules_here","_law_sign","_law_ideal","_law_room","_law_way","_law_least","_law_most"] Q41 (A6 A6z):=scK
theorem C7j{v:Cv}(ok:v.Ok)(i:Int):(if(if i<v.m then i else v.m)>v.l-v.r+1 then(if i<v.m then i else v.m) else v.l-v.r+1)=D0e (B0b i (v.l-v.r+1)) v.m:=by
 have:=ok.r1;have:=ok.l2;have:=ok.m1
 unfold D0e B0b
 repeat' split
 all_goals omega
theorem C2b(D:Def K mg "_law_nought" Q41 A6z f fd)(O:Own mg):sI P w K mg base 1 f fd Q41 B4j:=by
 refine G6.up (D.F.ok scLNought (fun vs H Q E h=>?_) (fun cdv A outer s H vs Q E hr h=>?_))
 . obtain⟨rt,v,sg,i,rfl,_⟩:=h
   rfl
 obtain⟨rt,v,sg,i,rfl,hrt,ok,k⟩:=h
 refine⟨_,(A5 (A2m (pv 0) (A1w rfl (D9 (D4 (i:=3) scLNought.nd rfl (Or.inl rfl)) (D9 (D4 (i:=4) scLNought.nd rfl (Or.inl rfl)) (D9 (D4 (i:=5) scLNought.nd rfl (Or.inl rfl)) (D9 (D4 (i:=6) scLNought.nd rfl (Or.inl rfl)) A0d)))))) (A7 (B5 (U7 (A0 (U7 (A0 C7 (A0 (pv 1) (A0 A2 (A0 (V7 (B5c rfl) (by rfl) O.max_ boot_max (A0 (B7 V1 (B7 Y2 (pv 5) (pv 3)) A2) (A0 (V7 (B4k rfl) (by rfl) O.min_ boot_min (A0 (pv 6) (A0 (pv 2) A3))) A3))) A3))))) (A0 (U0 A3) A3)))))),?_⟩
 have z0:0<=sizeLine:=Nat.zero_le _
 have z2:2<=sizeLine:=C9 (by decide)
 have z4:4<=sizeLine:=C9 (by decide)
 refine⟨_,rfl,rt,_,rfl,SqT.of hrt,rfl,_,_,rfl,_,_,rfl,_,_,rfl,_,_,rfl,rfl,?_⟩
 refine⟨_,rfl,_,rfl,_,rfl,_,_,rfl,rfl,_,_,rfl,rfl,_,rfl,_,rfl,_,_,rfl,_,_,rfl,z4,fun t nt=>⟨z0,fun l nl=>⟨z2,fun q nq=>?_⟩⟩⟩
 have u2:=A8.upd (o:= .lst []) nl
 have u3:=A8.upd (o:= .tup [.ref t,.ref l]) nq
 refine k q _ ((A8.upd nt).trans (u2.trans u3)) ⟨t,l,A4,?_,u3 _ _ A4⟩
 refine(u2.trans u3) _ _ ?_
 rw[A4]
 show some (HO.tup [.str "plain",.int sg,.int 0,.int (if(if i<v.m then i else v.m)>v.l-v.r+1 then(if i<v.m then i else v.m) else v.l-v.r+1)])=_
 rw[C7j ok]
 rfl
theorem C1v(x:Str)(b:Bool):(List.replicate (if b=true then(1:Int) else 0).toNat [V.str x]).flatten=(A4f x b).map V.str:=by cases b<;>rfl
theorem A5p(x:Str)(b:Bool):(A4f x b).length<=1:=by cases b<;>simp[A4f]
theorem G4m{y:Wy}{s f pt:Int}(h:¬pt=0):f+(if y.goes s (f % 10) pt=true then 1 else 0)=upI y s f pt:=by
 unfold upI
 rw[if_neg h]
 cases y.goes s (f % 10) pt with
 |true=>rfl
 |false=>rw[if_neg Bool.false_ne_true,if_neg Bool.false_ne_true,Int.add_zero]
theorem D3e{l L pt:Int}{cut:Bool}(h:¬pt=0)(z:Str):z∈A4f "sunk" (decide (L<l))++A4f "faint" (decide (L<l))++(["off","cut"]:List Str)↔z∈A0u pt cut++A0v l L pt:=by
 unfold A0u A0v A4f
 rw[if_neg h]
 by_cases q:L<l
 . rw[if_neg (by omega:¬L>=l),decide_eq_true q,if_neg h]
   simp only[if_true,List.mem_append,List.mem_cons,List.not_mem_nil,or_false]
   constructor
   . rintro((a|a)|a|a)
     . exact .inr (.inl a)
     . exact .inr (.inr a)
     . exact .inl (.inl a)
     . exact .inl (.inr a)
   . rintro((a|a)|a|a)
     . exact .inr (.inl a)
     . exact .inr (.inr a)
     . exact .inl (.inl a)
     . exact .inl (.inr a)
 rw[if_pos (by omega:L>=l),decide_eq_false q]
 simp
theorem G0r{l L:Int}{cut:Bool}(z:Str):z∈A4f "faint" (decide (L<l))++A4f "cut" cut↔z∈A0u 0 cut++A0v l L 0:=by
 unfold A0u A0v A4f
 by_cases q:L<l
 . rw[if_neg (by omega:¬L>=l),decide_eq_true q]
   cases cut<;>simp[or_comm]
 rw[if_pos (by omega:L>=l),decide_eq_false q]
 cases cut<;>simp
def A9v:Sp:=fun vs H Q _=>∃rt v,∃s f p pt i L:Int,vs=[.ref rt,.int s,.int f,.int p,.int pt,.bl (decide (L<v.l)),.int i]/\H rt=some (.tup (Cv.tup v))/\v.Ok/\0<=s/\s<=1/\0<=f/\f<B0 v.r/\0<=pt/\pt<=3/\
 ∀q zs H',A8 H H' ->A5b H' q (A5r v s f pt L p i).1 zs ->(∀z,z∈zs↔z∈(A5r v s f pt L p i).2) ->Q (.ref q) H'
noncomputable abbrev J1g:List Str:=["_law_rules_here","_law_sign","_law_figures","_law_power","_law_part","_law_is_faint","_law_ideal","_law_room","_law_way","_law_least","_law_most","_law_raised"]
theorem scLFinished:B8 J1g Q42 (A6 A2j):=scK
theorem B7q(D:Def K mg "_law_finished" Q42 A2j f fd)(dA:Def K mg "_law_ten" ["_law_count"] A7x f1 fd1)(dB:sI P w K mg base 1 f1 fd1 ["_law_count"] A6g)
   (dC:Def K mg "_law_goes_up" Q32 B6f f2 fd2) (dD:sI P w K mg base 1 f2 fd2 Q32 C4b) (dE:Def K mg "_law_burst" Q40 A7s f3 fd3) (dF:sI P w K mg base 2 f3 fd3 Q40 C0a) (O:Own mg):
   sI P w K mg base 3 f fd Q42 A9v:=by
 refine G6.up (D.F.ok scLFinished (fun vs H Q E h=>?_) (fun cdv A outer s H vs Q E hr h=>?_))
 . obtain⟨rt,v,sg,fg,pw,pt,i,L,rfl,_⟩:=h
   rfl
 obtain⟨rt,v,sg,fg,pw,pt,i,L,rfl,hrt,ok,s0,s1,f0,f1,p0,p3,k⟩:=h
 have hx:Y1 (A2p CX0 P w K mg base J1g "_law_finished" (A6 A2j) f cdv A outer s H E).nox EKF:=A1u
 refine⟨_,(A5 (A9 (A2m (pv 0) (A1w rfl (D9 (D4 (i:=7) scLFinished.nd rfl (Or.inl rfl)) (D9 (D4 (i:=8) scLFinished.nd rfl (Or.inl rfl)) (D9 (D4 (i:=9) scLFinished.nd rfl (Or.inl rfl)) (D9 (D4 (i:=10) scLFinished.nd rfl (Or.inl rfl)) A0d))))))) (A5 (A9 (D5 (i:=11) scLFinished.nd rfl (Or.inl rfl) (B7 C2e (U0 (A0 C7 A3)) (V6 A0a (by rfl) O.int_ boot_int (A0 (pv 5) A3))))) (A5 (A9 (J1 (C8 A5y (pv 4) A2 (C6 _)) (A5 (A9 (D5 (i:=11) scLFinished.nd rfl (Or.inl rfl) (B7 B1u (B7 B1u (B7 C2e (U0 (A0 C7 A3)) (V6 A0a (by rfl) O.int_ boot_int (A0 (pv 5) A3))) (pv 11)) (U0 (A0 C7 (A0 C7 A3)))))) (A5 (A9 (D5 (i:=2) scLFinished.nd rfl (Or.inl rfl) (B7 V1 (pv 2) (V6 A0a (by rfl) O.int_ boot_int (A0 (V5 dC dD hr hx (A0 (pv 8) (A0 (pv 1) (A0 (B7 V2 (pv 2) A2) (A0 (pv 4) A3))))) A3))))) (A7 (A9 (J1 (C8 G8 (pv 2) (V5 dA dB hr hx (A0 (pv 7) A3)) (C6 _)) (A5 (A9 (D5 (i:=2) scLFinished.nd rfl (Or.inl rfl) (B7 U1 (pv 2) A2))) (A7 (A9 (D5 (i:=3) scLFinished.nd rfl (Or.inl rfl) (B7 V1 (pv 3) A2))))) D6))))) (A5 (A9 (A7r PassesOwn.never (PW.pt (A2q (C8 A2t (pv 3) (pv 6) (C6 _)) (A1q (C8 G8 (B7 V2 (pv 2) A2) A2 (C6 _))))) (A5 (A9 (D5 (i:=2) scLFinished.nd rfl (Or.inl rfl) (B7 U1 (pv 2) A2))) (A7 (A9 (D5 (i:=3) scLFinished.nd rfl (Or.inl rfl) (B7 V1 (pv 3) A2))))))) (A7 (A9 (D5 (i:=11) scLFinished.nd rfl (Or.inl rfl) (B7 B1u (pv 11) (B7 C2e (U0 (A0 C7 A3)) (V6 A0a (by rfl) O.int_ boot_int (A0 (G5 A5y (pv 3) (pv 6) (C6 _)) A3)))))))))) (A5 (A9 (J1 (PW.pt (A2q (C8 A5y (pv 2) A2 (C6 _)) (A1q (C8 A5y (B7 Y2 (B7 V1 (pv 3) (V7 A2d (by rfl) O.len_ PySem.boot_len (A0 (V6 A7c (by rfl) O.str_ boot_str (A0 (pv 2) A3)) A3))) A2) (pv 10) (C6 _))))) (A7 (B5 (V5 dE dF hr hx (A0 (pv 0) (A0 (pv 1) A3))))) D6)) (A7 (B5 (U7 (A0 (U7 (A0 C7 (A0 (pv 1) (A0 (pv 2) (A0 (pv 3) A3))))) (A0 (pv 11) A3))))))))),?_⟩
 have z1:1<=sizeLine:=C9 (by decide)
 have z2:2<=sizeLine:=C9 (by decide)
 have z4:4<=sizeLine:=C9 (by decide)
 have d10:(0:Int)<10/\(10:Int).natAbs.log2<9000:=⟨by decide,by decide+kernel⟩
 have r1:=ok.r1;have r2:=ok.r2
 have kb:∀b:Bool, -(2^63:Int)<=(if b=true then(1:Int) else 0)/\(if b=true then(1:Int) else 0)<2^63/\1*(if b=true then(1:Int) else 0).toNat<=sizeLine:=fun b=>by
   cases b
   . exact⟨by decide,by decide,Nat.zero_le _⟩
   . exact⟨by decide,by decide,z1⟩
 generalize hft:decide (L<v.l)=ft
 refine⟨fun σ' H'=>H'=H/\σ'=[sr rt,si sg,si fg,si pw,si pt,some (.bl ft),si i,si v.r,sR v.y.name,si v.l,si v.m,none],?_,?_⟩
 . exact⟨_,rfl,rt,_,rfl,SqT.of hrt,rfl,_,_,rfl,_,_,rfl,_,_,rfl,_,_,rfl,rfl,rfl,rfl⟩
 rintro σ' H1 ⟨rfl,rfl⟩
 refine⟨fun σ' H'=>∃l,A8 H1 H'/\H' l=some (.lst ((A4f "faint" ft).map V.str))/\σ'=[sr rt,si sg,si fg,si pw,si pt,some (.bl ft),si i,si v.r,sR v.y.name,si v.l,si v.m,sr l],?_,?_⟩
 . refine⟨z1,fun l1 n1=>⟨_,rfl,.inr ⟨_,rfl,l1,_,_,rfl,rfl,A4,(kb ft).1,(kb ft).2.1,(kb ft).2.2,fun l2 n2=>?_⟩⟩⟩
   rw[C1v]
   exact⟨l2,(A8.upd n1).trans (A8.upd n2),A4,rfl⟩
 refine L2.hideG fun Z_ z_=>?_
 rintro σ' H2 ⟨l,t2,hl,rfl⟩
 subst z_
 refine⟨fun σ' H'=>∃l,∃zs:List Str,A8 H1 H'/\H' l=some (.lst (zs.map V.str))/\(∀z,z∈zs↔z∈A0u pt (decide ((A0n v sg fg pt pw i).2>i))++A0v v.l L pt)/\σ'=[sr rt,si sg,si ((A0n v sg fg pt pw i).1),si ((A0n v sg fg pt pw i).2),si pt,some (.bl ft),si i,si v.r,sR v.y.name,si v.l,si v.m,sr l],?_,?_⟩
 . refine ⟨_,rfl,_,_,rfl,rfl,_,rfl,V0 (fun hp=>?_) (fun hp=>?_)⟩
   . have hp:¬pt=0:=by
       have:pt>0:=hp
       omega
     refine⟨fun σ' H'=>∃l,A8 H1 H'/\H' l=some (.lst ((A4f "sunk" ft++A4f "faint" ft++(["off","cut"]:List Str)).map V.str))/\σ'=[sr rt,si sg,si fg,si pw,si pt,some (.bl ft),si i,si v.r,sR v.y.name,si v.l,si v.m,sr l],?_,?_⟩
     . refine⟨z1,fun l1 n1=>⟨_,rfl,.inr ⟨_,rfl,l1,_,_,rfl,rfl,A4,(kb ft).1,(kb ft).2.1,(kb ft).2.2,fun l2 n2=>?_⟩⟩⟩
       rw[C1v]
       have u1:=A8.upd (o:= .lst [.str "sunk"]) n1
       have u2:=A8.upd (o:= .lst ((A4f "sunk" ft).map V.str)) n2
       have q1:=A5p "sunk" ft
       have q2:=A5p "faint" ft
       refine⟨_,rfl,l2,l,_,_,rfl,rfl,A4,(u1.trans u2) _ _ hl,C9 (by rw[List.length_map,List.length_map];omega),fun l3 n3=>⟨z2,fun l4 n4=>?_⟩⟩
       have u3:=A8.upd (o:= .lst ((A4f "sunk" ft).map V.str++(A4f "faint" ft).map V.str)) n3
       have u4:=A8.upd (o:= .lst [.str "off",.str "cut"]) n4
       refine⟨l3,l4,_,_,rfl,rfl,u4 _ _ A4,A4,C9 (by rw[List.length_append,List.length_map,List.length_map];show _+2<=_;omega),fun l5 n5=>?_⟩
       refine⟨l5,t2.trans ((u1.trans u2).trans ((u3.trans u4).trans (A8.upd n5))),?_,rfl⟩
       rw[A4,List.map_append,List.map_append]
       rfl
     refine L2.hideG fun Z_ z_=>?_
     rintro σ' H3 ⟨l,t3,hl,rfl⟩
     subst z_
     refine⟨fun σ' H'=>H'=H3/\σ'=[sr rt,si sg,si (upI v.y sg fg pt),si pw,si pt,some (.bl ft),si i,si v.r,sR v.y.name,si v.l,si v.m,sr l],?_,?_⟩
     . refine⟨_,rfl,_,rfl,_,rfl,_,rfl,_,_,rfl,rfl,d10.1,_,rfl,v.y,sg,fg % 10,pt,rfl,by omega,p3,.inr ⟨_,rfl,_,_,rfl,rfl,rfl,?_⟩⟩
       rw[<-G4m hp]
       rfl
     rintro σ' H4 ⟨rfl,rfl⟩
     generalize hu:upI v.y sg fg pt=u
     have en:A0n v sg fg pt pw i=A4j v.r u pw:=by unfold A0n;rw[if_neg hp,hu]
     rw[en]
     unfold A4j
     refine⟨fun σ' H'=>H'=H4/\σ'=[sr rt,si sg,si ((A4j v.r u pw).1),si ((A4j v.r u pw).2),si pt,some (.bl ft),si i,si v.r,sR v.y.name,si v.l,si v.m,sr l],?_,?_⟩
     . unfold A4j
       refine⟨_,rfl,_,rfl,v.r.toNat,(by rw[Int.toNat_of_nonneg (by omega)];rfl),by omega,rfl,_,rfl,V0 (fun e=>?_) (fun e=>?_)⟩
       . have e:u=B0 v.r:=by injection e
         rw[if_pos e]
         refine⟨fun σ' H'=>H'=H4/\σ'=[sr rt,si sg,si (u/10),si pw,si pt,some (.bl ft),si i,si v.r,sR v.y.name,si v.l,si v.m,sr l],⟨_,rfl,_,_,rfl,rfl,d10,rfl,rfl⟩,?_⟩
         rintro σ' H5 ⟨rfl,rfl⟩
         exact⟨fun σ' H'=>H'=H5/\σ'=[sr rt,si sg,si (u/10),si (pw+1),si pt,some (.bl ft),si i,si v.r,sR v.y.name,si v.l,si v.m,sr l],⟨_,rfl,_,_,rfl,rfl,rfl,rfl⟩,fun _ _ h=>h⟩
       . have e:¬u=B0 v.r:=fun z=>e (congrArg V.int z)
         rw[if_neg e]
         exact⟨rfl,rfl⟩
     rintro σ' H5 ⟨rfl,rfl⟩
     exact⟨l,_,t3,hl,fun z=>by rw[<-hft];exact D3e hp z,rfl⟩
   . have hp:pt=0:=by
       have:¬pt>0:=hp
       omega
     subst hp
     have en:A0n v sg fg 0 pw i=A0h i fg pw:=rfl
     rw[en]
     refine⟨fun σ' H'=>H'=H2/\σ'=[sr rt,si sg,si ((A0h i fg pw).1),si ((A0h i fg pw).2),si 0,some (.bl ft),si i,si v.r,sR v.y.name,si v.l,si v.m,sr l],?_,?_⟩
     . refine A7p (fun σ H3=>H3=H2/\∃f p:Int,A0h i f p=A0h i fg pw/\σ=[sr rt,si sg,si f,si p,si 0,some (.bl ft),si i,si v.r,sR v.y.name,si v.l,si v.m,sr l]) (fun σ _=>match σ with|_::_::_::some (.int p)::_=>(i-p).toNat|_=>0) ?_ ?_ ?_
       . exact⟨rfl,fg,pw,rfl,rfl⟩
       . rintro σ H3 ⟨rfl,f,p,e,rfl⟩
         have stop:¬(p<i/\f % 10=0) ->(f,p)=A0h i fg pw:=fun h=>by rw[<-e,B2y h]
         refine⟨_,rfl,_,rfl,_,_,rfl,rfl,_,rfl,V0 (fun h1=>?_) (fun h1=>Y3 ⟨rfl,by rw[<-stop fun q=>h1 q.1]⟩)⟩
         refine⟨_,rfl,_,_,rfl,rfl,d10.1,rfl,_,rfl,V0 (fun h2=>?_) (fun h2=>⟨rfl,by rw[<-stop fun q=>h2 (congrArg V.int q.2)]⟩)⟩
         have h1:p<i:=h1
         have h2:f % 10=0:=by injection h2
         refine⟨fun σ' H'=>H'=H3/\σ'=[sr rt,si sg,si (f/10),si p,si 0,some (.bl ft),si i,si v.r,sR v.y.name,si v.l,si v.m,sr l],⟨_,rfl,_,_,rfl,rfl,d10,rfl,rfl⟩,?_⟩
         rintro σ' H4 ⟨rfl,rfl⟩
         refine⟨fun σ' H'=>H'=H4/\σ'=[sr rt,si sg,si (f/10),si (p+1),si 0,some (.bl ft),si i,si v.r,sR v.y.name,si v.l,si v.m,sr l],⟨_,rfl,_,_,rfl,rfl,rfl,rfl⟩,?_⟩
         rintro σ' H5 ⟨rfl,rfl⟩
         refine⟨⟨rfl,f/10,p+1,(B1p h1 h2).symm.trans e,rfl⟩,?_⟩
         show(i-(p+1)).toNat<(i-p).toNat
         omega
       . rintro σ H3 Q1 Q2 hQ ⟨v1,e,v2,e2,a,b,e3,e4,c,e5,q⟩
         refine⟨v1,e,v2,e2,a,b,e3,e4,c,e5,?_⟩
         cases c with
         |false=>exact Y3 (hQ _ _ (by simpa using q))
         | true=>
           have q:_:=q
           rw[if_pos rfl] at q ⊢
           obtain⟨v3,e6,a2,b2,e7,e8,e9,e10,e11,e12,q⟩:=q
           exact⟨v3,e6,a2,b2,e7,e8,e9,e10,e11,e12,hQ _ _ q⟩
     rintro σ' H3 ⟨rfl,rfl⟩
     generalize hw:A0h i fg pw=st
     obtain⟨f',p'⟩:=st
     refine⟨fun σ' H'=>∃l,∃zs:List Str,A8 H1 H'/\H' l=some (.lst (zs.map V.str))/\(∀z,z∈zs↔z∈A0u 0 (decide (p'>i))++A0v v.l L 0)/\σ'=[sr rt,si sg,si f',si p',si 0,some (.bl ft),si i,si v.r,sR v.y.name,si v.l,si v.m,sr l],?_,fun _ _ h=>h⟩
     refine⟨_,rfl,z1,fun l1 n1=>⟨_,rfl,_,rfl,_,_,rfl,rfl,.inr ⟨_,rfl,l1,_,_,rfl,rfl,A4,(kb (decide (p'>i))).1,(kb (decide (p'>i))).2.1,(kb (decide (p'>i))).2.2,fun l2 n2=>?_⟩⟩⟩
     rw[C1v]
     have u1:=A8.upd (o:= .lst [.str "cut"]) n1
     have u2:=A8.upd (o:= .lst ((A4f "cut" (decide (p'>i))).map V.str)) n2
     have q1:=A5p "cut" (decide (p'>i))
     have q2:=A5p "faint" ft
     refine⟨l,l2,_,_,rfl,rfl,(u1.trans u2) _ _ hl,A4,C9 (by rw[List.length_map,List.length_map];exact Nat.le_trans (Nat.add_le_add (A5p _ _) (A5p _ _)) (by decide)),fun l3 n3=>?_⟩
     refine⟨l3,A4f "faint" ft++A4f "cut" (decide (p'>i)),t2.trans ((u1.trans u2).trans (A8.upd n3)),by rw[A4,List.map_append],fun z=>by rw[<-hft];exact G0r z,rfl⟩
 refine L2.hideG fun Z_ z_=>?_
 rintro σ' H3 ⟨l,zs,t3,hl,hz,rfl⟩
 subst z_
 have sm:=B1q (s:=sg) (pt:=pt) (q:=pw) (i:=i) ok f0 f1
 have nn:0<=(A0n v sg fg pt pw i).1:=by
   unfold A0n
   split
   . exact(B2h i (i-pw).toNat fg pw f0).1
   . have hu:0<=upI v.y sg fg pt:=by
       unfold upI
       generalize (if pt=0 then false else v.y.goes sg (fg % 10) pt)=g
       cases g with
       |true=>show 0<=fg+1;omega
       |false=>exact f0
     generalize upI v.y sg fg pt=u at hu
     unfold A4j
     split
     . show 0<=u/10;omega
     . exact hu
 unfold A5r at k
 generalize (A0n v sg fg pt pw i).1=f' at*
 generalize (A0n v sg fg pt pw i).2=p' at*
 have lg:f'.natAbs.log2<1920:=Nat.lt_trans (A6d sm (by decide)) (by decide)
 refine⟨fun σ' H'=>H'=H3/\A1z v.m f' p'=false/\σ'=[sr rt,si sg,si f',si p',si pt,some (.bl ft),si i,si v.r,sR v.y.name,si v.l,si v.m,sr l],?_,?_⟩
 . refine⟨_,rfl,_,_,rfl,rfl,_,rfl,V0 (fun h=>?_) (fun h=>Y3 ⟨rfl,?_,rfl⟩)⟩
   . have h:f'>0:=h
     have eb:A1z v.m f' p'=decide (p'+A1j f'-1>v.m):=by unfold A1z;rw[if_neg (by omega)]
     rw[eb] at k
     refine⟨_,rfl,_,rfl,_,rfl,lg,_,rfl,int_text_fits lg,_,_,rfl,rfl,_,_,rfl,rfl,_,rfl,_,_,rfl,rfl,_,rfl,V0 (fun h2=>?_) (fun h2=>⟨rfl,by rw[eb];exact decide_eq_false h2,rfl⟩)⟩
     rw[decide_eq_true (show p'+A1j f'-1>v.m from h2),if_pos rfl] at k
     exact⟨_,rfl,_,rfl,rt,v,sg,rfl,t3 _ _ hrt,ok,s0,s1,fun q H' s' du=>k q _ H' (t3.trans s') du fun z=>Iff.rfl⟩
   . have h:¬f'>0:=h
     unfold A1z
     rw[if_pos (by omega)]
 refine L2.hideG fun Z_ z_=>?_
 rintro σ' H4 ⟨rfl,e,rfl⟩
 subst z_
 rw[e,if_neg Bool.false_ne_true] at k
 refine⟨_,rfl,_,rfl,_,rfl,z4,fun t nt=>⟨_,rfl,z2,fun q nq=>?_⟩⟩
 have u1:=A8.upd (o:= .tup (Nm.vs ⟨.plain,sg,f',p'⟩)) nt
 have u2:=A8.upd (o:= .tup [.ref t,.ref l]) nq
 exact k q zs _ (t3.trans (u1.trans u2)) ⟨t,l,A4,u2 _ _ A4,(u1.trans u2) _ _ hl⟩ hz
theorem D2v(l m:Int):0<=A1h l m/\A1h l m<=3:=by
 unfold A1h
 cases decide (0<l)<;>cases decide (m<=2*l)<;>cases decide (m<2*l)<;>decide
theorem G5s(v:Cv)(L:Int):(if v.l>L then v.l else L)-v.r+1=v.fin L:=by
 unfold Cv.fin B0b
 by_cases h:v.l>L
 . rw[if_pos h,if_pos (by omega)]
 rw[if_neg h,if_neg (by omega)]
def B3a:Sp:=fun vs H Q _=>∃rt v,∃s t b i:Int,vs=[.ref rt,.int s,.int t,.int b,.int i]/\H rt=some (.tup (Cv.tup v))/\v.Ok/\0<=s/\s<=1/\SzL t/\SzL b/\
 ∀L q zs H',A1e t b (0-L) ->A8 H H' ->A5b H' q (A0z v s t b 0 L i).1 zs ->(∀z,z∈zs↔z∈(A0z v s t b 0 L i).2) ->Q (.ref q) H'
noncomputable abbrev G9r:List Str:=["_law_rules_here","_law_sign","_law_top","_law_bottom","_law_ideal","_law_room","_law_way","_law_least","_law_most","_law_lead_here","_law_power","_law_high","_law_low","_law_figures","_law_left","_law_part"]
theorem scLSettled:B8 G9r Q43 (A6 A3e):=scK
theorem C0m(D:Def K mg "_law_settled" Q43 A3e f fd)(dA:Def K mg "_law_lead" Q39 B3c f1 fd1)(dB:sI P w K mg base 3 f1 fd1 Q39 C3q)
   (dC:Def K mg "_law_scaled" Q12 A2n f2 fd2) (dD:sI P w K mg base 2 f2 fd2 Q12 A5n) (dE:Def K mg "_law_finished" Q42 A2j f3 fd3)
   (dF:sI P w K mg base 3 f3 fd3 Q42 A9v) (O:Own mg):sI P w K mg base 4 f fd Q43 B3a:=by
 refine G6.up (D.F.ok scLSettled (fun vs H Q E h=>?_) (fun cdv A outer s H vs Q E hr h=>?_))
 . obtain⟨rt,v,sg,t,b,i,rfl,_⟩:=h
   rfl
 obtain⟨rt,v,sg,t,b,i,rfl,hrt,ok,s0,s1,ht,hb,k⟩:=h
 have hx:Y1 (A2p CX0 P w K mg base G9r "_law_settled" (A6 A3e) f cdv A outer s H E).nox EKF:=A1u
 refine⟨_,(A5 (A9 (A2m (pv 0) (A1w rfl (D9 (D4 (i:=5) scLSettled.nd rfl (Or.inl rfl)) (D9 (D4 (i:=6) scLSettled.nd rfl (Or.inl rfl)) (D9 (D4 (i:=7) scLSettled.nd rfl (Or.inl rfl)) (D9 (D4 (i:=8) scLSettled.nd rfl (Or.inl rfl)) A0d))))))) (A5 (A9 (D5 (i:=9) scLSettled.nd rfl (Or.inl rfl) (V5 dA dB hr hx (A0 (pv 2) (A0 (pv 3) A3))))) (A5 (A9 (D5 (i:=10) scLSettled.nd rfl (Or.inl rfl) (B7 V1 (B7 Y2 (V7 (B5c rfl) (by rfl) O.max_ boot_max (A0 (pv 9) (A0 (pv 7) A3))) (pv 5)) A2))) (A5 (A9 (A2m (V5 dC dD hr hx (A0 (pv 2) (A0 (pv 3) (A0 (B7 Y2 A2 (pv 10)) A3)))) (A1w rfl (D9 (D4 (i:=11) scLSettled.nd rfl (Or.inl rfl)) (D9 (D4 (i:=12) scLSettled.nd rfl (Or.inl rfl)) A0d))))) (A5 (A9 (A2m (V7 B7m (by rfl) O.divmod_ PyProof.Rows.boot_divmod (A0 (pv 11) (A0 (pv 12) A3))) (A1w rfl (D9 (D4 (i:=13) scLSettled.nd rfl (Or.inl rfl)) (D9 (D4 (i:=14) scLSettled.nd rfl (Or.inl rfl)) A0d))))) (A5 (A9 (D5 (i:=15) scLSettled.nd rfl (Or.inl rfl) (B7 V1 (B7 V1 (V6 A0a (by rfl) O.int_ boot_int (A0 (G5 A5y (pv 14) A2 (C6 _)) A3)) (V6 A0a (by rfl) O.int_ boot_int (A0 (G5 C5r (B7 U9 A2 (pv 14)) (pv 12) (C6 _)) A3))) (V6 A0a (by rfl) O.int_ boot_int (A0 (G5 A5y (B7 U9 A2 (pv 14)) (pv 12) (C6 _)) A3))))) (A7 (B5 (V5 dE dF hr hx (A0 (pv 0) (A0 (pv 1) (A0 (pv 13) (A0 (pv 10) (A0 (pv 15) (A0 (G5 A2t (pv 9) (pv 7) (C6 _)) (A0 (pv 4) A3)))))))))))))))),?_⟩
 have mC:∀z n:Int, -(2^64)<n ->n<2^64 ->IntMulOk n z:=fun z n a b=>A3m.ok (.inl ⟨a,b⟩)
 have r1:=ok.r1;have r2:=ok.r2;have l1:=ok.l1;have l2:=ok.l2
 let I_:L2.St ->L2.Hp ->Prop:=fun σ' H'=>H'=H/\σ'=[sr rt,si sg,si t,si b,si i,si v.r,sR v.y.name,si v.l,si v.m,none,none,none,none,none,none,none]
 refine⟨I_,?_,?_⟩
 . exact⟨_,rfl,rt,_,rfl,SqT.of hrt,rfl,_,_,rfl,_,_,rfl,_,_,rfl,_,_,rfl,rfl,rfl,rfl⟩
 rintro σ' H1 ⟨rfl,rfl⟩
 clear I_
 let I_:L2.St ->L2.Hp ->Prop:=fun σ' H'=>∃L,A8 H1 H'/\A1e t b (0-L)/\ -781<=L/\L<=781/\σ'=[sr rt,si sg,si t,si b,si i,si v.r,sR v.y.name,si v.l,si v.m,si L,none,none,none,none,none,none]
 refine⟨I_,?_,?_⟩
 . exact⟨_,rfl,_,rfl,t,b,rfl,ht,hb,fun L H' ld a c s'=>⟨L,s',ld,a,c,rfl⟩⟩
 refine L2.hideG fun Z_ z_=>?_
 rintro σ' H2 ⟨L,t2,ld,La,Lb,rfl⟩
 subst z_
 clear I_
 have fb: -900<=0-v.fin L/\0-v.fin L<=900:=by
   unfold Cv.fin B0b
   split<;>omega
 have wr:=C5s (s1:=0-L) (s2:=0-v.fin L) ht.sz hb.sz ld r1 (by
   unfold Cv.fin B0b
   split<;>omega)
 have k:=k L
 unfold A0z at k
 refine⟨fun σ' H'=>H'=H2/\σ'=[sr rt,si sg,si t,si b,si i,si v.r,sR v.y.name,si v.l,si v.m,si L,si (v.fin L),none,none,none,none,none],?_,?_⟩
 . refine⟨_,rfl,_,rfl,_,_,rfl,_,rfl,_,_,rfl,rfl,_,_,rfl,rfl,rfl,?_⟩
   rw[<-G5s]
   rfl
 rintro σ' H3 ⟨rfl,rfl⟩
 generalize v.fin L=q at*
 let I_:L2.St ->L2.Hp ->Prop:=fun σ' H'=>A8 H1 H'/\σ'=[sr rt,si sg,si t,si b,si i,si v.r,sR v.y.name,si v.l,si v.m,si L,si q,si (t*B0 (0-q)),si (b*B0 (-(0-q))),none,none,none]
 refine⟨I_,?_,?_⟩
 . refine⟨_,rfl,_,rfl,_,rfl,_,_,rfl,rfl,t,b,0-q,rfl,fb.1,fb.2,A4x ht.sz (by omega),A4x hb.sz (by omega),fun p H' s' ep=>?_⟩
   exact⟨p,_,rfl,SqT.of ep,rfl,_,_,rfl,_,_,rfl,rfl,t2.trans s',rfl⟩
 rintro σ' H4 ⟨t4,rfl⟩
 clear I_
 have lp:0<b*B0 (-(0-q)):=Int.mul_pos (by have:=hb.1;omega) (Y4 _)
 have ll:=D0v hb.sz (s:= -(0-q)) (by omega)
 have hm:t*B0 (0-q) % (b*B0 (-(0-q)))=t*B0 (0-q)-whI t b (0-q)*(b*B0 (-(0-q))):=by
   unfold whI
   rw[Int.emod_def,Int.mul_comm (b*B0 (-(0-q)))]
 let I_:L2.St ->L2.Hp ->Prop:=fun σ' H'=>A8 H1 H'/\σ'=[sr rt,si sg,si t,si b,si i,si v.r,sR v.y.name,si v.l,si v.m,si L,si q,si (t*B0 (0-q)),si (b*B0 (-(0-q))),si (whI t b (0-q)),si (t*B0 (0-q)-whI t b (0-q)*(b*B0 (-(0-q)))),none]
 refine⟨I_,?_,?_⟩
 . refine⟨_,rfl,_,rfl,_,_,rfl,⟨lp,ll⟩,fun p np=>?_⟩
   rw[hm]
   exact⟨p,_,rfl,SqT.of A4,rfl,_,_,rfl,_,_,rfl,rfl,t4.trans (A8.upd np),rfl⟩
 rintro σ' H5 ⟨t5,rfl⟩
 clear I_
 unfold ptI at k
 generalize t*B0 (0-q)-whI t b (0-q)*(b*B0 (-(0-q)))=lf at*
 generalize b*B0 (-(0-q))=lo at*
 let I_:L2.St ->L2.Hp ->Prop:=fun σ' H'=>H'=H5/\σ'=[sr rt,si sg,si t,si b,si i,si v.r,sR v.y.name,si v.l,si v.m,si L,si q,si (t*B0 (0-q)),si lo,si (whI t b (0-q)),si lf,si (A1h lf lo)]
 refine⟨I_,?_,?_⟩
 . exact⟨_,rfl,_,_,rfl,rfl,.inr ⟨_,rfl,_,rfl,_,_,rfl,rfl,mC _ _ (by decide) (by decide),_,rfl,_,_,rfl,rfl,.inr ⟨_,rfl,_,_,rfl,rfl,_,rfl,_,_,rfl,rfl,mC _ _ (by decide) (by decide),_,rfl,_,_,rfl,rfl,.inr ⟨_,rfl,_,_,rfl,rfl,rfl,rfl⟩⟩⟩⟩
 rintro σ' H6 ⟨rfl,rfl⟩
 clear I_
 have pb:=D2v lf lo
 exact⟨_,rfl,_,rfl,_,rfl,_,rfl,_,rfl,_,rfl,_,rfl,_,_,rfl,rfl,_,rfl,rt,v,sg,whI t b (0-q),q,A1h lf lo,i,L,rfl,t5 _ _ hrt,ok,s0,s1,wr.1,wr.2,pb.1,pb.2,fun p zs H' s' du hz=>k p zs H' ld (t5.trans s') du hz⟩
noncomputable abbrev B0t:Stmt:=(top 86)
def A0b (c d:Addr) (H H':Hp):Prop:=∀b o,H b=some o ->b≠c ->b≠d ->H' b=some o
theorem A0b.trans{c d:Addr}{H H1 H2:Hp}(a:A0b c d H H1)(b:A0b c d H1 H2):A0b c d H H2:=fun x o h n m=>b x o (a x o h n m) n m
theorem A0b.l{c d:Addr}{H H':Hp}(a:Exc c H H'):A0b c d H H':=fun x o h n _=>a x o h n
theorem A0b.r{c d:Addr}{H H':Hp}(a:Exc d H H'):A0b c d H H':=fun x o h _ n=>a x o h n
theorem A0b.s{c d:Addr}{H H':Hp}(a:A8 H H'):A0b c d H H':=fun x o h _ _=>a x o h
theorem C0y{tr zs:List Str}(h:B4e tr):((Y5 zs).filter fun z=>tr.contains z).head?=hit tr zs:=by
 obtain⟨p,rfl⟩:=h
 unfold hit Y5
 rw[<-List.head?_filter,List.filter_filter,List.filter_filter]
 congr 1
 refine List.filter_congr fun z hz=>?_
 rw[Bool.eq_iff_iff]
 simp[List.mem_filter,hz]
 exact And.comm
theorem D8w(z:Str)(zs:List Str):PyData.eqv (rdS (z::zs)) (rdS [])=false:=by
 simp[rdS,PyData.eqv,PyData.eqvAll]
noncomputable def kvU (us:List Str):List (Key×V):=us.map fun z=>((Sum.inr z:Key),V.bl true)
noncomputable def C1t (us:List Str) (z:Str):List Str:=if us.contains z=true then us else us++ [z]
theorem D2g(us:List Str)(z:Str):((kvU us).any fun kv=>decide (kv.1=(Sum.inr z:Key)))=us.contains z:=by
 unfold kvU
 induction us with
 |nil=>rfl
 | cons a r ih=>
   rw[List.map_cons,List.any_cons,ih,List.contains_cons]
   congr 1
   rw[Bool.eq_iff_iff,decide_eq_true_iff,beq_iff_eq]
   exact⟨fun h=>(Sum.inr.inj h).symm,fun h=>congrArg Sum.inr h.symm⟩
theorem G4z(us:List Str)(z:Str):A8k (kvU us) (Sum.inr z:Key) (.bl true)=kvU (C1t us z):=by
 unfold A8k C1t
 rw[D2g]
 by_cases h:us.contains z=true
 . rw[if_pos h,if_pos h]
   unfold kvU
   rw[List.map_map]
   refine List.map_congr_left fun a _=>?_
   show(if(Sum.inr a:Key)=(Sum.inr z:Key) then((Sum.inr a:Key),V.bl true) else((Sum.inr a:Key),V.bl true))=_
   split<;>rfl
 rw[if_neg h,if_neg h]
 unfold kvU
 rw[List.map_append]
 rfl
theorem C9q(us:List Str)(z:Str):(A8y (kvU us) (Sum.inr z:Key)).isSome=us.contains z:=by
 rw[<-D2g]
 unfold A8y
 rw[Option.isSome_map,List.isSome_find?]
theorem G1r(us:List Str)(z y:Str):y∈C1t us z↔y∈us\/y=z:=by
 unfold C1t
 split
 . rename_i h
   exact⟨.inl,fun q=>q.elim id fun e=>by rw[e];exact List.contains_iff_mem.mp h⟩
 rw[List.mem_append,List.mem_singleton]
theorem C3z(us:List Str):(Y5 us).length<=7:=List.length_filter_le _ _
theorem C4a(us:List Str):Y5 (Y5 us)=Y5 us:=by
 unfold Y5
 refine List.filter_congr fun z hz=>?_
 rw[Bool.eq_iff_iff,List.contains_iff_mem,List.contains_iff_mem,List.mem_filter,List.contains_iff_mem]
 exact⟨fun h=>h.2,fun h=>⟨hz,h⟩⟩
theorem C6x(xs zs:List Str):Y5 (Y5 (xs++zs)++zs)=Y5 (xs++zs):=by
 unfold Y5
 refine List.filter_congr fun z hz=>?_
 rw[Bool.eq_iff_iff,List.contains_iff_mem,List.contains_iff_mem,List.mem_append,List.mem_filter,List.contains_iff_mem,List.mem_append]
 exact⟨fun h=>h.elim (fun q=>q.2) .inr,fun h=> .inl ⟨hz,h⟩⟩
theorem G4b{us:List Str}{z:Str}(h:us.Nodup):(C1t us z).Nodup:=by
 unfold C1t
 split
 . exact h
 rename_i hz
 refine List.nodup_append.mpr ⟨h,by simp,fun a ha b hb=>?_⟩
 rw[List.mem_singleton.mp hb]
 rintro rfl
 exact hz (List.contains_iff_mem.mpr ha)
theorem C2z:∀(l us:List Str),us.Nodup ->(∀z∈us,z∈l) ->us.length<=l.length
 | [],us,_,h=>by
   cases us with
   |nil=>exact Nat.le_refl _
   |cons a r=>exact absurd (h a List.mem_cons_self) (by simp)
 | a ::l,us,nd,h=>by
   by_cases m:a∈us
   . have:=C2z l (us.erase a) (nd.erase a) fun z hz=>by
       obtain⟨h1,h2⟩:=(List.Nodup.mem_erase_iff nd).mp hz
       rcases List.mem_cons.mp (h z h2) with q|q
       . exact absurd q h1
       . exact q
     rw[List.length_erase_of_mem m] at this
     rw[List.length_cons]
     omega
   . have:=C2z l us nd fun z hz=>by
       rcases List.mem_cons.mp (h z hz) with q|q
       . exact absurd (q▸hz) m
       . exact q
     rw[List.length_cons]
     omega
structure RIn(CN CC:Addr)(dq tl kd c sm a b:Addr)(wh:Int)(v:Cv)(us tr zs:List Str)(as:List V)(res:Nm×List Str)(H:Hp):Prop where
 due:A5b H dq res.1 zs
 ez:∀z,z∈zs↔z∈res.2
 sz:∀z∈zs,z∈Y8
 et:H tl=some (.lst (tr.map V.str))
 st:B4e tr
 ek:H kd=some (.dK (kvU us))
 nu:us.Nodup
 su:∀z∈us,z∈Y8
 ct:Z8 CC H c v a b (Y5 us) tr
 ok:v.Ok
 es:H sm=some (.lst as)
 rd:Rdy CN wh as v c res H
noncomputable abbrev stR (dq tl kd c sm:Addr) (wh:Int) (x6 x7 x8 x9 x10 x11 x12 x13:Option V):L2.St:=[sr dq,sr tl,sr kd,sr c,si wh,sr sm,x6,x7,x8,x9,x10,x11,x12,x13]
structure C5x(K:Frag)(mg:Str ->Option Value)(CT CR:Addr):Prop where
 gT:mg "Trapped"=some (.ref CT)
 gR:mg "ReckonError"=some (.ref CR)
 c:B3u K CT
 sub:subIn K (.ref CT) (.ref CT)=some true
 k:B7x K CT
 dict:∃d,clsIn K CT=some d/\d.hasDict=true
 nosig:findIn K (.ref CT) "signal"=some none
 kR:kitOne K (.ref CT) (.ref CR)=some true
 kv:kitOne K (.ref CT) (.type "ValueError")=some true
theorem D0n{X:Cx}{e:Expr}{f:Str}{pos:Pos}{ta:TE}(hK:X.K=K)(he:PE X e ta)(hb:attributeBase e f X.env (eval e X.env)=eval e X.env):PE X (.Attribute e f pos) (G2z K ta f):=by
 subst hK
 exact G1h he hb
theorem scLRight:B8 ["_law_due","_law_traps_here","_law_kept","_law_context","_law_which","_law_some","_law_due_told","_law_raised","_law_signal","_law_caught","_law_found","e","_law_good","_law_flags"] Q44 (A6 B0t):=scK
def B9p (CN CC:Addr):Sp:=fun vs H Q _=>∃dq tl kd c sm a b wh v us tr zs as res,vs=[.ref dq,.ref tl,.ref kd,.ref c,.int wh,.ref sm]/\RIn CN CC dq tl kd c sm a b wh v us tr zs as res H/\
 ∀us' a' b' H',(∀z,z∈us'↔z∈us\/z∈zs) ->us'.Nodup ->A0b c kd H H' ->H' kd=some (.dK (kvU us')) ->Z8 CC H' c v a' b' (Y5 us') tr ->Q (.bl true) H'
theorem C6z{f f1 f2 CN CC CB CB' CT CR A1:Addr}(D:Def K mg "_law_right" Q44 B0t f fd)(dA:Def K mg "_law_called" Q14 A5a f1 fd1)(G2_called:B9 P w K mg base 9 f1 fd1 Q14 (A8q K CN CC CT CB))
   (dB:Def K mg "_law_is" Q16 D0p f2 fd2) (G2_is:B9 P w K mg base 3 f2 fd2 Q16 (D1n CN)) (R:C5x K mg CT CR) (SG:C8x K mg A1) (C:B3r K mg CC) (MF:Has P w K mg base CC "flags" 1 ["self"] (A3v CC)) (MP:A8d P w K mg base CC "trap" 2 Q13 (B7v K CC CB')) (O:Own mg) (T:Kit K):sI P w K mg base 10 f fd Q44 (B9p CN CC):=by
 refine D.F.okE scLRight (fun vs H Q E h=>?_) (fun X cdv A outer s H vs Q E hX hr hx h=>?_)
 . obtain⟨dq,tl,kd,c,sm,a,b,wh,v,us,tr,zs,as,res,rfl,_⟩:=h
   rfl
 subst hX
 obtain⟨dq,tl,kd,c,sm,a,b,wh,v,us,tr,zs,as,res,rfl,h0,kk⟩:=h
 obtain⟨ff,fdf,mf,gf,bf⟩:=MF
 obtain⟨fp,fdp,mp,gp,bp⟩:=MP
 have G_l_called:=G2_called.fn
 have G_l_is:=G2_is.fn
 have GH_l_called:=G2_called.h
 have GH_l_is:=G2_is.h
 have hu:=hr.units
 have HU:=Nat.lt_of_le_of_lt (Nat.add_le_add_left (by decide:1<=64) _) hr.units
 refine⟨_,(A5 (A9 (A2m (pv 0) (A1w rfl (D9 (D4 (i:=6) scLRight.nd rfl (Or.inl rfl)) (D9 (D4 (i:=7) scLRight.nd rfl (Or.inr rfl)) A0d))))) (A5 (A9 (B2q PassesOwn.leaving rfl (B7f (pv 7)) (D4 (i:=8) scLRight.nd rfl (Or.inl rfl)) (A7 (A9 (G1m HU (pv 2) (pv 8) A1g (by rfl)))))) (A5 (A9 (C9h (i:=9) (N:=["_law_signal"]) (F:=["_law_traps_here","_law_raised"]) (js:=[1,7]) (D3.of2 ⟨rfl,by decide+kernel,by decide+kernel,by decide+kernel,by decide+kernel⟩ (by rfl) (by rfl) ⟨_,by rfl⟩ (by rfl) (by rfl) (by rfl) ⟨_,by rfl⟩ (by rfl) (by rfl)) (.inl hr.hd) (B0y (A8v SG.g)) rfl (fun C s₀ H₀ ex pn h=>D4 (i:=0) (by decide+kernel:(["_law_signal","_law_traps_here","_law_raised"]:List Str).Nodup) rfl (Or.inl rfl)) (fun C s₀ H₀ ex pn h=>(PW.pt (A2q (C8 (A6h (K:=K) rfl) (pv 0) (pv 2) (by rfl)) (A1q (C8 (A6h (K:=K) rfl) (pv 0) (pv 1) (by rfl)))))) (fun C s₀ H₀ ex pn h=>(pv 0)) scLRight.nd rfl (Or.inl rfl))) (A5 (A9 (D8r ⟨rfl,rfl,rfl⟩ (by rfl) R.gT R.c scLRight.nd (i:=11) rfl rfl (fun pins Ew EHb hc=>(A7 (A9 (D5 (i:=10) scLRight.nd rfl (Or.inl rfl) (V5 dA G_l_called hr hc (A0 (pv 4) (A0 (pv 3) (A0 (pv 5) A3)))))))) (fun pins a=>(A5 (A9 (D5 (i:=12) scLRight.nd rfl (Or.inl rfl) (A0e (G5 (G1x (K:=K) rfl hr.units) (pv 9) (U0 A3) (C6 _)) (A0e (G5 G8 (D0n (K:=K) rfl (pv 11) rfl) (G4 (B8d (K:=K) rfl) (pv 9) A2 (fun _ _=>rfl)) (C6 _)) (A0e (A9w (K:=K) rfl O.isi (pv 11) (A8v R.gR)) (Z6 (A9w (K:=K) rfl O.isi (pv 11) (pty O.ValueError_ (show bootBuiltins "ValueError"=some (.type "ValueError") by decide+kernel))))))))) (A5 (A9 (Z3 (C4w (a:=a) rfl (pv 3) C.cl mp gp.h (hr.hm _) bp .nil (A0 (U0 A3) A3)))) (A5 (A9 (D5 (i:=12) scLRight.nd rfl (Or.inl rfl) (A0e (pv 12) (Z6 (C5w (a:=a) rfl dB GH_l_is (hr.hm _) (A0 (C5w (a:=a) rfl dA GH_l_called (hr.hm _) (A0 (pv 4) (A0 (pv 3) (A0 (pv 5) A3)))) (A0 (pv 6) A3))))))) (A7 (A9 (Z3 (C4w (a:=a) rfl (pv 3) C.cl mp gp.h (hr.hm _) bp .nil (A0 (V6 (B4c (K:=K) rfl) (by rfl) O.list_ boot_list (A0 (pv 1) A3)) A3))))))))) (A7 (A9 (D5 (i:=12) scLRight.nd rfl (Or.inl rfl) (A0e (G5 (B6h hr.units) (pv 9) (U0 A3) (C6 _)) (Z6 (V5 dB G_l_is hr hx (A0 (pv 10) (A0 (pv 6) A3)))))))))) (A5 (A9 (D5 (i:=13) scLRight.nd rfl (Or.inl rfl) (C1c (pv 3) C.cl mf gf hr bf .nil hx))) (A7 (B5 (A0e (pv 12) (A0e (A9z O.isi (pv 13) (pty O.list_ boot_list)) (Z6 (G5 (B6h hr.units) (pv 13) (C0b (N:=["_law_signal"]) (F:=["_law_kept"]) (js:=[2]) (D3.of1 ⟨rfl,by decide+kernel,by decide+kernel,by decide+kernel,by decide+kernel⟩ (by rfl) (by rfl) ⟨_,by rfl⟩ (by rfl) (by rfl)) (.inl hr.hd) (B0y (A8v SG.g)) rfl (fun C s₀ H₀ ex pn h=>D4 (i:=0) (by decide+kernel:(["_law_signal","_law_kept"]:List Str).Nodup) rfl (Or.inl rfl)) (fun C s₀ H₀ ex pn h=>(C9p (D2n HU (pv 0) (pv 1)))) (fun C s₀ H₀ ex pn h=>(pv 0))) (C6 _)))))))))))),?_⟩
 obtain⟨dt,dl,edq,edt,edl⟩:=h0.due
 obtain⟨dc,ec⟩:=h0.ct.ins
 refine⟨fun σ' H'=>H'=H/\σ'=stR dq tl kd c sm wh (some (.ref dt)) (some (.ref dl)) none none none none none none,⟨_,rfl,dq,_,rfl,SqT.of edq,rfl,_,_,rfl,_,_,rfl,rfl,rfl,rfl⟩,?_⟩
 rintro σ' H1 ⟨rfl,rfl⟩
 have nlk:dl≠kd:=U4 edl h0.ek (by intro z;cases z)
 have nck:c≠kd:=U4 ec h0.ek (by intro z;cases z)
 let I_:L2.St ->L2.Hp ->Prop:=fun σ' H'=>∃us' v8,Exc kd H1 H'/\H' kd=some (.dK (kvU us'))/\(∀z,z∈us'↔z∈us\/z∈zs)/\us'.Nodup/\σ'=stR dq tl kd c sm wh (some (.ref dt)) (some (.ref dl)) v8 none none none none none
 refine⟨I_,?_,?_⟩
 . refine⟨_,rfl,dl,rfl,⟨_,SqL.of edl⟩,A3g (xs:=zs.map V.str) (fun i σ H'=>∃us' v8,Exc kd H1 H'/\H' kd=some (.dK (kvU us'))/\(∀z,z∈us'↔z∈us\/z∈zs.take i)/\us'.Nodup/\σ=stR dq tl kd c sm wh (some (.ref dt)) (some (.ref dl)) v8 none none none none none) ⟨us,none,Exc.of (A8.refl _),h0.ek,fun z=>by simp,h0.nu,rfl⟩ ?_ ?_ ?_⟩
   . rintro i σ H' _ ⟨us',v8,x',_,_,_,_⟩
     exact SqL.of (x' _ _ edl nlk)
   . rintro i x σ H' hi ⟨us',v8,x',ek',mu,lu,rfl⟩
     rw[List.getElem?_map] at hi
     obtain⟨z,hz,rfl⟩:=Option.map_eq_some_iff.mp hi
     have hlt:i<zs.length:=(List.getElem?_eq_some_iff.mp hz).1
     have l8:us'.length<=7:=C2z Y8 us' lu fun y hy=>((mu y).mp hy).elim (h0.su y) fun q=>h0.sz y (List.mem_of_mem_take q)
     have et:zs.take (i+1)=zs.take i++ [z]:=by
       rw[List.take_succ_eq_append_getElem hlt,(List.getElem?_eq_some_iff.mp hz).2]
     refine⟨_,⟨_,rfl,_,rfl,kd,_,rfl,D3t.k (k:= .inr z) ek' (C9 (by unfold kvU;rw[List.length_map];omega)),?_⟩,fun _ _ h=>h⟩
     rw[G4z]
     refine⟨C1t us' z,_,x'.trans Exc.upd,A4,fun y=>?_,G4b lu,rfl⟩
     rw[G1r,mu,et,List.mem_append,List.mem_singleton,or_assoc]
   . rintro σ H' ⟨us',v8,x',ek',mu,lu,rfl⟩
     rw[List.length_map] at mu
     rw[List.take_length] at mu
     exact⟨us',v8,x',ek',mu,lu,rfl⟩
 refine L2.hideG fun Z_ z_=>?_
 rintro σ' H2 ⟨us',v8,x2',ek2,mu,lu,rfl⟩
 subst z_
 clear I_
 have ct2:Z8 CC H2 c v a b (Y5 us) tr:=by
   obtain⟨⟨d1,e1⟩,e2,e3⟩:=h0.ct
   exact⟨⟨d1,x2' _ _ e1 (U4 e1 h0.ek (by intro z;cases z))⟩,x2' _ _ e2 (U4 e2 h0.ek (by intro z;cases z)),x2' _ _ e3 (U4 e3 h0.ek (by intro z;cases z))⟩
 have edl2:=x2' _ _ edl nlk
 have edt2:=x2' _ _ edt (U4 edt h0.ek (by intro z;cases z))
 have et2:=x2' _ _ h0.et (U4 h0.et h0.ek (by intro z;cases z))
 have es2:=x2' _ _ h0.es (U4 h0.es h0.ek (by intro z;cases z))
 have rd2:Rdy CN wh as v c res H2:=h0.rd.keep fun b o e nd nc=>x2' _ _ e (fun z=>by rw[z,h0.ek] at e;exact nd _ (Option.some.inj e).symm)
 let I_:L2.St ->L2.Hp ->Prop:=fun σ' H'=>∃lc,A8 H2 H'/\H' lc=some (.lst (((Y5 zs).filter fun z=>tr.contains z).map V.str))/\σ'=stR dq tl kd c sm wh (some (.ref dt)) (some (.ref dl)) v8 (some (.ref lc)) none none none none
 refine⟨I_,?_,?_⟩
 . refine A7j (zs:=Y8) (f:=fun z=>zs.contains z&&tr.contains z) (σf:=[sr tl,sr dl]) SG.sq (by decide) (fun z H' Qb sm qq=>?_) (fun z H' Qv qq=>⟨_,rfl,qq⟩) (fun D H' sm nd e=>?_) rfl
   . refine⟨_,rfl,_,rfl,dl,_,rfl,.inl (SqL.of (sm _ _ edl2)),rfl,A1d _,_,rfl,?_⟩
     rw[A0s]
     cases hz:zs.contains z with
     |false=>rw[hz] at qq;exact Y3 qq
     | true=>
       rw[hz] at qq
       refine Z0 ⟨_,rfl,_,rfl,tl,_,rfl,.inl (SqL.of (sm _ _ et2)),rfl,A1d _,_,rfl,?_⟩
       rw[A0s]
       exact qq
   . have ef:(Y8.filter fun z=>zs.contains z&&tr.contains z)=(Y5 zs).filter fun z=>tr.contains z:=by
       unfold Y5
       rw[List.filter_filter]
       refine List.filter_congr fun z _=>?_
       exact Bool.and_comm _ _
     rw[ef] at e
     exact⟨D,sm,e,rfl⟩
 refine L2.hideG fun Z_ z_=>?_
 rintro σ' H3 ⟨lc,s3,elc,rfl⟩
 subst z_
 clear I_
 have hh:=C0y (zs:=zs) h0.st
 generalize hC:((Y5 zs).filter fun z=>tr.contains z)=ca at elc hh
 have okC:OkL ca:=by
   rw[<-hC]
   exact⟨Nat.le_trans (List.length_filter_le _ _) (Nat.le_trans (List.length_filter_le _ _) (by decide)),fun z hz=>D2z z (List.mem_filter.mp (List.mem_filter.mp hz).1).1⟩
 have ok0:OkL []:=⟨by decide,fun _ h=>by cases h⟩
 have ct3:=ct2.same s3
 have ek3:=s3 _ _ ek2
 have edt3:=s3 _ _ edt2
 have et3:=s3 _ _ et2
 have es3:=s3 _ _ es2
 have rd3:Rdy CN wh as v c res H3:=rd2.keep fun b o e _ _=>s3 _ _ e
 obtain⟨dc3,ec3⟩:=ct3.ins
 have x13:A0b c kd H1 H3:=(A0b.r x2').trans (A0b.s s3)
 have h3:hit tr res.2=ca.head?:=by
   rw[hh]
   unfold hit
   congr 1
   funext t
   rw[Bool.eq_iff_iff]
   simp[h0.ez]
 let I_:L2.St ->L2.Hp ->Prop:=fun σ' H'=>∃v10 v11 a' b',A0b c kd H1 H'/\H' kd=some (.dK (kvU us'))/\Z8 CC H' c v a' b' (Y5 (Y5 us++res.2)) tr/\σ'=stR dq tl kd c sm wh (some (.ref dt)) (some (.ref dl)) v8 (some (.ref lc)) v10 v11 (some (.bl true)) none
 refine⟨I_,?_,?_⟩
 . let I_:L2.St ->L2.Hp ->Prop:=fun σ' H'=>∃m a',ca=[]/\Exc c H3 H'/\Z8 CC H' c v a' b (Y5 (Y5 us++res.2)) tr/\V3 CN H' m res.1/\σ'=stR dq tl kd c sm wh (some (.ref dt)) (some (.ref dl)) v8 (some (.ref lc)) (some (.ref m)) none none none
   refine⟨I_,?_,?_⟩
   . refine⟨_,rfl,_,rfl,_,rfl,wh,c,sm,as,rfl,es3,.inl ⟨v,a,b,Y5 us,tr,res,ct3,h0.ok,Nat.le_trans (C3z us) (by decide),C4a us,rd3,⟨fun hn m a' H' x' ct' num=>?_,fun z hz a' d H' x' ct' ed=>?_⟩⟩⟩
     . rw[h3] at hn
       exact⟨m,a',List.head?_eq_none_iff.mp hn,x',ct',num,rfl⟩
     . -- trapped
       rw[h3] at hz
       refine⟨R.sub,fun ea t T na=>?_⟩
       obtain⟨cr,rfl⟩:∃cr,ca=z::cr:=by
         cases ca with
         |nil=>cases hz
         |cons y r=>exact⟨r,by rw[Option.some.inj hz]⟩
       have u1:=A8.upd (o:= .frz (A0c (.ref CT) t (some d) (.ref T)) (.own ea)) na
       have ee:upd H' ea (.frz (A0c (.ref CT) t (some d) (.ref T)) (.own ea)) ea=some (.frz (A0c (.ref CT) t (some d) (.ref T)) (.own ea)):=A4
       generalize upd H' ea (.frz (A0c (.ref CT) t (some d) (.ref T)) (.own ea))=G at u1 ee
       have ed1:=u1 _ _ ed
       have ct1:=ct'.same u1
       have kp:∀{q:Addr} {o:HO},H3 q=some o ->(∀C0 d0 F,o≠ .ins C0 d0 F) ->G q=some o:=fun{q o} e no=>u1 _ _ (x' _ _ e (fun z=>by rw[z,ec3] at e;exact no _ _ _ (Option.some.inj e).symm))
       have elc1:=kp elc (fun _ _ _ z=>by cases z)
       have ty:∀{H'':Hp},A8 G H'' ->TyE K H'' (.ref ea) (.ref CT):=fun s=> .excD (s _ _ ee) (s _ _ ed1) R.k
       refine⟨fun σ' H''=>A8 G H''/\σ'=stR dq tl kd c sm wh (some (.ref dt)) (some (.ref dl)) v8 (some (.ref lc)) none (some (.ref ea)) (some (.bl true)) none,?_,?_⟩
       . refine⟨_,rfl,Nat.zero_le _,fun l0 n0=>?_⟩
         have u0:=A8.upd (o:= .lst []) n0
         refine⟨rdS (z::cr),rdS [],A4m (u0 _ _ elc1),A4m A4,shS okC,shS ok0,?_⟩
         rw[if_pos rfl,D8w]
         refine⟨_,rfl,Z0 ⟨_,rfl,ea,CT,t,.ref T,d,_,_,_,rfl,u0 _ _ ee,u0 _ _ ed1,R.k,R.dict,R.nosig,rfl,?_⟩⟩
         refine⟨_,rfl,lc,_,_,_,rfl,rfl,SqL.of (u0 _ _ elc1),D7 (j:=0) rfl,rfl,_,rfl,A0q rfl ?_⟩
         refine⟨_,rfl,_,_,_,_,true,rfl,rfl,ty u0,R.kR,_,rfl,Z0 ?_⟩
         exact⟨_,rfl,_,_,_,_,true,rfl,rfl,ty u0,R.kv,u0,rfl⟩
       clear elc1
       rintro σ' G1 ⟨sG,rfl⟩
       have ct1:=ct1.same sG
       have kp1:∀{q:Addr} {o:HO},H3 q=some o ->(∀C0 d0 F,o≠ .ins C0 d0 F) ->G1 q=some o:=fun e no=>sG _ _ (kp e no)
       have ee1:=sG _ _ ee
       obtain⟨dcx,ecx⟩:=ct1.ins
       have fe:∀{H'':Hp},H'' ea=some (.frz (A0c (.ref CT) t (some d) (.ref T)) (.own ea)) ->∃o u fs,H'' ea=some (.frz o u)/\o.data= .fields fs/\fs[2]?=some .none:=fun e=>⟨_,_,_,e,rfl,rfl⟩
       refine⟨fun σ' H''=>∃b',Exc c G1 H''/\Z8 CC H'' c v a' b' (Y5 (Y5 us++res.2)) []/\σ'=stR dq tl kd c sm wh (some (.ref dt)) (some (.ref dl)) v8 (some (.ref lc)) none (some (.ref ea)) (some (.bl true)) none,?_,?_⟩
       . refine⟨_,rfl,c,dcx,_,rfl,ecx,A2u _ _ _ _ _ _,Nat.zero_le _,fun l0 n0=>?_⟩
         have u0:=A8.upd (o:= .lst []) n0
         refine⟨fe (u0 _ _ ee1),c,v.r,v.y,v.l,v.m,a',b,_,_,_,rfl,ct1.same u0,.inl ⟨l0,[],rfl,A4,(fun _ h=>by cases h),fun b' H'' x'' _ ct''=>?_⟩⟩
         exact⟨b',(Exc.of u0).trans x'',ct'',rfl⟩
       rintro σ' G2 ⟨b2,xG,ctG,rfl⟩
       have kp2:∀{q:Addr} {o:HO},H3 q=some o ->(∀C0 d0 F,o≠ .ins C0 d0 F) ->G2 q=some o:=fun{q o} e no=>xG _ _ (kp1 e no) (fun z=>by have:=kp1 e no;rw[z,ecx] at this;exact no _ _ _ (Option.some.inj this).symm)
       have rdG:Rdy CN wh as v c res G2:=rd3.keep fun b o e _ nc=>xG _ _ (sG _ _ (u1 _ _ (x' _ _ e nc))) nc
       have ee2:=xG _ _ ee1 (fun z=>by rw[z,ecx] at ee1;cases ee1)
       have es2':=kp2 es3 (fun _ _ _ z=>by cases z)
       have edt2':=kp2 edt3 (fun _ _ _ z=>by cases z)
       refine⟨fun σ' H''=>∃a'',Exc c G2 H''/\Z8 CC H'' c v a'' b2 (Y5 (Y5 us++res.2)) []/\σ'=stR dq tl kd c sm wh (some (.ref dt)) (some (.ref dl)) v8 (some (.ref lc)) none (some (.ref ea)) (some (.bl true)) none,?_,?_⟩
       . refine⟨_,rfl,_,rfl,Z0 ⟨_,rfl,_,rfl,_,rfl,fe ee2,wh,c,sm,as,rfl,es2',.inl ⟨v,a',b2,_,[],res,ctG,h0.ok,Nat.le_trans (C3z _) (by decide),C4a _,rdG,⟨fun hn m a'' H'' x'' ct'' num=>?_,fun z hz=>by cases hz⟩⟩⟩⟩
         rw[C6x] at ct''
         obtain⟨dcy,ecy⟩:=ctG.ins
         have ee3:=x'' _ _ ee2 (fun z=>by rw[z,ecy] at ee2;cases ee2)
         have edt3':=x'' _ _ edt2' (fun z=>by rw[z,ecy] at edt2';cases edt2')
         exact⟨_,rfl,fe ee3,m,dt,res.1,rfl,num,edt3',fun H5 s5=>⟨a'',x''.trans (Exc.of s5),ct''.same s5,rfl⟩⟩
       rintro σ' G3 ⟨a3,xG3,ctG3,rfl⟩
       obtain⟨dcy,ecy⟩:=ctG.ins
       obtain⟨dcz,ecz⟩:=ctG3.ins
       have kp3:∀{q:Addr} {o:HO},H3 q=some o ->(∀C0 d0 F,o≠ .ins C0 d0 F) ->G3 q=some o:=fun{q o} e no=>xG3 _ _ (kp2 e no) (fun z=>by have:=kp2 e no;rw[z,ecy] at this;exact no _ _ _ (Option.some.inj this).symm)
       have ee3:=xG3 _ _ ee2 (fun z=>by rw[z,ecy] at ee2;cases ee2)
       have et3':=kp3 et3 (fun _ _ _ z=>by cases z)
       refine⟨_,?_,fun _ _ h=>h⟩
       refine⟨_,rfl,c,dcz,_,rfl,ecz,A2u _ _ _ _ _ _,_,rfl,tl,_,rfl,.inl (SqL.of et3'),fun l1 n1=>?_⟩
       have u3:=A8.upd (o:= .lst (tr.map V.str)) n1
       refine⟨fe (u3 _ _ ee3),c,v.r,v.y,v.l,v.m,a3,b2,_,_,_,rfl,ctG3.same u3,.inl ⟨l1,tr,rfl,A4,h0.st.mem,fun b' H'' x'' _ ct''=>?_⟩⟩
       rw[B3j h0.st (fun z=>Iff.rfl)] at ct''
       have ek3':=kp3 ek3 (fun _ _ _ z=>by cases z)
       refine⟨_,_,a3,b',?_,x'' _ _ (u3 _ _ ek3') (fun z=>by rw[z,ecz] at ek3';cases ek3'),ct'',rfl⟩
       exact x13.trans ((A0b.l x').trans ((A0b.s (u1.trans sG)).trans ((A0b.l xG).trans ((A0b.l xG3).trans ((A0b.s u3).trans (A0b.l x''))))))
   . rintro σ' H4 ⟨m,a4,eca,x4,ct4,num4,rfl⟩
     subst eca
     have elc4:=x4 _ _ elc (U4 elc ec3 (by intro z;cases z))
     refine⟨_,?_,fun _ _ h=>h⟩
     refine⟨_,rfl,Nat.zero_le _,fun l0 n0=>?_⟩
     have u0:=A8.upd (o:= .lst []) n0
     refine⟨rdS [],rdS [],A4m (u0 _ _ elc4),A4m A4,shS ok0,shS ok0,?_⟩
     rw[if_neg Bool.false_ne_true,G5p]
     have edt4:=x4 _ _ edt3 (U4 edt3 ec3 (by intro z;cases z))
     have ek4:=x4 _ _ ek3 (U4 ek3 ec3 (by intro z;cases z))
     exact⟨_,rfl,Z0 ⟨_,rfl,_,rfl,m,dt,res.1,rfl,num4.same u0,u0 _ _ edt4,fun H' s'=>⟨_,_,a4,b,x13.trans ((A0b.l x4).trans (A0b.s (u0.trans s'))),(u0.trans s') _ _ ek4,ct4.same (u0.trans s'),rfl⟩⟩⟩
 refine L2.hideG fun Z_ z_=>?_
 rintro σ' H4 ⟨v10,v11,a4,b4,x4,ek4,ct4,rfl⟩
 subst z_
 clear I_
 have eo:Y5 (Y5 us++res.2)=Y5 us':=by
   unfold Y5
   refine List.filter_congr fun z hz=>?_
   rw[Bool.eq_iff_iff,List.contains_iff_mem,List.contains_iff_mem,List.mem_append,List.mem_filter,List.contains_iff_mem,mu,h0.ez]
   exact or_congr ⟨fun q=>q.2,fun q=>⟨hz,q⟩⟩ Iff.rfl
 rw[eo] at ct4
 obtain⟨dc4,ec4⟩:=ct4.ins
 refine⟨fun σ' H'=>∃fl,A8 H4 H'/\H' fl=some (.lst ((Y5 us').map V.str))/\σ'=stR dq tl kd c sm wh (some (.ref dt)) (some (.ref dl)) v8 (some (.ref lc)) v10 v11 (some (.bl true)) (some (.ref fl)),⟨_,rfl,c,dc4,_,rfl,ec4,A7u _ _ _ _ _ _,c,v.r,v.y,v.l,v.m,a4,b4,_,_,rfl,ct4,fun p np=>⟨p,A8.upd np,A4,rfl⟩⟩,?_⟩
 refine L2.hideG fun Z_ z_=>?_
 rintro σ' H5 ⟨fl,s5,efl,rfl⟩
 subst z_
 refine⟨_,rfl,_,rfl,Z0 ⟨_,rfl,_,_,_,_,true,rfl,rfl,C5f efl,T.list_list,_,rfl,Z0 ⟨_,rfl,?_⟩⟩⟩
 have okU:OkL (Y5 us'):=⟨Nat.le_trans (C3z us') (by decide),fun z hz=>D2z z (List.mem_filter.mp hz).1⟩
 refine A7j (zs:=Y8) (f:=fun z=>us'.contains z) (σf:=[sr kd]) SG.sq (by decide) (fun z H' Qb sm qq=>?_) (fun z H' Qv qq=>⟨_,rfl,qq⟩) (fun D H' sm nd e=>?_) rfl
 . have:=C8w.k (k:= .inr z) (sm _ _ (s5 _ _ ek4))
   refine⟨_,rfl,_,rfl,kd,_,rfl,this,_,rfl,?_⟩
   rw[C9q]
   exact qq
 refine⟨rdS (Y5 us'),rdS (Y5 us'),A4m (sm _ _ efl),A4m e,shS okU,shS okU,?_⟩
 rw[if_neg Bool.false_ne_true,G5p]
 exact kk us' a4 b4 _ mu lu (x4.trans (A0b.s (s5.trans sm))) ((s5.trans sm) _ _ ek4) (ct4.same (s5.trans sm))
noncomputable abbrev B0m:Stmt:=(top 88)
noncomputable abbrev C3p:Stmt:=(top 92)
noncomputable abbrev B0n:Stmt:=(top 87)
theorem D9p{b:Bool}{A B:Prop}(h1:b=true ->A)(h2:b=false ->B):if b=true then A else B:=by
 cases b with
 |true=>exact h1 rfl
 |false=>exact h2 rfl
noncomputable def J1m (c k:Int):Int:=(c*(48271+2*k*k)+69621*k+11) % 2147483647*69621 % 2147483629
theorem G1g:Y8=(List.range 7).map fun i=>Y8.getD i "":=by decide+kernel
theorem D8q(f:Nat ->Bool):B4e (((List.range 7).filter f).map fun i=>Y8.getD i ""):=by
 refine⟨fun z=>f (Y8.idxOf z),?_⟩
 have e:Y8.filter (fun z=>f (Y8.idxOf z))=((List.range 7).map fun i=>Y8.getD i "").filter fun z=>f (Y8.idxOf z):=congrArg (List.filter fun z=>f (Y8.idxOf z)) G1g
 rw[e,List.filter_map]
 refine congrArg (List.map fun i=>Y8.getD i "") (List.filter_congr fun i hi=>?_)
 show f i=f (Y8.idxOf (Y8.getD i ""))
 rw[G5x i (List.mem_range.mp hi)]
theorem J1h{f:Nat ->Bool}{ys:List V}(hl:ys.length=((List.range 7).filter f).length)(hr:∀(j i:Nat) (y:V),((List.range 7).filter f)[j]?=some i ->ys[j]?=some y ->∃z,Y8[i]?=some z/\y= .str z):ys=(((List.range 7).filter f).map fun i=>Y8.getD i "").map V.str:=by
 refine List.ext_getElem (by rw[List.length_map,List.length_map,hl]) fun j h1 h2=>?_
 have h3:j<((List.range 7).filter f).length:=by rw[<-hl];exact h1
 obtain⟨z,hz,hy⟩:=hr j _ _ (List.getElem?_eq_getElem h3) (List.getElem?_eq_getElem h1)
 rw[hy,List.getElem_map,List.getElem_map,List.getD_eq_getElem?_getD,hz]
 rfl
def C0k:Sp:=fun vs H Q _=>∃c k,vs=[.int c,.int k]/\0<=k/\k<=100/\Q (.int (J1m c k)) H
theorem C7c(D:Def K mg "_law_mixed" Q8 A4n f fd):sI P w K mg base 1 f fd Q8 C0k:=by
 refine G6.up (D.F.ok C4g (fun vs H Q E h=>?_) (fun cdv A outer s H vs Q E hr h=>?_))
 . obtain⟨c,k,rfl,_⟩:=h
   rfl
 obtain⟨c,i,rfl,h0,h1,k⟩:=h
 refine⟨_,(A7 (B5 (B7 V2 (B7 U9 (B7 V2 (B7 V1 (B7 V1 (B7 U9 (pv 0) (B7 V1 A2 (B7 U9 (B7 U9 A2 (pv 1)) (pv 1)))) (B7 U9 A2 (pv 1))) A2) A2) A2) A2))),?_⟩
 have q0:(0:Int)<=2*i*i:=Int.mul_nonneg (by omega) h0
 have q1:2*i*i<=200*100:=Int.mul_le_mul (by omega) h1 h0 (by decide)
 have m1:IntMulOk 2 i:=A3m.ok (.inl ⟨by decide,by decide⟩)
 have m2:IntMulOk (2*i) i:=A3m.ok (.inr ⟨by omega,by omega⟩)
 have m3:IntMulOk c (48271+2*i*i):=A3m.ok (.inr ⟨by omega,by omega⟩)
 have m4:IntMulOk 69621 i:=A3m.ok (.inl ⟨by decide,by decide⟩)
 have m5:∀z:Int,IntMulOk z 69621:=fun z=>A3m.ok (.inr ⟨by decide,by decide⟩)
 exact⟨_,rfl,_,rfl,_,_,rfl,rfl,m1,_,rfl,_,_,rfl,rfl,m2,_,_,rfl,rfl,_,_,rfl,rfl,m3,_,rfl,_,_,rfl,rfl,m4,_,_,rfl,rfl,_,_,rfl,rfl,_,_,rfl,rfl,(by show(0:Int)<2147483647;decide),_,_,rfl,rfl,m5 _,_,_,rfl,rfl,(by show(0:Int)<2147483629;decide),k⟩
def C0c:Sp:=fun vs H Q _=>∃c:Int,vs=[.int c]/\∀tr l H',B4e tr ->A8 H H' ->H l=none ->H' l=some (.lst (tr.map V.str)) ->Q (.ref l) H'
theorem D0d:B8 ["_law_cell"] ["_law_cell"] (A6 B0m):=scK
theorem C8p{f f1 A1:Addr}(D:Def K mg "_law_traps" ["_law_cell"] B0m f fd)(dA:Def K mg "_law_mixed" Q8 A4n f1 fd1)(dB:sI P w K mg base 1 f1 fd1 Q8 C0k)(SG:C8x K mg A1)(O:Own mg):sI P w K mg base 2 f fd ["_law_cell"] C0c:=by
 refine D.F.okE D0d (fun vs H Q E h=>?_) (fun X cdv A outer s H vs Q E hX hr hx h=>?_)
 . obtain⟨c,rfl,_⟩:=h
   rfl
 subst hX
 obtain⟨c,rfl,k⟩:=h
 have HU:=Nat.lt_of_le_of_lt (Nat.add_le_add_left (by decide:1<=64) _) hr.units
 refine⟨_,(A5 (A9 (J1 (C8 B1c (B7 V2 (pv 0) A2) A2 (C6 _)) (A7 (B5 (U0 A3))) D6)) (A7 (B5 (C0e (N:=["_law_k","_law_signal"]) (F:=["_law_cell"]) (js:=[0]) (D3.of1 ⟨rfl,by decide+kernel,by decide+kernel,by decide+kernel,by decide+kernel⟩ (by rfl) (by rfl) ⟨_,by rfl⟩ (by rfl) (by rfl)) (.inl hr.hd) rfl (D0h rfl O.enumerate_ (A0 (A8v SG.g) A3)) rfl (fun C s₀ H₀ ex pn h=>B7s (K:=K) (n:=2) rfl h (D9 (D4 (i:=0) (by decide+kernel:(["_law_k","_law_signal","_law_cell"]:List Str).Nodup) rfl (Or.inl rfl)) (D9 (D4 (i:=1) (by decide+kernel:(["_law_k","_law_signal","_law_cell"]:List Str).Nodup) rfl (Or.inl rfl)) A0d))) (fun C s₀ H₀ ex pn h=>(C8 G8 (B7 V2 (B7 U1 (A4a dA dB hr (A0 (pv 2) (A0 (pv 0) A3))) A2) A2) A2 (C6 _))) (fun C s₀ H₀ ex pn h=>(pv 1)))))),?_⟩
 refine⟨fun σ' H'=>H'=H/\σ'=[si c],?_,?_⟩
 . refine⟨_,rfl,_,_,rfl,rfl,(by decide:(0:Int)<3),rfl,_,rfl,D9p (fun _=>?_) fun _=>⟨rfl,rfl⟩⟩
   exact⟨Nat.zero_le _,fun l nl=>k [] l _ ⟨fun _=>false,rfl⟩ (A8.upd nl) nl A4⟩
 rintro σ' H1 ⟨rfl,rfl⟩
 refine⟨A1,rfl,⟨_,SG.sq _⟩,B9x (J:=G3m K A1) (n:=7) (fun i=>decide (J1m c i/7 % 3=1)) (fun i y _=>∃z,Y8[i]?=some z/\y= .str z) (by decide) (fun _ _ _ _ _ _ h _ _=>h) (fun i H3 Qy Qn hi sm hy hn=>?_) (fun H3 sm=>⟨_,SG.sq _,by decide⟩) (fun D H3 ys sm nD eD hl hr'=>?_)⟩
 . obtain⟨z,hz⟩:∃z,Y8[i]?=some z:=⟨_,List.getElem?_eq_getElem hi⟩
   have hv:B9q[i]?=some (.str z):=by
     show(Y8.map V.str)[i]?=_
     rw[List.getElem?_map,hz]
     rfl
   refine⟨⟨_,_,SG.sq _,hv⟩,fun y H4 yl=>?_⟩
   obtain⟨t,y',rfl,nt,rfl,yl⟩:=yl
   have e:=yl _ (SG.sq _)
   rw[hv] at e
   obtain rfl:=(Option.some.inj e).symm
   refine⟨t,_,rfl,SqT.of A4,rfl,_,_,rfl,_,_,rfl,rfl,_,rfl,_,rfl,c,i,rfl,by omega,by omega,_,_,rfl,rfl,⟨by decide,by decide+kernel⟩,_,_,rfl,rfl,(by decide:(0:Int)<3),rfl,_,rfl,?_⟩
   refine D9p (fun eb=>⟨_,rfl,?_⟩) (fun eb=>?_)
   . exact hy (decide_eq_true (V.int.inj (of_decide_eq_true eb))) _ _ (A8.upd nt) ⟨z,hz,rfl⟩
   . exact hn (decide_eq_false fun q=>of_decide_eq_false eb (congrArg V.int q)) _ (A8.upd nt)
 rw[J1h hl hr'] at eD
 exact k _ D H3 (D8q _) sm nD eD
structure G6m(K:Frag)(CN:Addr):Prop where
 non:kitOne K (.type "NoneType") (.ref CN)=some false
 int:kitOne K (.type "int") (.ref CN)=some false
 str:kitOne K (.type "str") (.ref CN)=some false
 bl:kitOne K (.type "bool") (.ref CN)=some false
 tup:kitOne K (.type "tuple") (.ref CN)=some false
 lst:kitOne K (.type "list") (.ref CN)=some false
 dic:kitOne K (.type "dict") (.ref CN)=some false
 lt:kitOne K (.type "list") (.type "tuple")=some false
structure G3d(mg:Str ->Option Value)(C1 C2 C3 C4 C5:Addr):Prop where
 g1:mg "BadNumber"=some (.ref C1)
 g2:mg "NoText"=some (.ref C2)
 g3:mg "BadContext"=some (.ref C3)
 g4:mg "BadCount"=some (.ref C4)
 g5:mg "Trapped"=some (.ref C5)
structure C5y(K:Frag)(mg:Str ->Option Value)(CR CB C2 C3 C4 C5:Addr):Prop where
 g:mg "ReckonError"=some (.ref CR)
 c:B3u K CR
 sub:subIn K (.ref CB) (.ref CR)=some true
 fits:J5b K CB CB C2 C3 C4 C5 true false false false false
inductive A7z(H:Hp):V ->Prop
 |non:A7z H .non
 |bl (b:Bool):A7z H (.bl b)
 |int (i:Int):A7z H (.int i)
 |str (s:Str):A7z H (.str s)
 |lst {p:Addr} {xs:List V} (e:H p=some (.lst xs)):A7z H (.ref p)
 |tup {p:Addr} {xs:List V} (e:H p=some (.tup xs)):A7z H (.ref p)
 |dic {p:Addr} (e:H p=some (.dK [])):A7z H (.ref p)
theorem A7z.not{K:Frag}{CN:Addr}{H:Hp}{v:V}(O4:G6m K CN)(h:A7z H v):A2z K CN H v:=by
 cases h with
 |non=>exact⟨_,G8x,O4.non⟩
 |bl b=>exact⟨_,J4y _,O4.bl⟩
 |int i=>exact⟨_,B9t _,O4.int⟩
 |str s=>exact⟨_,B8m _,O4.str⟩
 |lst e=>exact⟨_,C5f e,O4.lst⟩
 |tup e=>exact⟨_,G2y e,O4.tup⟩
 |dic e=>exact⟨_,J1d e,O4.dic⟩
def D1r:Sp:=fun vs H Q _=>∃c:Int,vs=[.int c]/\∀v H',A7z H' v ->A8 H H' ->Q v H'
theorem G4n:B8 ["_law_cell"] ["_law_cell"] (A6 C3p):=scK
theorem G1w(D:Def K mg "_law_odd" ["_law_cell"] C3p f fd):sI P w K mg base 1 f fd ["_law_cell"] D1r:=by
 refine D.F.okE G4n (fun vs H Q E h=>?_) (fun X cdv A outer s H vs Q E hX hr hx h=>?_)
 . obtain⟨c,rfl,_⟩:=h
   rfl
 subst hX
 obtain⟨c,rfl,k⟩:=h
 have z1:1<=sizeLine:=C9 (by decide)
 have z4:4<=sizeLine:=C9 (by decide)
 have z8:8<=sizeLine:=C9 (by decide)
 refine⟨_,(A7 (B5 (G4 U5 (U0 (A0 A8r (A0 A2 (A0 C7 (A0 (U7 (A0 C7 (A0 A2 (A0 A2 (A0 A2 A3))))) (A0 (U0 (A0 A2 A3)) (A0 A1g (A0 B1y (A0 C7 A3))))))))) (B7 V2 (pv 0) A2) (fun _ _=>rfl)))),?_⟩
 refine⟨z4,fun q1 n1=>⟨z1,fun q2 n2=>fun q3 n3=>⟨z8,fun l nl=>?_⟩⟩⟩
 have u1:=A8.upd (o:= .tup [.str "plain",.int 0,.int 1,.int 0]) n1
 have u2:=A8.upd (o:= .lst [.int 1]) n2
 have u3:=A8.upd (o:= .dK []) n3
 have u4:=A8.upd (o:= .lst [.non,.int 5,.str "1",.ref q1,.ref q2,.bl true,.ref q3,.str ""]) nl
 obtain⟨o,ho,ix⟩:=ixv (xs:=[.non,.int 5,.str "1",.ref q1,.ref q2,.bl true,.ref q3,.str ""]) (i:=c % 8) (Int.emod_nonneg _ (by decide)) (by show c % 8<8;exact Int.emod_lt_of_pos _ (by decide))
 refine⟨_,rfl,_,_,rfl,rfl,(by decide:(0:Int)<8),l,_,_,_,rfl,rfl,SqL.of A4,ix,k o _ ?_ (u1.trans (u2.trans (u3.trans u4)))⟩
 simp only[List.mem_cons,List.not_mem_nil,or_false] at ho
 rcases ho with rfl|rfl|rfl|rfl|rfl|rfl|rfl|rfl
 . exact .non
 . exact .int _
 . exact .str _
 . exact .tup ((u2.trans (u3.trans u4)) _ _ A4)
 . exact .lst ((u3.trans u4) _ _ A4)
 . exact .bl _
 . exact .dic (u4 _ _ A4)
 exact .str _
def B9b (K:Frag) (CN:Addr):Sp:=fun vs H Q _=>∃c sm as,∃wh:Int,vs=[.ref c,.int wh,.ref sm]/\H sm=some (.lst as)/\G5r K CN wh as H/\∀H',A8 H H' ->Q (.bl true) H'
theorem scLRef18:B8 ["_law_context","_law_which","_law_some","e","_law_others"] Q45 (A6 B0n):=scK
theorem C6g{f f1 CN CC CT CR C1 C2 C3 C4 C5:Addr}(D:Def K mg "_law_refused" Q45 B0n f fd)(dA:Def K mg "_law_called" Q14 A5a f1 fd1)(dB:sI P w K mg base 9 f1 fd1 Q14 (A8q K CN CC CT C1))(R:C5y K mg CR C1 C2 C3 C4 C5)(ES:G3d mg C1 C2 C3 C4 C5)(O:Own mg):sI P w K mg base 10 f fd Q45 (B9b K CN):=by
 refine D.F.okE scLRef18 (fun vs H Q E h=>?_) (fun X cdv A outer s H vs Q E hX hr hx h=>?_)
 . obtain⟨c,sm,as,wh,rfl,_⟩:=h
   rfl
 subst hX
 obtain⟨c,sm,as,wh,rfl,es,bad,k⟩:=h
 have z4:4<=sizeLine:=C9 (by decide)
 refine⟨_,(A5 (A9 (G5z ⟨rfl,rfl,rfl⟩ (by rfl) R.g R.c scLRef18.nd (i:=3) rfl rfl (fun pins Ew EHb hc=>(A7 (A9 (Z3 (V5 dA dB hr hc (A0 (pv 1) (A0 (pv 0) (A0 (pv 2) A3)))))))) (fun pins a=>(A5 (A9 (D5 (i:=4) scLRef18.nd rfl (Or.inl rfl) (U0 (A0 (A9w (K:=K) rfl O.isi (pv 3) (A8v ES.g3)) (A0 (A9w (K:=K) rfl O.isi (pv 3) (A8v ES.g4)) (A0 (A9w (K:=K) rfl O.isi (pv 3) (A8v ES.g2)) (A0 (A9w (K:=K) rfl O.isi (pv 3) (A8v ES.g5)) A3))))))) (A7 (B5 (A0e (A9w (K:=K) rfl O.isi (pv 3) (A8v ES.g1)) (A0e (A9w (K:=K) rfl O.isi (pv 3) (pty O.ValueError_ (show bootBuiltins "ValueError"=some (.type "ValueError") by decide+kernel))) (Z6 (G5 (B4a (K:=K) rfl) A1g (pv 4) (by rfl))))))))))) (A7 (B5 A1g))),?_⟩
 refine⟨_,?_,fun _ _ h=>h⟩
 refine⟨fun _ _=>False,⟨_,rfl,_,rfl,_,rfl,wh,c,sm,as,rfl,es,.inr ⟨bad,fun H' s'=>⟨R.sub,fun ea t T na=>?_⟩⟩⟩,fun _ _ h=>h.elim⟩
 have u1:=A8.upd (o:= .frz (A0c (.ref C1) t none (.ref T)) (.own ea)) na
 have ee:upd H' ea (.frz (A0c (.ref C1) t none (.ref T)) (.own ea)) ea=some (.frz (A0c (.ref C1) t none (.ref T)) (.own ea)):=A4
 generalize upd H' ea (.frz (A0c (.ref C1) t none (.ref T)) (.own ea))=G at*
 have ty:∀{H'':Hp},A8 G H'' ->TyE K H'' (.ref ea) (.ref C1):=fun s=> .exc (s _ _ ee) R.fits.k
 refine⟨fun σ' H''=>∃l,A8 G H''/\H'' l=some (.lst [.bl false,.bl false,.bl false,.bl false])/\σ'=[sr c,si wh,sr sm,sr ea,sr l],?_,?_⟩
 . have r0:=A8.refl G
   exact⟨_,rfl,_,_,_,_,false,rfl,rfl,ty r0,R.fits.h3,_,rfl,_,_,_,_,false,rfl,rfl,ty r0,R.fits.h4,_,rfl,_,_,_,_,false,rfl,rfl,ty r0,R.fits.h2,_,rfl,_,_,_,_,false,rfl,rfl,ty r0,R.fits.h5,z4,fun l nl=>⟨l,A8.upd nl,A4,rfl⟩⟩
 rintro σ' G1 ⟨l,s1,el,rfl⟩
 refine⟨_,rfl,_,_,_,_,true,rfl,rfl,ty s1,R.fits.h1,_,rfl,Z0 ⟨_,rfl,_,_,_,_,true,rfl,rfl,ty s1,R.fits.hv,_,rfl,Z0 ⟨_,rfl,l,_,rfl,.inl (SqL.of el),rfl,rfl,?_⟩⟩⟩
 exact k _ (s'.trans (u1.trans s1))
noncomputable abbrev A8e:Stmt:=(U3 (top 64) 4)
def A6m (CC:Addr):Sp:=fun vs H Q _=>∃c r y l m a b xs ys,vs=[.ref c]/\A0k CC H c r y l m a b xs ys/\∀a' H',Exc c H H' ->H a'=none ->A0k CC H' c r y l m a' b [] ys ->Q .non H'
theorem C2s:B8 ["self"] ["self"] (A6 A8e):=scK
theorem B9g{f CC:Addr}(F:Fun K "clear" "Context.clear" A8e f fd)(C:B3r K mg CC):sI P w K mg base 1 f fd ["self"] (A6m CC):=by
 refine G6.up (F.ok C2s (fun vs H Q E h=>?_) (fun cdv A outer s H vs Q E hr h=>?_))
 . obtain⟨c,r,y,l,m,a,b,xs,ys,rfl,_⟩:=h
   rfl
 obtain⟨c,r,y,l,m,a,b,xs,ys,rfl,⟨⟨dx,e⟩,ha,hb⟩,k⟩:=h
 refine⟨_,(A7 (A0x (pv 0) (U0 A3) rfl)),?_⟩
 refine⟨Nat.zero_le _,fun p np=>?_⟩
 have u:=A8.upd (o:= .lst []) np
 refine⟨_,rfl,c,CC,dx,_,rfl,u _ _ e,C.cl,C.n_risen,by rw[B2r];decide,?_⟩
 rw[B1w]
 have nac:p≠c:=Ne.symm (D8 e np)
 have nbc:b≠c:=U4 hb e (by intro z;cases z)
 exact k p _ ((Exc.of u).trans Exc.upd) np ⟨⟨dx,A4⟩,by rw[D0 nac];exact A4,by rw[D0 nbc];exact u _ _ hb⟩
theorem C9j{K:Frag}{CC CB x dx:Addr}{H:Hp}{Q:VK}{E:XK}{v1 v2 v3 v4:V}{r:Int}{y:Wy}{l m:Int}(n1:H x=none)(n2:H dx=none)(ne:dx≠x)(h1:v1= .int r)(r1:1<=r)(r2:r<=24)(h2:v2= .str y.name)(h3:C2c l v3)(h4:v4= .int m)(m1:0<=m)(m2:m<=60)
   (k:∀a b H',A8 H H' ->H a=none ->H b=none ->A0k CC H' x r y l m a b [] [] ->Q .non H'):A5h K CC CB [.ref x,v1,v2,v3,v4] (upd (upd H dx (.own x)) x (.ins CC dx [])) Q E:=by
 refine⟨x,dx,v1,v2,v3,v4,rfl,A4,.inl ⟨r,y,l,m,h1,r1,r2,h2,h3,h4,m1,m2,fun a b H' e na nb c=>k a b H' (G2a n1 n2 ne e) ?_ ?_ c⟩⟩
 . cases ea:H a with
   |none=>rfl
   | some o=>
     have e1:upd (upd H dx (.own x)) x (.ins CC dx []) a=some o:=by
       rw[D0 (fun z=>by rw[z,n1] at ea;cases ea),D0 (fun z=>by rw[z,n2] at ea;cases ea)]
       exact ea
     rw[na] at e1
     cases e1
 cases eb:H b with
 |none=>rfl
 | some o=>
   have e1:upd (upd H dx (.own x)) x (.ins CC dx []) b=some o:=by
     rw[D0 (fun z=>by rw[z,n1] at eb;cases eb),D0 (fun z=>by rw[z,n2] at eb;cases eb)]
     exact eb
   rw[nb] at e1
   cases e1
def C2 (J:It) (QD:Addr ->Hp ->Prop) (D:Addr) (y0 y1:V) (G:Hp):Prop:=G D=some (.lst [y0,y1])/\J.stop 2 G/\QD D G
def C1 (J:It) (g:TG) (te:TE) (σ0:L2.St) (QD:Addr ->Hp ->Prop) (D:Addr) (y0:V) (G:Hp):Prop:=G D=some (.lst [y0])/\J.go 1 G/\∀x H3,J.yld 1 G x H3 ->g x σ0 H3 fun σ4 H4=>te σ4 H4 fun y1 H7=>H7 D=some (.lst [y0])/\1<sizeLine/\C2 J QD D y0 y1 (upd H7 D (.lst [y0,y1]))
noncomputable def CW (J:It) (g:TG) (te:TE) (σ0:L2.St) (QD:Addr ->Hp ->Prop) (H1:Hp) (D:Addr):Nat ->List V ->Hp ->Prop
 |0,[],G=>G=upd H1 D (.lst [])
 |1,[y0],G=>C1 J g te σ0 QD D y0 G
 |2,[y0,y1],G=>C2 J QD D y0 y1 G
 |_,_,_=>False
theorem D1g{J:It}{g:TG}{te:TE}{σ0:L2.St}{H1:Hp}{QD:Addr ->Hp ->Prop}
   (h:∀D,H1 D=none ->J.go 0 (upd H1 D (.lst []))/\∀x H3,J.yld 0 (upd H1 D (.lst [])) x H3 ->g x σ0 H3 fun σ4 H4=>te σ4 H4 fun y0 H6=>H6 D=some (.lst [])/\0<sizeLine/\C1 J g te σ0 QD D y0 (upd H6 D (.lst [y0]))):∀D,H1 D=none ->
   ∃ (m:Nat) (W:Nat ->List V ->Hp ->Prop),W 0 [] (upd H1 D (.lst []))/\∀i ys H2,W i ys H2 ->i<=m/\H2 D=some (.lst ys)/\((J.stop i H2/\QD D H2)\/(i<m/\J.go i H2/\∀x H3,J.yld i H2 x H3 ->
     g x σ0 H3 fun σ4 H4=>te σ4 H4 fun y H6=>H6 D=some (.lst ys)/\ys.length<sizeLine/\W (i+1) (ys++ [y]) (upd H6 D (.lst (ys++ [y]))))):=by
 intro D hD
 refine⟨2,CW J g te σ0 QD H1 D,rfl,fun i ys H2 hw=>?_⟩
 match i,ys,hw with
 | 0,[],hw=>
   obtain rfl:H2=upd H1 D (.lst []):=hw
   obtain⟨a,b⟩:=h D hD
   exact⟨by decide,A4,.inr ⟨by decide,a,b⟩⟩
 | 1,[y0],hw=>
   obtain⟨a,b,c⟩:=(hw:C1 J g te σ0 QD D y0 H2)
   exact⟨by decide,a,.inr ⟨by decide,b,c⟩⟩
 | 2,[y0,y1],hw=>
   obtain⟨a,b,c⟩:=(hw:C2 J QD D y0 y1 H2)
   exact⟨by decide,a,.inl ⟨b,c⟩⟩
 |0,_::_,hw=>exact hw.elim
 |1,[],hw=>exact hw.elim
 |1,_::_::_,hw=>exact hw.elim
 |2,[],hw=>exact hw.elim
 |2,[_],hw=>exact hw.elim
 |2,_::_::_::_,hw=>exact hw.elim
 |_+3,_,hw=>exact(by cases hw)
theorem D9w{J:It}{n:Nat}{g:TG}{tb:TS}{D:B3t}{σ:L2.St}{H:Hp}(Pv:Nat ->L2.St ->Hp ->Prop)(h0:Pv 0 σ H)
   (hs:∀i σ H,i<n ->Pv i σ H ->J.go i H/\∀x H',J.yld i H x H' ->g x σ H' fun σ2 H2=>tb {D with nx:=Pv (i+1),ct:=Pv (i+1),bk:=D.nx} σ2 H2) (hd:∀σ H,Pv n σ H ->J.stop n H/\D.nx σ H):
   ∃ W:Nat ->Nat ->L2.St ->Hp ->Prop,(∃m,W 0 m σ H)/\∀i m σ H,W i m σ H ->
     (J.stop i H/\D.nx σ H)\/(J.go i H/\∃N:L2.St ->Hp ->Prop,(∀σ' H',N σ' H' ->∃m',m'<m/\W (i+1) m' σ' H')/\∀x H',J.yld i H x H' ->g x σ H' fun σ2 H2=>tb {D with nx:=N,ct:=N,bk:=D.nx} σ2 H2):=by
 refine⟨fun i m σ H=>m=n-i/\i<=n/\Pv i σ H,⟨n,by simp,Nat.zero_le _,h0⟩,?_⟩
 rintro i m σ H ⟨rfl,hi,p⟩
 by_cases hlt:i<n
 . obtain⟨a,b⟩:=hs i σ H hlt p
   exact .inr ⟨a,Pv (i+1),fun σ' H' p'=>⟨n-(i+1),by omega,rfl,hlt,p'⟩,b⟩
 have e:i=n:=by omega
 subst e
 exact .inl (hd σ H p)
noncomputable abbrev C3s:Stmt:=(top 83)
noncomputable def sgs (x y:Nm):List Int:=(if x.k= .end_ then [x.s] else [])++(if y.k= .end_ then [y.s] else [])
noncomputable def rdN (l:List Int):PyData:= .list (l.map PyData.int)
theorem A8s{K:Frag}{H:Hp}{p:Addr}{l:List Int}(h:H p=some (.lst (l.map V.int))):RdD K H (.ref p) (rdN l):=by
 refine .lst (SqL.of h) ?_
 clear h
 induction l with
 |nil=>exact .nil
 |cons a r ih=>exact .cons (.int a) ih
noncomputable def C7y:List (List Int):=[[],[0],[1],[0,0],[0,1],[1,0],[1,1]]
theorem G4r{x y:Nm}(a0:0<=x.s)(a1:x.s<=1)(b0:0<=y.s)(b1:y.s<=1):sgs x y∈C7y:=by
 unfold sgs
 rcases(by omega:x.s=0\/x.s=1) with e|e<;>rcases(by omega:y.s=0\/y.s=1) with e'|e'<;>rw[e,e']<;>split<;>split<;>decide
theorem shN:∀l∈C7y,SeqAt.shaped (rdN l)=true:=by
 intro l hl
 simp only[C7y,List.mem_cons,List.not_mem_nil,or_false] at hl
 rcases hl with rfl|rfl|rfl|rfl|rfl|rfl|rfl<;>simp[SeqAt.shaped,rdN,PyData.canLay0,PyData.canLayAll0,PyData.depth,PyData.depthAll]
theorem eqN:∀l∈C7y,∀m∈C7y,PyData.eqv (rdN l) (rdN m)=decide (l=m):=by
 intro l hl m hm
 simp only[C7y,List.mem_cons,List.not_mem_nil,or_false] at hl hm
 rcases hl with rfl|rfl|rfl|rfl|rfl|rfl|rfl<;>rcases hm with rfl|rfl|rfl|rfl|rfl|rfl|rfl<;>simp[rdN,PyData.eqv,PyData.eqvAll]
structure Nm.Wb(x:Nm):Prop where
 s0:0<=x.s
 s1:x.s<=1
 bg:x.Bg
 e:x.k= .end_ ->x.f=0/\x.p=0
theorem Nm.Wf.wb{x:Nm}(h:x.Wf):x.Wb:=⟨h.ok.s0,h.ok.s1,h.ok.bg,h.e⟩
theorem D1a{x y:Nm}(h1:x.k≠ .none)(h2:y.k≠ .none)(a:x.Wb)(b:y.Wb)(h:sgs x y=[0,1]\/sgs x y=[1,0]):(x.k= .end_\/y.k= .end_)/\B7r x y=(A4e,(["void"]:List Str)):=by
 unfold sgs at h
 unfold B7r
 by_cases hx:x.k= .end_<;>by_cases hy:y.k= .end_
 . rw[if_pos hx,if_pos hy] at h
   refine⟨.inl hx,if_pos ⟨hx.trans hy.symm,fun z=>?_⟩⟩
   rw[z] at h
   rcases h with h|h<;>simp at h<;>omega
 . rw[if_pos hx,if_neg hy] at h
   simp at h
 . rw[if_neg hx,if_pos hy] at h
   simp at h
 rw[if_neg hx,if_neg hy] at h
 simp at h
theorem C0w{x:Nm}(h:x.k= .end_)(a:x.Wb):x=⟨.end_,x.s,0,0⟩:=by
 obtain⟨k,s,f,p⟩:=x
 obtain⟨h1,h2⟩:=a.e h
 dsimp only at h h1 h2
 rw[h,h1,h2]
theorem G0c{x y:Nm}(a:x.Wb)(b:y.Wb)(h:¬(sgs x y=[0,1]\/sgs x y=[1,0]))(h0:sgs x y≠ []):∃s r,sgs x y=s::r/\(x.k= .end_\/y.k= .end_)/\B7r x y=(⟨.end_,s,0,0⟩,[]):=by
 have a0:=a.s0;have a1:=a.s1;have b0:=b.s0;have b1:=b.s1
 unfold sgs at h h0 ⊢
 unfold B7r
 by_cases hx:x.k= .end_<;>by_cases hy:y.k= .end_
 . rw[if_pos hx,if_pos hy] at h ⊢
   refine⟨x.s,[y.s],rfl,.inl hx,?_⟩
   rw[if_neg (fun z=>?_),if_pos hx]
   . exact congrArg (fun z=>(z,([]:List Str))) (C0w hx a)
   . refine h ?_
     rcases(by omega:x.s=0\/x.s=1) with e|e
     . left
       rw[e,show y.s=1 by have:=z.2;omega]
       rfl
     . right
       rw[e,show y.s=0 by have:=z.2;omega]
       rfl
 . rw[if_pos hx,if_neg hy] at h ⊢
   refine⟨x.s,[],rfl,.inl hx,?_⟩
   rw[if_neg (fun z=>hy (z.1.symm.trans hx)),if_pos hx]
   exact congrArg (fun z=>(z,([]:List Str))) (C0w hx a)
 . rw[if_neg hx,if_pos hy] at h ⊢
   refine⟨y.s,[],rfl,.inr hy,?_⟩
   rw[if_neg (fun z=>hx (z.1.trans hy)),if_neg hx]
   exact congrArg (fun z=>(z,([]:List Str))) (C0w hy b)
 rw[if_neg hx,if_neg hy] at h0
 exact absurd rfl h0
theorem G5m{x y:Nm}(h:sgs x y=[]):x.k≠ .end_/\y.k≠ .end_:=by
 unfold sgs at h
 rw[List.append_eq_nil_iff] at h
 refine⟨fun z=>?_,fun z=>?_⟩
 . rw[if_pos z] at h
   cases h.1
 rw[if_pos z] at h
 cases h.2
theorem C9n(a b:Bool)(s t:Int)(ys:List V)(hl:ys.length=((List.range 2).filter fun i=>if i=0 then a else b).length)(hR:∀(j i:Nat) (y:V),((List.range 2).filter fun i=>if i=0 then a else b)[j]?=some i ->ys[j]?=some y ->y= .int (if i=0 then s else t)):ys=((if a=true then [s] else [])++(if b=true then [t] else [])).map V.int:=by
 cases a<;>cases b
 . rw[show((List.range 2).filter fun i=>if i=0 then false else false)=[] by decide] at hl
   match ys,hl with
   | [],_=>rfl
 . rw[show((List.range 2).filter fun i=>if i=0 then false else true)=[1] by decide] at hl hR
   match ys,hl with
   | [y],_=>rw[hR 0 1 y rfl rfl];rfl
 . rw[show((List.range 2).filter fun i=>if i=0 then true else false)=[0] by decide] at hl hR
   match ys,hl with
   | [y],_=>rw[hR 0 0 y rfl rfl];rfl
 rw[show((List.range 2).filter fun i=>if i=0 then true else true)=[0,1] by decide] at hl hR
 match ys,hl with
 | [y,z],_=>rw[hR 0 0 y rfl rfl,hR 1 1 z rfl rfl];rfl
noncomputable def D9v (x y:Nm):Nat ->Int
 |0=>0
 |1=>x.wh (V8 x y)
 |_=>Z1 x y
theorem D9t{x:Nm}{q:Int}(s0:0<=x.s)(s1:x.s<=1):atI [V.int (x.f*B0 (x.p-q)),V.int (0-x.f*B0 (x.p-q))] x.s=some (.int (x.wh q)):=by
 unfold Nm.wh
 rcases(by omega:x.s=0\/x.s=1) with e|e
 . rw[e,if_neg (by decide)]
   rfl
 rw[e,if_pos rfl, <-Int.zero_sub]
 rfl
noncomputable abbrev stS (rt q1 q2:Addr) (x3 x4 x5 x6 x7 x8 x9 x10 x11 x12:Option V):L2.St:=[sr rt,sr q1,sr q2,x3,x4,x5,x6,x7,x8,x9,x10,x11,x12]
def D3f:Sp:=fun vs H Q _=>∃rt v q1 q2 x1 x2,vs=[.ref rt,.ref q1,.ref q2]/\H rt=some (.tup (Cv.tup v))/\v.Ok/\H q1=some (.tup (Nm.vs x1))/\H q2=some (.tup (Nm.vs x2))/\x1.Wb/\x2.Wb/\x1.p-x2.p<=600/\x2.p-x1.p<=600/\(Z1 x1 x2≠0 ->SzL (A3x (Z1 x1 x2)*B0 (V8 x1 x2))/\SzL (1*B0 (-(V8 x1 x2))))/\
 ∀L q zs H',A9k x1 x2 L ->A8 H H' ->A5b H' q (A4d v x1 x2 L).1 zs ->(∀z,z∈zs↔z∈(A4d v x1 x2 L).2) ->Q (.ref q) H'
theorem scLSum:B8 ["_law_rules_here","_law_one","_law_other","_law_signs","_law_power","_law_total","_law_kind","_law_sign","_law_figures","_law_own","_law_worth","_law_high","_law_low"] Q46 (A6 C3s):=scK
theorem D9m(D:Def K mg "_law_sum" Q46 C3s f fd)(dA:Def K mg "_law_ten" ["_law_count"] A7x f1 fd1)(dB:sI P w K mg base 1 f1 fd1 ["_law_count"] A6g)(dC:Def K mg "_law_nought" Q41 A6z f2 fd2)(dD:sI P w K mg base 1 f2 fd2 Q41 B4j)
   (dE:Def K mg "_law_scaled" Q12 A2n f3 fd3) (dF:sI P w K mg base 2 f3 fd3 Q12 A5n) (dG:Def K mg "_law_settled" Q43 A3e f4 fd4) (dH:sI P w K mg base 4 f4 fd4 Q43 B3a) (O:Own mg):sI P w K mg base 5 f fd Q46 D3f:=by
 refine D.F.okE scLSum (fun vs H Q E h=>?_) (fun X cdv A outer s H vs Q E hX hr hx h=>?_)
 . obtain⟨rt,v,q1,q2,x1,x2,rfl,_⟩:=h
   rfl
 subst hX
 obtain⟨rt,v,q1,q2,x1,x2,rfl,er,ok,e1,e2,w1,w2,d12,d21,hsz,k⟩:=h
 have hu:=hr.units
 have z0:0<=sizeLine:=Nat.zero_le _
 have z1:1<=sizeLine:=C9 (by decide)
 have z2:2<=sizeLine:=C9 (by decide)
 have z4:4<=sizeLine:=C9 (by decide)
 refine⟨_,(A5 (A9 (J1 (C8 A3j C7 (U7 (A0 (G4 U8 (pv 1) A2 (fun _ _=>rfl)) (A0 (G4 U8 (pv 2) A2 (fun _ _=>rfl)) A3))) (by rfl)) (A7 (B5 (U7 (A0 (U7 (A0 C7 (A0 A2 (A0 A2 (A0 A2 A3))))) (A0 (U0 A3) A3))))) D6)) (A5 (A9 (D1t (i:=3) (N:=Q11) (F:=[]) (js:=[]) (D3.of0 ⟨rfl,by decide+kernel,by decide+kernel,by decide+kernel,by decide+kernel⟩ (by rfl)) (.inl hr.hd) rfl (B6t (U7 (A0 (pv 1) (A0 (pv 2) A3)))) rfl (fun C s₀ H₀ ex pn h=>D4 (i:=0) (by decide+kernel:(Q11:List Str).Nodup) rfl (Or.inl rfl)) (fun C s₀ H₀ ex pn h=>(C8 G8 (G4 (B0h (K:=K) rfl) (pv 0) A2 (fun _ _=>rfl)) C7 (C6 _))) (fun C s₀ H₀ ex pn h=>(G4 (B0h (K:=K) rfl) (pv 0) A2 (fun _ _=>rfl))) scLSum.nd rfl (Or.inl rfl))) (A5 (A9 (J1 (PW.pt (A6a (C8 (B6h hr.units) (pv 3) (U0 (A0 A2 (A0 A2 A3))) (C6 _)) (A8f (C8 (B6h hr.units) (pv 3) (U0 (A0 A2 (A0 A2 A3))) (C6 _))))) (A7 (B5 (U7 (A0 (U7 (A0 C7 (A0 A2 (A0 A2 (A0 A2 A3))))) (A0 (U0 (A0 C7 A3)) A3))))) D6)) (A5 (A9 (J1 (C8 (B6g hr.units) (pv 3) (U0 A3) (C6 _)) (A7 (B5 (U7 (A0 (U7 (A0 C7 (A0 (G4 U5 (pv 3) A2 (fun _ _=>rfl)) (A0 A2 (A0 A2 A3))))) (A0 (U0 A3) A3))))) D6)) (A5 (A9 (D5 (i:=4) scLSum.nd rfl (Or.inl rfl) (V7 (B4k rfl) (by rfl) O.min_ boot_min (A0 (G4 U8 (pv 1) A2 (fun _ _=>rfl)) (A0 (G4 U8 (pv 2) A2 (fun _ _=>rfl)) A3))))) (A5 (A9 (D5 (i:=5) scLSum.nd rfl (Or.inl rfl) A2)) (A5 (A9 (B2q PassesOwn.leaving rfl (B6t (U7 (A0 (pv 1) (A0 (pv 2) A3)))) (A1w rfl (D9 (D4 (i:=6) scLSum.nd rfl (Or.inl rfl)) (D9 (D4 (i:=7) scLSum.nd rfl (Or.inl rfl)) (D9 (D4 (i:=8) scLSum.nd rfl (Or.inl rfl)) (D9 (D4 (i:=9) scLSum.nd rfl (Or.inl rfl)) A0d))))) (A5 (A9 (D5 (i:=10) scLSum.nd rfl (Or.inl rfl) (B7 U9 (pv 8) (V5 dA dB hr hx (A0 (B7 Y2 (pv 9) (pv 4)) A3))))) (A7 (A9 (D5 (i:=5) scLSum.nd rfl (Or.inl rfl) (B7 V1 (pv 5) (G4 U5 (U0 (A0 (pv 10) (A0 (B7 Y2 A2 (pv 10)) A3))) (pv 7) (fun _ _=>rfl))))))))) (A5 (A9 (J1 (C8 G8 (pv 5) A2 (C6 _)) (A5 (A9 (D5 (i:=7) scLSum.nd rfl (Or.inl rfl) (G4 U8 (pv 1) A2 (fun _ _=>rfl)))) (A5 (A9 (J1 (C8 B1c (G4 U8 (pv 1) A2 (fun _ _=>rfl)) (G4 U8 (pv 2) A2 (fun _ _=>rfl)) (C6 _)) (A7 (A9 (D5 (i:=7) scLSum.nd rfl (Or.inl rfl) (V6 A0a (by rfl) O.int_ boot_int (A0 (G5 G8 (G4 U8 (pv 0) A2 (fun _ _=>rfl)) C7 (C6 _)) A3))))) D6)) (A7 (B5 (V5 dC dD hr hx (A0 (pv 0) (A0 (pv 7) (A0 (pv 4) A3)))))))) D6)) (A5 (A9 (A2m (V5 dE dF hr hx (A0 (V7 B9n (by rfl) O.abs_ boot_abs (A0 (pv 5) A3)) (A0 A2 (A0 (pv 4) A3)))) (A1w rfl (D9 (D4 (i:=11) scLSum.nd rfl (Or.inl rfl)) (D9 (D4 (i:=12) scLSum.nd rfl (Or.inl rfl)) A0d))))) (A7 (B5 (V5 dG dH hr hx (A0 (pv 0) (A0 (V6 A0a (by rfl) O.int_ boot_int (A0 (G5 A2t (pv 5) A2 (C6 _)) A3)) (A0 (pv 11) (A0 (pv 12) (A0 (pv 4) A3))))))))))))))))),?_⟩
 let I_:L2.St ->L2.Hp ->Prop:=fun σ' H'=>A8 H H'/\x1.k≠ .none/\x2.k≠ .none/\σ'=stS rt q1 q2 none none none none none none none none none none
 refine⟨I_,?_,?_⟩
 . refine⟨_,rfl,q1,_,_,_,rfl,rfl,SqT.of e1,D7 (j:=0) rfl,_,rfl,q2,_,_,_,rfl,rfl,SqT.of e2,D7 (j:=0) rfl,z2,fun p np=>⟨p,_,rfl,.inr (SqT.of A4),rfl,rfl,_,rfl,?_⟩⟩
   have u:=A8.upd (o:= .tup [.str x1.k.str,.str x2.k.str]) np
   rw[show([.str x1.k.str,.str x2.k.str]:List V)=[x1.k.str,x2.k.str].map V.str from rfl,A0s]
   refine D9p (fun e=>?_) (fun e=>?_)
   . have hn:x1.k= .none\/x2.k= .none:=by
       have:=List.contains_iff_mem.mp e
       simp only[List.mem_cons,List.not_mem_nil,or_false] at this
       exact this.imp (fun h=>(Kd.str_inj h).symm) (fun h=>(Kd.str_inj h).symm)
     refine⟨z4,fun p2 np2=>⟨Nat.zero_le _,fun l nl=>⟨z2,fun q nq=>?_⟩⟩⟩
     have u2:=A8.upd (o:= .tup [.str "none",.int 0,.int 0,.int 0]) np2
     have u3:=A8.upd (o:= .lst []) nl
     have u4:=A8.upd (o:= .tup [.ref p2,.ref l]) nq
     have eR:A4d v x1 x2 0=(A4e,[]):=by unfold A4d;rw[if_pos hn]
     refine k 0 q [] _ (fun a b=>?_) (u.trans (u2.trans (u3.trans u4))) ?_ ?_
     . rcases hn with h|h
       . rw[h] at a;cases a
       . rw[h] at b;cases b
     . rw[eR]
       exact⟨p2,l,A4,(u3.trans u4) _ _ A4,u4 _ _ A4⟩
     . rw[eR]
       exact fun z=>Iff.rfl
   . have hn:¬("none":Str)∈ [x1.k.str,x2.k.str]:=fun m=>by
       have:=List.contains_iff_mem.mpr m
       exact Bool.false_ne_true ((show List.contains [x1.k.str,x2.k.str] ("none":Str)=false from e).symm.trans this)
     refine⟨u,fun z=>hn ?_,fun z=>hn ?_,rfl⟩
     . rw[z]
       exact List.mem_cons_self
     . rw[z]
       exact List.mem_cons_of_mem _ List.mem_cons_self
 refine L2.hideG fun Z_ z_=>?_
 rintro σ' H1 ⟨s1,k1,k2,rfl⟩
 subst z_
 clear I_
 have e1:=s1 _ _ e1
 have e2:=s1 _ _ e2
 have er:=s1 _ _ er
 let I_:L2.St ->L2.Hp ->Prop:=fun σ' H'=>∃sl,A8 H1 H'/\H' sl=some (.lst ((sgs x1 x2).map V.int))/\σ'=stS rt q1 q2 (some (.ref sl)) none none none none none none none none none
 refine⟨I_,?_,?_⟩
 . refine⟨_,rfl,_,rfl,z2,fun p np=>⟨p,rfl,⟨_,SqT.of A4⟩,?_⟩⟩
   have u:=A8.upd (o:= .tup [.ref q1,.ref q2]) np
   have ep:upd H1 p (.tup [.ref q1,.ref q2]) p=some (.tup [.ref q1,.ref q2]):=A4
   generalize upd H1 p (.tup [.ref q1,.ref q2])=G at u ep
   refine B9x (J:=Itt K p) (n:=2) (fun i=>if i=0 then decide (x1.k= .end_) else decide (x2.k= .end_)) (fun i y _=>y= .int (if i=0 then x1.s else x2.s)) (by decide) (fun _ _ _ _ _ _ h _ _=>h) (fun i H2 Qy Qn hi sm hy hn=>?_) (fun H2 sm=>⟨_,SqT.of (sm _ _ ep),Nat.le_refl 2⟩) (fun D H' ys sm nD eD hlen hR=>?_)
   . obtain⟨q,x,hq,ex,hf,hs⟩:∃(q:Addr) (x:Nm),([.ref q1,.ref q2]:List V)[i]?=some (.ref q)/\H2 q=some (.tup (Nm.vs x))/\(if i=0 then decide (x1.k= .end_) else decide (x2.k= .end_))=decide (x.k= .end_)/\(if i=0 then x1.s else x2.s)=x.s:=by
       rcases(by omega:i=0\/i=1) with rfl|rfl
       . exact⟨q1,x1,rfl,sm _ _ (u _ _ e1),rfl,rfl⟩
       . exact⟨q2,x2,rfl,sm _ _ (u _ _ e2),rfl,rfl⟩
     rw[hf] at hy hn
     refine⟨⟨_,_,SqT.of (sm _ _ ep),hq⟩,fun y H4 yl=>?_⟩
     obtain⟨rfl,yl⟩:=yl
     obtain rfl:=Option.some.inj ((yl _ (SqT.of (sm _ _ ep))).symm.trans hq)
     refine⟨_,rfl,q,_,_,_,rfl,rfl,SqT.of ex,D7 (j:=0) rfl,rfl,_,rfl,V0 (fun h=>?_) (fun h=>?_)⟩
     . exact⟨_,rfl,q,_,_,_,rfl,rfl,SqT.of ex,D7 (j:=1) rfl,hy (decide_eq_true (eqS (b:= .end_) h)) _ _ (A8.refl _) (by rw[hs])⟩
     . exact hn (decide_eq_false (neS (b:= .end_) h)) _ (A8.refl _)
   . refine⟨D,u.trans sm,?_,rfl⟩
     rw[eD]
     congr 2
     rw[C9n _ _ _ _ ys hlen hR]
     unfold sgs
     by_cases hx:x1.k= .end_<;>by_cases hy:x2.k= .end_<;>simp[hx,hy]
 refine L2.hideG fun Z_ z_=>?_
 rintro σ' H2 ⟨sl,s2,esl,rfl⟩
 subst z_
 clear I_
 have e1:=s2 _ _ e1
 have e2:=s2 _ _ e2
 have er:=s2 _ _ er
 have i7:=G4r (x:=x1) (y:=x2) w1.s0 w1.s1 w2.s0 w2.s1
 have sh7:=shN _ i7
 have s12:=s1.trans s2
 have np:¬(x1.k= .none\/x2.k= .none):=fun z=>z.elim k1 k2
 have fin:∀(res:Nm) (rs:List Str) (t l q:Addr) (H':Hp),(x1.k= .end_\/x2.k= .end_) ->B7r x1 x2=(res,rs) ->A8 H2 H' ->H' q=some (.tup [.ref t,.ref l]) ->H' t=some (.tup res.vs) ->H' l=some (.lst (rs.map V.str)) ->Q (.ref q) H':=fun res rs t l q H' he hR s' eq et el=>by
   have eR:A4d v x1 x2 0=(res,rs):=by
     unfold A4d B6u
     rw[if_neg np,if_pos he,hR]
   refine k 0 q rs H' (fun a b=>?_) (s12.trans s') ?_ ?_
   . rcases he with h|h
     . rw[h] at a;cases a
     . rw[h] at b;cases b
   . rw[eR]
     exact⟨t,l,eq,et,el⟩
   . rw[eR]
     exact fun z=>Iff.rfl
 let I_:L2.St ->L2.Hp ->Prop:=fun σ' H'=>A8 H2 H'/\¬(sgs x1 x2=[0,1]\/sgs x1 x2=[1,0])/\σ'=stS rt q1 q2 (some (.ref sl)) none none none none none none none none none
 refine⟨I_,?_,?_⟩
 . have void:∀(H3:Hp),A8 H2 H3 ->(sgs x1 x2=[0,1]\/sgs x1 x2=[1,0]) ->∀p2,H3 p2=none ->∀l,upd H3 p2 (.tup [.str "none",.int 0,.int 0,.int 0]) l=none ->∀q,upd (upd H3 p2 (.tup [.str "none",.int 0,.int 0,.int 0])) l (.lst [.str "void"]) q=none ->Q (.ref q) (upd (upd (upd H3 p2 (.tup [.str "none",.int 0,.int 0,.int 0])) l (.lst [.str "void"])) q (.tup [.ref p2,.ref l])):=fun H3 s3 hv p2 np2 l nl q nq=>by
     have u2:=A8.upd (o:= .tup [.str "none",.int 0,.int 0,.int 0]) np2
     have u3:=A8.upd (o:= .lst [.str "void"]) nl
     have u4:=A8.upd (o:= .tup [.ref p2,.ref l]) nq
     obtain⟨he,hR⟩:=D1a k1 k2 w1 w2 hv
     exact fin A4e ["void"] p2 l q _ he hR (s3.trans (u2.trans (u3.trans u4))) A4 ((u3.trans u4) _ _ A4) (u4 _ _ A4)
   refine⟨_,rfl,z2,fun l1 n1=>?_⟩
   have u1:=A8.upd (o:= .lst [.int 0,.int 1]) n1
   refine⟨rdN (sgs x1 x2),rdN [0,1],A8s (u1 _ _ esl),A8s A4,sh7,shN _ (by decide),_,rfl,?_⟩
   rw[if_neg Bool.false_ne_true,eqN _ i7 _ (by decide)]
   refine V0 (fun h=>⟨z4,fun p2 np2=>⟨z1,fun l nl=>⟨z2,fun q nq=>void _ u1 (.inl h) p2 np2 l nl q nq⟩⟩⟩) (fun h=>?_)
   refine⟨_,rfl,z2,fun l2 n2=>?_⟩
   have u2:=A8.upd (o:= .lst [.int 1,.int 0]) n2
   refine⟨rdN (sgs x1 x2),rdN [1,0],A8s ((u1.trans u2) _ _ esl),A8s A4,sh7,shN _ (by decide),_,rfl,?_⟩
   rw[if_neg Bool.false_ne_true,eqN _ i7 _ (by decide)]
   exact V0 (fun h=>⟨z4,fun p2 np2=>⟨z1,fun l nl=>⟨z2,fun q nq=>void _ (u1.trans u2) (.inr h) p2 np2 l nl q nq⟩⟩⟩) (fun h'=>⟨u1.trans u2,fun z=>z.elim h h',rfl⟩)
 refine L2.hideG fun Z_ z_=>?_
 rintro σ' H3 ⟨s3,hnv,rfl⟩
 subst z_
 clear I_
 let I_:L2.St ->L2.Hp ->Prop:=fun σ' H'=>A8 H2 H'/\sgs x1 x2=[]/\σ'=stS rt q1 q2 (some (.ref sl)) none none none none none none none none none
 refine⟨I_,?_,?_⟩
 . refine⟨_,rfl,z0,fun l1 n1=>?_⟩
   have u1:=A8.upd (o:= .lst []) n1
   refine⟨rdN (sgs x1 x2),rdN [],A8s (u1 _ _ (s3 _ _ esl)),A8s A4,sh7,shN _ (by decide),_,rfl,?_⟩
   rw[if_pos rfl,eqN _ i7 _ (by decide)]
   by_cases h:sgs x1 x2=[]
   . exact B2t h ⟨s3.trans u1,h,rfl⟩
   . rw[decide_eq_false h]
     obtain⟨sg,r,es,he,hR⟩:=G0c w1 w2 hnv h
     refine Z0 ⟨_,rfl,sl,_,_,_,rfl,rfl,SqL.of (u1 _ _ (s3 _ _ esl)),(by rw[es];exact D7 (j:=0) rfl:_=some (.int sg)),z4,fun p2 np2=>⟨z0,fun l nl=>⟨z2,fun q nq=>?_⟩⟩⟩
     have u2:=A8.upd (o:= .tup [.str "end",.int sg,.int 0,.int 0]) np2
     have u3:=A8.upd (o:= .lst []) nl
     have u4:=A8.upd (o:= .tup [.ref p2,.ref l]) nq
     exact fin ⟨.end_,sg,0,0⟩ [] p2 l q _ he hR (s3.trans (u1.trans (u2.trans (u3.trans u4)))) A4 ((u3.trans u4) _ _ A4) (u4 _ _ A4)
 clear s3
 refine L2.hideG fun Z_ z_=>?_
 rintro σ' H4 ⟨s3,hse,rfl⟩
 subst z_
 clear I_
 have nE:=G5m hse
 have p1:x1.k= .plain:=C3x k1 nE.1
 have p2:x2.k= .plain:=C3x k2 nE.2
 obtain⟨m1,m2,m3⟩:=C4f x1 x2
 have b10:=w1.bg.p0;have b11:=w1.bg.p1;have b20:=w2.bg.p0;have b21:=w2.bg.p1
 have e1:=s3 _ _ e1
 have e2:=s3 _ _ e2
 have er:=s3 _ _ er
 have s14:=s12.trans s3
 refine⟨fun σ' H'=>H'=H4/\σ'=stS rt q1 q2 (some (.ref sl)) (some (.int (V8 x1 x2))) none none none none none none none none,⟨_,rfl,q1,_,_,_,rfl,rfl,SqT.of e1,D7 (j:=3) rfl,_,rfl,q2,_,_,_,rfl,rfl,SqT.of e2,D7 (j:=3) rfl,_,_,rfl,rfl,rfl⟩,?_⟩
 rintro σ' H5 ⟨rfl,rfl⟩
 refine⟨fun σ' H'=>H'=H5/\σ'=stS rt q1 q2 (some (.ref sl)) (some (.int (V8 x1 x2))) (some (.int 0)) none none none none none none none,⟨rfl,rfl⟩,?_⟩
 rintro σ' H6 ⟨rfl,rfl⟩
 let I_:L2.St ->L2.Hp ->Prop:=fun σ' H'=>∃y6 y7 y8 y9 y10,A8 H6 H'/\σ'=stS rt q1 q2 (some (.ref sl)) (some (.int (V8 x1 x2))) (some (.int (Z1 x1 x2))) y6 y7 y8 y9 y10 none none
 refine⟨I_,?_,?_⟩
 . refine⟨_,rfl,_,rfl,z2,fun p np=>⟨p,rfl,⟨_,SqT.of A4⟩,?_⟩⟩
   have u:=A8.upd (o:= .tup [.ref q1,.ref q2]) np
   have ep:upd H6 p (.tup [.ref q1,.ref q2]) p=some (.tup [.ref q1,.ref q2]):=A4
   generalize upd H6 p (.tup [.ref q1,.ref q2])=G at u ep
   refine G0k (xs:=[.ref q1,.ref q2]) (fun i σ H'=>∃y6 y7 y8 y9 y10,A8 G H'/\σ=stS rt q1 q2 (some (.ref sl)) (some (.int (V8 x1 x2))) (some (.int (D9v x1 x2 i))) y6 y7 y8 y9 y10 none none) ⟨none,none,none,none,none,A8.refl _,rfl⟩ ?_ ?_ ?_
   . rintro i σ H' _ ⟨_,_,_,_,_,s',_⟩
     exact SqT.of (s' _ _ ep)
   . rintro i y σ H' hi ⟨y6,y7,y8,y9,y10,s',rfl⟩
     obtain⟨q,x,hq,ex,wx,px,tx⟩:∃(q:Addr) (x:Nm),y= .ref q/\H' q=some (.tup (Nm.vs x))/\x.Wb/\(V8 x1 x2<=x.p/\x.p-V8 x1 x2<=600)/\D9v x1 x2 i+x.wh (V8 x1 x2)=D9v x1 x2 (i+1):=by
       match i,hi with
       |0,hi=>exact⟨q1,x1,(Option.some.inj hi).symm,s' _ _ (u _ _ e1),w1,⟨m1,by omega⟩,by show 0+x1.wh (V8 x1 x2)=x1.wh (V8 x1 x2);omega⟩
       |1,hi=>exact⟨q2,x2,(Option.some.inj hi).symm,s' _ _ (u _ _ e2),w2,⟨m2,by omega⟩,rfl⟩
       |_+2,hi=>exact absurd hi (by simp)
     subst hq
     have c0:=wx.bg.p0;have c1:=wx.bg.p1
     refine⟨q,_,rfl,SqT.of ex,rfl,_,_,rfl,_,_,rfl,_,_,rfl,_,_,rfl,rfl,?_⟩
     refine⟨fun σ' H''=>H''=H'/\σ'=stS rt q1 q2 (some (.ref sl)) (some (.int (V8 x1 x2))) (some (.int (D9v x1 x2 i))) (some (.str x.k.str)) (some (.int x.s)) (some (.int x.f)) (some (.int x.p)) (some (.int (x.f*B0 (x.p-V8 x1 x2)))) none none,?_,?_⟩
     . refine⟨_,rfl,_,rfl,_,rfl,_,_,rfl,rfl,(x.p-V8 x1 x2).toNat,?_,by omega,_,_,rfl,rfl,IntMulOk.of_bits wx.bg.bits (A8n (by omega)),rfl,rfl⟩
       show [V.int (x.p-V8 x1 x2)]=[V.int ((x.p-V8 x1 x2).toNat:Int)]
       rw[Int.toNat_of_nonneg (by omega)]
     rintro σ' H'' ⟨rfl,rfl⟩
     refine⟨_,?_,fun _ _ h=>h⟩
     refine⟨_,rfl,_,rfl,_,rfl,_,_,rfl,rfl,z2,fun l nl=>⟨_,rfl,l,_,_,_,rfl,rfl,SqL.of A4,D9t wx.s0 wx.s1,_,_,rfl,rfl,?_⟩⟩
     exact⟨_,_,_,_,_,s'.trans (A8.upd nl),by rw[<-tx];rfl⟩
   . rintro σ H' ⟨y6,y7,y8,y9,y10,s',rfl⟩
     exact⟨y6,y7,y8,y9,y10,u.trans s',rfl⟩
 refine L2.hideG fun Z_ z_=>?_
 rintro σ' H7 ⟨y6,y7,y8,y9,y10,s7,rfl⟩
 subst z_
 clear I_
 have e1:=s7 _ _ e1
 have e2:=s7 _ _ e2
 have er:=s7 _ _ er
 have s17:=s14.trans s7
 have nE':¬(x1.k= .end_\/x2.k= .end_):=fun z=>z.elim nE.1 nE.2
 let I_:L2.St ->L2.Hp ->Prop:=fun σ' H'=>H'=H7/\¬Z1 x1 x2=0/\σ'=stS rt q1 q2 (some (.ref sl)) (some (.int (V8 x1 x2))) (some (.int (Z1 x1 x2))) y6 y7 y8 y9 y10 none none
 refine⟨I_,?_,?_⟩
 . refine⟨_,rfl,rfl,_,rfl,V0 (fun h=>?_) (fun h=>⟨rfl,fun z=>h (congrArg V.int z),rfl⟩)⟩
   have h:Z1 x1 x2=0:=V.int.inj h
   refine⟨fun σ' H'=>H'=H7/\σ'=stS rt q1 q2 (some (.ref sl)) (some (.int (V8 x1 x2))) (some (.int (Z1 x1 x2))) y6 (some (.int x1.s)) y8 y9 y10 none none,⟨_,rfl,q1,_,_,_,rfl,rfl,SqT.of e1,D7 (j:=1) rfl,rfl,rfl⟩,?_⟩
   rintro σ' H8 ⟨rfl,rfl⟩
   let I_:L2.St ->L2.Hp ->Prop:=fun σ' H'=>H'=H8/\σ'=stS rt q1 q2 (some (.ref sl)) (some (.int (V8 x1 x2))) (some (.int (Z1 x1 x2))) y6 (some (.int (A4q v.y x1.s x2.s))) y8 y9 y10 none none
   refine⟨I_,?_,?_⟩
   . refine⟨_,rfl,q1,_,_,_,rfl,rfl,SqT.of e1,D7 (j:=1) rfl,_,rfl,q2,_,_,_,rfl,rfl,SqT.of e2,D7 (j:=1) rfl,rfl,_,rfl,?_⟩
     by_cases hs:x1.s=x2.s
     . refine B2t (congrArg V.int hs) ⟨rfl,?_⟩
       unfold A4q
       rw[if_pos hs]
     . rw[decide_eq_false (fun z=>hs (V.int.inj z):¬V.int x1.s=V.int x2.s)]
       refine Z0 ⟨_,?_,fun _ _ h=>h⟩
       refine⟨_,rfl,rt,_,_,_,rfl,rfl,SqT.of er,D7 (j:=1) rfl,rfl,.inr ⟨_,rfl,rfl,?_⟩⟩
       unfold A4q
       rw[if_neg hs]
       have:G9e v.y=(if decide (V.str v.y.name=V.str ("floor":Str))=true then 1 else 0):=by cases v.y<;>decide+kernel
       rw[this]
       rfl
   rintro σ' H9 ⟨rfl,rfl⟩
   clear I_
   refine⟨_,rfl,_,rfl,_,rfl,rt,v,A4q v.y x1.s x2.s,V8 x1 x2,rfl,er,ok,fun q H' s' du=>?_⟩
   have eR:A4d v x1 x2 0=(C5g v (A4q v.y x1.s x2.s) (V8 x1 x2),[]):=by
     unfold A4d B6u
     rw[if_neg np,if_neg nE',if_pos h]
   refine k 0 q [] H' (fun _ _ z=>absurd h z) (s17.trans s') ?_ ?_
   . rw[eR];exact du
   . rw[eR]
     exact fun z=>Iff.rfl
 refine L2.hideG fun Z_ z_=>?_
 rintro σ' H8 ⟨rfl,hf,rfl⟩
 subst z_
 clear I_
 obtain⟨a1,a2⟩:=hsz hf
 have sz:=C1m w1.bg w2.bg hf
 let I_:L2.St ->L2.Hp ->Prop:=fun σ' H'=>A8 H8 H'/\σ'=stS rt q1 q2 (some (.ref sl)) (some (.int (V8 x1 x2))) (some (.int (Z1 x1 x2))) y6 y7 y8 y9 y10 (some (.int (A3x (Z1 x1 x2)*B0 (V8 x1 x2)))) (some (.int (1*B0 (-(V8 x1 x2)))))
 refine⟨I_,?_,?_⟩
 . refine⟨_,rfl,_,rfl,_,rfl,A3x (Z1 x1 x2),1,V8 x1 x2,rfl,by omega,by omega,A4x sz (by omega),A4x C1z (by omega),fun q H1 s1 eq=>?_⟩
   exact⟨q,_,rfl,SqT.of eq,rfl,_,_,rfl,_,_,rfl,rfl,s1,rfl⟩
 rintro σ' H9 ⟨s9,rfl⟩
 clear I_
 have nb:=G2s (Z1 x1 x2)
 have eg:(if decide (Z1 x1 x2<0)=true then(1:Int) else 0)=A7a (Z1 x1 x2):=by
   unfold A7a
   by_cases h:Z1 x1 x2<0
   . rw[decide_eq_true h,if_pos rfl,if_pos h]
   . rw[decide_eq_false h,if_neg Bool.false_ne_true,if_neg h]
 refine⟨_,rfl,_,rfl,_,_,rfl,rfl,.inr ⟨_,rfl,_,rfl,_,rfl,_,rfl,rt,v,A7a (Z1 x1 x2),_,_,V8 x1 x2,by rw[<-eg];rfl,s9 _ _ er,ok,nb.1,nb.2,a1,a2,fun L p zs H' ld s' du hz=>?_⟩⟩
 have es:=B7t v (A7a (Z1 x1 x2)) (A3x (Z1 x1 x2)) 1 (V8 x1 x2) L (V8 x1 x2) (by decide)
 rw[es] at du hz
 have eR:A4d v x1 x2 L=A0z v (A7a (Z1 x1 x2)) (A3x (Z1 x1 x2)) 1 (V8 x1 x2) L (V8 x1 x2):=by
   unfold A4d B6u
   rw[if_neg np,if_neg nE',if_neg hf]
 refine k L p zs H' (fun _ _ _=>lead_scale.mp ld) (s17.trans (s9.trans s')) ?_ ?_
 . rw[eR];exact du
 rw[eR];exact hz
noncomputable abbrev A3h:Stmt:=(top 89)
noncomputable abbrev B0v:Stmt:=(top 90)
noncomputable abbrev B1a:Stmt:=(top 91)
noncomputable def kf (x:Nm):PyData:= .tuple [.str x.k.str,.int x.f]
theorem G6f(x:Nm):PyData.eqv (kf x) (.tuple [.str "plain",.int 0])=C2j x:=by
 unfold C2j kf
 simp only[PyData.eqv,PyData.eqvAll,Bool.and_true]
 rw[show decide (x.k= .plain)=(x.k.str==("plain":Str)) by cases x.k<;>decide+kernel]
 congr 1
theorem inK{x1 x2:Nm}{z:Kd}:List.contains [x1.k.str,x2.k.str] z.str=true↔x1.k=z\/x2.k=z:=by
 rw[List.contains_iff_mem]
 simp only[List.mem_cons,List.not_mem_nil,or_false]
 exact⟨fun h=>h.imp (fun h=>(Kd.str_inj h).symm) (fun h=>(Kd.str_inj h).symm),fun h=>h.imp (fun h=>by rw[h]) (fun h=>by rw[h])⟩
theorem B1z{x y:Nm}(hx:x.Ok)(hy:y.Ok):(Z5 x y).Wb:=by
 have us:=D1e x.s y.s
 have es:=G2d x y
 refine⟨by rw[es];exact us.1,by rw[es];exact us.2,A6y hx hy,fun h=>?_⟩
 unfold Z5 at h ⊢
 split
 . exact⟨rfl,rfl⟩
 rename_i z
 rw[if_neg z] at h
 cases h
def B7h:Sp:=fun vs H Q _=>∃q1 q2 x1 x2,vs=[.ref q1,.ref q2]/\H q1=some (.tup (Nm.vs x1))/\H q2=some (.tup (Nm.vs x2))/\x1.Wf/\x2.Wf/\(EbN x1 x2=true ->∀H',A8 H H' ->Q .non H')/\(EbN x1 x2=false ->∀t H',A8 H H' ->H' t=some (.tup (Z5 x1 x2).vs) ->Q (.ref t) H')
theorem scLProduct:B8 ["_law_one","_law_other","_law_sign"] Q17 (A6 A3h):=scK
theorem C0h(D:Def K mg "_law_product" Q17 A3h f fd)(O:Own mg):sI P w K mg base 1 f fd Q17 B7h:=by
 refine D.F.okE scLProduct (fun vs H Q E h=>?_) (fun X cdv A outer s H vs Q E hX hr hx h=>?_)
 . obtain⟨q1,q2,x1,x2,rfl,_⟩:=h
   rfl
 subst hX
 obtain⟨q1,q2,x1,x2,rfl,e1,e2,w1,w2,kn,kt⟩:=h
 have hu:=hr.units
 have z2:2<=sizeLine:=C9 (by decide)
 have z4:4<=sizeLine:=C9 (by decide)
 have o1:=w1.ok;have o2:=w2.ok
 refine⟨_,(A5 (A9 (D5 (i:=2) scLProduct.nd rfl (Or.inl rfl) (B7 G6j (G4 U8 (pv 0) A2 (fun _ _=>rfl)) (G4 U8 (pv 1) A2 (fun _ _=>rfl))))) (A5 (A9 (J1 (C8 A2b C7 (U7 (A0 (G4 U8 (pv 0) A2 (fun _ _=>rfl)) (A0 (G4 U8 (pv 1) A2 (fun _ _=>rfl)) A3))) (by rfl)) (A7 (B5 (U7 (A0 C7 (A0 (pv 2) (A0 (B7 U9 (G4 U8 (pv 0) A2 (fun _ _=>rfl)) (G4 U8 (pv 1) A2 (fun _ _=>rfl))) (A0 (B7 V1 (G4 U8 (pv 0) A2 (fun _ _=>rfl)) (G4 U8 (pv 1) A2 (fun _ _=>rfl))) A3))))))) D6)) (A5 (A9 (J1 (C8 (G4q hr.units) (U7 (A0 C7 (A0 A2 A3))) (B5m (N:=Q11) (F:=[]) (js:=[]) (D3.of0 ⟨rfl,by decide+kernel,by decide+kernel,by decide+kernel,by decide+kernel⟩ (by rfl)) (.inl hr.hd) rfl (B6t (U7 (A0 (pv 0) (A0 (pv 1) A3)))) rfl (fun C s₀ H₀ ex pn h=>D4 (i:=0) (by decide+kernel:(Q11:List Str).Nodup) rfl (Or.inl rfl)) (fun C s₀ H₀ ex pn h=>(U7 (A0 (G4 (B0h (K:=K) rfl) (pv 0) A2 (fun _ _=>rfl)) (A0 (G4 (B0h (K:=K) rfl) (pv 0) A2 (fun _ _=>rfl)) A3))))) (by rfl)) (A7 (B5 A8r)) D6)) (A7 (B5 (U7 (A0 C7 (A0 (pv 2) (A0 A2 (A0 A2 A3)))))))))),?_⟩
 refine⟨fun σ' H'=>H'=H/\σ'=[sr q1,sr q2,si (A9a x1.s x2.s)],?_,?_⟩
 . refine⟨_,rfl,q1,_,_,_,rfl,rfl,SqT.of e1,D7 (j:=1) rfl,_,rfl,q2,_,_,_,rfl,rfl,SqT.of e2,D7 (j:=1) rfl,_,_,rfl,rfl,rfl,?_⟩
   have:A9a x1.s x2.s=Builtin.bitXor x1.s x2.s:=(G9k o1.s0 o1.s1 o2.s0 o2.s1).symm
   rw[this]
   rfl
 rintro σ' H2 ⟨rfl,rfl⟩
 refine⟨fun σ' H'=>A8 H2 H'/\(x1.k= .end_\/x2.k= .end_)/\σ'=[sr q1,sr q2,si (A9a x1.s x2.s)],?_,?_⟩
 . refine⟨_,rfl,q1,_,_,_,rfl,rfl,SqT.of e1,D7 (j:=0) rfl,_,rfl,q2,_,_,_,rfl,rfl,SqT.of e2,D7 (j:=0) rfl,z2,fun p np=>⟨p,_,rfl,.inr (SqT.of A4),rfl,rfl,_,rfl,?_⟩⟩
   have u:=A8.upd (o:= .tup [.str x1.k.str,.str x2.k.str]) np
   rw[show([.str x1.k.str,.str x2.k.str]:List V)=[x1.k.str,x2.k.str].map V.str from rfl,A0s]
   cases hc:List.contains [x1.k.str,x2.k.str] Kd.end_.str with
   | true=>
     have he:x1.k= .end_\/x2.k= .end_:=(inK (z:= .end_)).mp hc
     have hc':List.contains [x1.k.str,x2.k.str] ("end":Str)=true:=hc
     rw[hc']
     exact Y3 ⟨u,he,rfl⟩
   | false=>
     have hc':List.contains [x1.k.str,x2.k.str] ("end":Str)=false:=hc
     rw[hc']
     have nE:¬(x1.k= .end_\/x2.k= .end_):=fun z=>Bool.false_ne_true (hc.symm.trans ((inK (z:= .end_)).mpr z))
     have hA:Z5 x1 x2=D3r x1 x2:=by unfold Z5;rw[if_neg nE]
     have hE:EbN x1 x2=false:=by unfold EbN;rw[decide_eq_false nE];rfl
     refine Z0 ⟨_,rfl,_,rfl,q1,_,_,_,rfl,rfl,SqT.of (u _ _ e1),D7 (j:=2) rfl,_,rfl,q2,_,_,_,rfl,rfl,SqT.of (u _ _ e2),D7 (j:=2) rfl,_,_,rfl,rfl,D0b o1 o2,_,rfl,q1,_,_,_,rfl,rfl,SqT.of (u _ _ e1),D7 (j:=3) rfl,_,rfl,q2,_,_,_,rfl,rfl,SqT.of (u _ _ e2),D7 (j:=3) rfl,_,_,rfl,rfl,z4,fun t nt=>kt hE t _ (u.trans (A8.upd nt)) ?_⟩
     rw[hA]
     exact A4
 refine L2.hideG fun Z_ z_=>?_
 rintro σ' H3 ⟨s3,he,rfl⟩
 subst z_
 have e1:=s3 _ _ e1
 have e2:=s3 _ _ e2
 have hA:Z5 x1 x2=⟨.end_,A9a x1.s x2.s,0,0⟩:=by unfold Z5;rw[if_pos he]
 refine⟨fun σ' H'=>A8 H3 H'/\EbN x1 x2=false/\σ'=[sr q1,sr q2,si (A9a x1.s x2.s)],?_,?_⟩
 . refine⟨z2,fun pp npp=>⟨_,rfl,_,rfl,z2,fun p npq=>?_⟩⟩
   have v1:=A8.upd (o:= .tup [.str "plain",.int 0]) npp
   have v2:=A8.upd (o:= .tup [.ref q1,.ref q2]) npq
   have ep:upd (upd H3 pp (.tup [.str "plain",.int 0])) p (.tup [.ref q1,.ref q2]) p=some (.tup [.ref q1,.ref q2]):=A4
   have epp:=v2 _ _ (show upd H3 pp (.tup [.str "plain",.int 0]) pp=some (.tup [.str "plain",.int 0]) from A4)
   have vv:=v1.trans v2
   generalize upd (upd H3 pp (.tup [.str "plain",.int 0])) p (.tup [.ref q1,.ref q2])=G at vv ep epp
   refine⟨p,rfl,⟨_,SqT.of ep⟩,A1m (J:=Itt K p) (n:=2) (fun i y H'=>∃t:Addr,y= .ref t/\H' t=some (.tup [.str (if i=0 then x1 else x2).k.str,.int (if i=0 then x1 else x2).f])) (by decide) (fun i y H1 H2 D l h hD e=>?_) (fun i H2 Qy hi sm hy=>?_) (fun H2 sm=>⟨_,SqT.of (sm _ _ ep),Nat.le_refl 2⟩) (fun D H' ys sm nD eD hlen hR=>?_)⟩
   . obtain⟨t,rfl,ht⟩:=h
     exact⟨t,rfl,e _ _ ht (U4 ht hD (by intro z;cases z))⟩
   . obtain⟨q,hq,ex⟩:∃q:Addr,([.ref q1,.ref q2]:List V)[i]?=some (.ref q)/\H2 q=some (.tup (Nm.vs (if i=0 then x1 else x2))):=by
       rcases(by omega:i=0\/i=1) with rfl|rfl
       . exact⟨q1,rfl,sm _ _ (vv _ _ e1)⟩
       . exact⟨q2,rfl,sm _ _ (vv _ _ e2)⟩
     refine⟨⟨_,_,SqT.of (sm _ _ ep),hq⟩,fun y H4 yl=>?_⟩
     obtain⟨rfl,yl⟩:=yl
     obtain rfl:=Option.some.inj ((yl _ (SqT.of (sm _ _ ep))).symm.trans hq)
     exact⟨_,rfl,q,_,_,_,rfl,rfl,SqT.of ex,D7 (j:=0) rfl,_,rfl,q,_,_,_,rfl,rfl,SqT.of ex,D7 (j:=2) rfl,z2,fun t nt=>hy _ _ (A8.upd nt) ⟨t,rfl,A4⟩⟩
   . match ys,hlen with
     | [y0,y1],_=>
       obtain⟨t0,rfl,h0⟩:=hR 0 y0 rfl
       obtain⟨t1,rfl,h1⟩:=hR 1 y1 rfl
       have h0:H' t0=some (.tup [.str x1.k.str,.int x1.f]):=h0
       have h1:H' t1=some (.tup [.str x2.k.str,.int x2.f]):=h1
       refine⟨.tuple [.str "plain",.int 0],[kf x1,kf x2],.tup (SqT.of (sm _ _ epp)) (.cons (.str _) (.cons (.int _) .nil)),.lst (SqL.of eD) (.cons (.tup (SqT.of h0) (.cons (.str _) (.cons (.int _) .nil))) (.cons (.tup (SqT.of h1) (.cons (.str _) (.cons (.int _) .nil))) .nil)),?_,by decide+kernel,by decide+kernel,_,rfl,?_⟩
       . have c1:=okK x1.k
         have c2:=okK x2.k
         simp[kf,PyData.canLayAll0,PyData.canLay0,c1,c2]
       . rw[show([kf x1,kf x2].any fun e=>PyData.eqv e (.tuple [.str "plain",.int 0]))=EbN x1 x2 by simp[G6f,EbN,he]]
         cases hb:EbN x1 x2 with
         |false=>exact Y3 ⟨vv.trans sm,rfl,rfl⟩
         |true=>exact Z0 (kn hb _ (s3.trans (vv.trans sm)))
 refine L2.hideG fun Z_ z_=>?_
 rintro σ' H4 ⟨s4,hb,rfl⟩
 subst z_
 refine⟨_,rfl,z4,fun t nt=>kt hb t _ (s3.trans (s4.trans (A8.upd nt))) ?_⟩
 rw[hA]
 exact A4
theorem J0j{x:Nm}{q e:Int}(h:x.Bg)(d:x.p-q<=e): -(B0 120*B0 e)<=x.wh q/\x.wh q<=B0 120*B0 e:=by
 have tp:=Y4 (x.p-q)
 have a:x.f*B0 (x.p-q)<=B0 120*B0 e:=Int.mul_le_mul (Int.le_of_lt h.f1) (A2c d) (Int.le_of_lt tp) (Int.le_of_lt (Y4 _))
 have c:0<=x.f*B0 (x.p-q):=Int.mul_nonneg h.f0 (Int.le_of_lt tp)
 unfold Nm.wh
 split<;>omega
theorem G0y{x y:Nm}(hx:x.Bg)(hy:y.Ok)(h:Z1 x y≠0):SzL (A3x (Z1 x y)*B0 (V8 x y))/\SzL (1*B0 (-(V8 x y))):=by
 obtain⟨m1,m2,m3⟩:=C4f x y
 have:=hx.p0;have:=hx.p1;have:=hy.p0;have:=hy.p1
 have tp:=Y4 (V8 x y)
 have tn:=Y4 (-(V8 x y))
 refine⟨?_,?_⟩
 . have key:∀e m:Int,x.p-V8 x y<=e ->y.p-V8 x y<=e ->B0 (V8 x y)<=B0 m ->2*(B0 120*B0 e)*B0 m<B0 780 ->SzL (A3x (Z1 x y)*B0 (V8 x y)):=fun e m d1 d2 tm lt=>by
     have a:=J0j (e:=e) hx d1
     have b:=J0j (e:=e) hy.bg d2
     have c:A3x (Z1 x y)<=2*(B0 120*B0 e)/\1<=A3x (Z1 x y):=by
       unfold A3x
       unfold Z1 at h ⊢
       split<;>omega
     have d:A3x (Z1 x y)*B0 (V8 x y)<=2*(B0 120*B0 e)*B0 m:=Int.mul_le_mul c.1 tm (Int.le_of_lt tp) (by omega)
     have f:1*1<=A3x (Z1 x y)*B0 (V8 x y):=Int.mul_le_mul c.2 (by omega) (by decide) (by omega)
     exact⟨by omega,by omega⟩
   by_cases hm:V8 x y<=0
   . exact key 600 0 (by omega) (by omega) (A2c hm) (by decide+kernel)
   . exact key 400 200 (by omega) (by omega) (A2c (by omega)) (by decide+kernel)
 have a:B0 (-(V8 x y))<=B0 400:=A2c (by omega)
 have b:B0 400<B0 780:=by decide+kernel
 exact⟨by omega,by omega⟩
theorem G9t{x1 x2 x3:Nm}{z:Kd}:List.contains [x1.k.str,x2.k.str,x3.k.str] z.str=true↔x1.k=z\/x2.k=z\/x3.k=z:=by
 rw[List.contains_iff_mem]
 simp only[List.mem_cons,List.not_mem_nil,or_false]
 exact⟨fun h=>h.imp (fun h=>(Kd.str_inj h).symm) (fun h=>h.imp (fun h=>(Kd.str_inj h).symm) (fun h=>(Kd.str_inj h).symm)),fun h=>h.imp (fun h=>by rw[h]) (fun h=>h.imp (fun h=>by rw[h]) (fun h=>by rw[h]))⟩
def B8v:Sp:=fun vs H Q _=>∃rt v q1 q2 q3 x1 x2 x3,vs=[.ref rt,.ref q1,.ref q2,.ref q3]/\H rt=some (.tup (Cv.tup v))/\v.Ok/\H q1=some (.tup (Nm.vs x1))/\H q2=some (.tup (Nm.vs x2))/\H q3=some (.tup (Nm.vs x3))/\x1.Wf/\x2.Wf/\x3.Wf/\
 ∀L q zs H',A9k (Z5 x1 x2) x3 L ->A8 H H' ->A5b H' q (A0g v x1 x2 x3 L).1 zs ->(∀z,z∈zs↔z∈(A0g v x1 x2 x3 L).2) ->Q (.ref q) H'
theorem scLFused:B8 ["_law_rules_here","_law_one","_law_other","_law_third_here","_law_exact"] Q47 (A6 B0v):=scK
theorem C9m(x y:Nm)(hx:x.Bg)(hy:y.Ok):∃L,A9k x y L:=by
 by_cases h:Z1 x y=0
 . exact⟨0,fun _ _ z=>absurd h z⟩
 have sz:=C1m hx hy.bg h
 obtain⟨m,hm⟩:=Int.eq_ofNat_of_zero_le (show 0<=A3x (Z1 x y) by have:=sz.1;omega)
 obtain⟨A,a1,a2⟩:=B7g m (by have:=sz.1;omega)
 refine⟨V8 x y+A,fun _ _ _=>?_⟩
 rw[hm,show V8 x y-(V8 x y+A)= -(A:Int) by omega]
 unfold A1e
 have e1:B0 (-(A:Int))=1:=by unfold B0;rw[show(-(A:Int)).toNat=0 by omega];rfl
 have e2:B0 (-(-(A:Int)))=((10^A:Nat):Int):=by unfold B0;rw[Int.neg_neg,Int.toNat_natCast]
 rw[e1,e2]
 rw[Nat.pow_succ] at a2
 constructor<;>omega
theorem C8r(D:Def K mg "_law_fused" Q47 B0v f fd)(dA:Def K mg "_law_product" Q17 A3h f1 fd1)(dB:sI P w K mg base 1 f1 fd1 Q17 B7h)
   (dC:Def K mg "_law_sum" Q46 C3s f2 fd2) (dD:sI P w K mg base 5 f2 fd2 Q46 D3f):sI P w K mg base 6 f fd Q47 B8v:=by
 refine D.F.okE scLFused (fun vs H Q E h=>?_) (fun X cdv A outer s H vs Q E hX hr hx h=>?_)
 . obtain⟨rt,v,q1,q2,q3,x1,x2,x3,rfl,_⟩:=h
   rfl
 subst hX
 obtain⟨rt,v,q1,q2,q3,x1,x2,x3,rfl,er,ok,e1,e2,e3,w1,w2,w3,k⟩:=h
 have z0:0<=sizeLine:=Nat.zero_le _
 have z1:1<=sizeLine:=C9 (by decide)
 have z2:2<=sizeLine:=C9 (by decide)
 have z3:3<=sizeLine:=C9 (by decide)
 have z4:4<=sizeLine:=C9 (by decide)
 have o1:=w1.ok;have o2:=w2.ok;have o3:=w3.ok
 have gb:=A6y o1 o2
 obtain⟨L9,hL9⟩:=C9m (Z5 x1 x2) x3 gb o3
 refine⟨_,(A5 (A9 (J1 (C8 A3j C7 (U7 (A0 (G4 U8 (pv 1) A2 (fun _ _=>rfl)) (A0 (G4 U8 (pv 2) A2 (fun _ _=>rfl)) (A0 (G4 U8 (pv 3) A2 (fun _ _=>rfl)) A3)))) (by rfl)) (A7 (B5 (U7 (A0 (U7 (A0 C7 (A0 A2 (A0 A2 (A0 A2 A3))))) (A0 (U0 A3) A3))))) D6)) (A5 (A9 (D5 (i:=4) scLFused.nd rfl (Or.inl rfl) (V5 dA dB hr hx (A0 (pv 1) (A0 (pv 2) A3))))) (A5 (A9 (J1 (C8 D2w (pv 4) A8r (C6 _)) (A7 (B5 (U7 (A0 (U7 (A0 C7 (A0 A2 (A0 A2 (A0 A2 A3))))) (A0 (U0 (A0 C7 A3)) A3))))) D6)) (A7 (B5 (V5 dC dD hr hx (A0 (pv 0) (A0 (pv 4) (A0 (pv 3) A3))))))))),?_⟩
 have fin:∀(L:Int) (res:Nm) (rs:List Str) (t l q:Addr) (H':Hp),A9k (Z5 x1 x2) x3 L ->A0g v x1 x2 x3 L=(res,rs) ->A8 H H' ->H' q=some (.tup [.ref t,.ref l]) ->H' t=some (.tup res.vs) ->H' l=some (.lst (rs.map V.str)) ->Q (.ref q) H':=fun L res rs t l q H' hL eR s' eq et el=>by
   refine k L q rs H' hL s' ?_ ?_
   . rw[eR]
     exact⟨t,l,eq,et,el⟩
   . rw[eR]
     exact fun z=>Iff.rfl
 let I_:L2.St ->L2.Hp ->Prop:=fun σ' H'=>A8 H H'/\¬(x1.k= .none\/x2.k= .none\/x3.k= .none)/\σ'=[sr rt,sr q1,sr q2,sr q3,none]
 refine⟨I_,?_,?_⟩
 . refine⟨_,rfl,q1,_,_,_,rfl,rfl,SqT.of e1,D7 (j:=0) rfl,_,rfl,q2,_,_,_,rfl,rfl,SqT.of e2,D7 (j:=0) rfl,_,rfl,q3,_,_,_,rfl,rfl,SqT.of e3,D7 (j:=0) rfl,z3,fun p np=>⟨p,_,rfl,.inr (SqT.of A4),rfl,rfl,_,rfl,?_⟩⟩
   have u:=A8.upd (o:= .tup [.str x1.k.str,.str x2.k.str,.str x3.k.str]) np
   rw[show([.str x1.k.str,.str x2.k.str,.str x3.k.str]:List V)=[x1.k.str,x2.k.str,x3.k.str].map V.str from rfl,A0s]
   refine D9p (fun e=>?_) (fun e=>⟨u,fun z=>?_,rfl⟩)
   . have hn:x1.k= .none\/x2.k= .none\/x3.k= .none:=(G9t (z:= .none)).mp e
     refine⟨z4,fun p2 np2=>⟨Nat.zero_le _,fun l nl=>⟨z2,fun q nq=>?_⟩⟩⟩
     have u2:=A8.upd (o:= .tup [.str "none",.int 0,.int 0,.int 0]) np2
     have u3:=A8.upd (o:= .lst []) nl
     have u4:=A8.upd (o:= .tup [.ref p2,.ref l]) nq
     have eR:A0g v x1 x2 x3 L9=(A4e,[]):=by unfold A0g;rw[if_pos hn]
     exact fin L9 A4e [] p2 l q _ hL9 eR (u.trans (u2.trans (u3.trans u4))) A4 ((u3.trans u4) _ _ A4) (u4 _ _ A4)
   . exact Bool.false_ne_true ((show List.contains [x1.k.str,x2.k.str,x3.k.str] Kd.none.str=false from e).symm.trans ((G9t (z:= .none)).mpr z))
 refine L2.hideG fun Z_ z_=>?_
 rintro σ' H1 ⟨s1,hn,rfl⟩
 subst z_
 clear I_
 have e1:=s1 _ _ e1
 have e2:=s1 _ _ e2
 let I_:L2.St ->L2.Hp ->Prop:=fun σ' H'=>∃y:V,A8 H H'/\((EbN x1 x2=true/\y= .non)\/(EbN x1 x2=false/\∃t,y= .ref t/\H' t=some (.tup (Z5 x1 x2).vs)))/\σ'=[sr rt,sr q1,sr q2,sr q3,some y]
 refine⟨I_,?_,?_⟩
 . exact⟨_,rfl,_,rfl,q1,q2,x1,x2,rfl,e1,e2,w1,w2,fun hb H' s'=>⟨.non,s1.trans s',.inl ⟨hb,rfl⟩,rfl⟩,fun hb t H' s' et=>⟨.ref t,s1.trans s',.inr ⟨hb,t,rfl,et⟩,rfl⟩⟩
 refine L2.hideG fun Z_ z_=>?_
 rintro σ' H2 ⟨y,s2,hy,rfl⟩
 subst z_
 clear I_
 let I_:L2.St ->L2.Hp ->Prop:=fun σ' H'=>H'=H2/\EbN x1 x2=false/\(∃t,y= .ref t/\H' t=some (.tup (Z5 x1 x2).vs))/\σ'=[sr rt,sr q1,sr q2,sr q3,some y]
 refine⟨I_,?_,?_⟩
 . rcases hy with⟨hb,rfl⟩|⟨hb,t,rfl,et⟩
   . refine⟨_,rfl,rfl,_,rfl,A0q rfl ⟨z4,fun p2 np2=>⟨z1,fun l nl=>⟨z2,fun q nq=>?_⟩⟩⟩⟩
     have u2:=A8.upd (o:= .tup [.str "none",.int 0,.int 0,.int 0]) np2
     have u3:=A8.upd (o:= .lst [.str "void"]) nl
     have u4:=A8.upd (o:= .tup [.ref p2,.ref l]) nq
     have eR:A0g v x1 x2 x3 L9=(A4e,(["void"]:List Str)):=by unfold A0g;rw[if_neg hn,if_pos hb]
     exact fin L9 A4e ["void"] p2 l q _ hL9 eR (s2.trans (u2.trans (u3.trans u4))) A4 ((u3.trans u4) _ _ A4) (u4 _ _ A4)
   . exact⟨_,rfl,rfl,_,rfl,G9 (fun z=>by cases z) ⟨rfl,hb,⟨t,rfl,et⟩,rfl⟩⟩
 refine L2.hideG fun Z_ z_=>?_
 rintro σ' H3 ⟨rfl,hb,⟨t,rfl,et⟩,rfl⟩
 subst z_
 clear I_
 have p0:=gb.p0;have p1:=gb.p1;have p2:=o3.p0;have p3:=o3.p1
 refine⟨_,rfl,_,rfl,_,rfl,rt,v,t,q3,Z5 x1 x2,x3,rfl,s2 _ _ er,ok,et,s2 _ _ e3,B1z o1 o2,w3.wb,by omega,by omega,G0y gb o3,fun L q zs H' hL s' du hz=>?_⟩
 have eR:A0g v x1 x2 x3 L=A4d v (Z5 x1 x2) x3 L:=by
   unfold A0g A4d
   rw[if_neg hn,if_neg (by rw[hb];exact Bool.false_ne_true),if_neg (fun z=>z.elim (C5v x1 x2) (fun z=>hn (.inr (.inr z))))]
 refine k L q zs H' hL (s2.trans s') ?_ ?_
 . rw[eR];exact du
 rw[eR];exact hz
def B8s:Sp:=fun vs H Q _=>∃ln ts,∃d:Int,vs=[.ref ln,.int d]/\A6q H ln ts/\ts.length=5/\∀(x:Nm) t H',x.Wf ->A8 H H' ->H' t=some (.tup x.vs) ->Q (.ref t) H'
theorem scLThird:B8 ["_law_numbers","_law_draw","_law_exact"] Q48 (A6 B1a):=scK
theorem C8h(D:Def K mg "_law_third" Q48 B1a f fd)(dA:Def K mg "_law_product" Q17 A3h f1 fd1)(dB:sI P w K mg base 1 f1 fd1 Q17 B7h)
   (dC:Def K mg "_law_ten" ["_law_count"] A7x f2 fd2) (dD:sI P w K mg base 1 f2 fd2 ["_law_count"] A6g):sI P w K mg base 2 f fd Q48 B8s:=by
 refine D.F.okE scLThird (fun vs H Q E h=>?_) (fun X cdv A outer s H vs Q E hX hr hx h=>?_)
 . obtain⟨ln,ts,d,rfl,_⟩:=h
   rfl
 subst hX
 obtain⟨ln,ts,d,rfl,tu,l5,k⟩:=h
 have z2:2<=sizeLine:=C9 (by decide)
 have z4:4<=sizeLine:=C9 (by decide)
 have g:∀i:Nat,i<5 ->∃t x,atI (ts.map fun p=>V.ref p.1) (i:Int)=some (.ref t)/\H t=some (.tup (Nm.vs x))/\x.Wf:=fun i hi=>by
   have hq:i<ts.length:=by rw[l5];exact hi
   obtain⟨e,w⟩:=tu.t ts[i] (List.getElem_mem hq)
   exact⟨ts[i].1,ts[i].2,D7 (j:=i) (by rw[List.getElem?_map,List.getElem?_eq_getElem hq];rfl),e,w⟩
 obtain⟨q1,x1,j1,e1,w1⟩:=g 0 (by decide)
 obtain⟨q2,x2,j2,e2,w2⟩:=g 1 (by decide)
 have o1:=w1.ok;have o2:=w2.ok
 refine⟨_,(A5 (A9 (D5 (i:=2) scLThird.nd rfl (Or.inl rfl) A8r)) (A5 (A9 (J1 (PW.pt (A2q (C8 G8 (B7 V2 (pv 1) A2) A2 (C6 _)) (A1q (C8 A2b C7 (U7 (A0 (G4 U8 (G4 U5 (pv 0) A2 (fun _ _=>rfl)) A2 (fun _ _=>rfl)) (A0 (G4 U8 (G4 U5 (pv 0) A2 (fun _ _=>rfl)) A2 (fun _ _=>rfl)) A3))) (by rfl))))) (A7 (A9 (D5 (i:=2) scLThird.nd rfl (Or.inl rfl) (V5 dA dB hr hx (A0 (G4 U5 (pv 0) A2 (fun _ _=>rfl)) (A0 (G4 U5 (pv 0) A2 (fun _ _=>rfl)) A3)))))) D6)) (A5 (A9 (J1 (PW.pt (A2q (C8 G2b (pv 2) A8r (C6 _)) (A2q (C8 A2t (G4 U8 (pv 2) A2 (fun _ _=>rfl)) (V5 dC dD hr hx (A0 A2 A3)) (C6 _)) (A1q (D0q C3v C3v (A2k A1b A2) (G4 U8 (pv 2) A2 (fun _ _=>rfl)) A2))))) (A7 (B5 (U7 (A0 (G4 U8 (pv 2) A2 (fun _ _=>rfl)) (A0 (B7 Y2 A2 (G4 U8 (pv 2) A2 (fun _ _=>rfl))) (A0 (G4 U8 (pv 2) A2 (fun _ _=>rfl)) (A0 (G4 U8 (pv 2) A2 (fun _ _=>rfl)) A3))))))) D6)) (A7 (B5 (G4 U5 (pv 0) (B7 V2 (B7 U1 (pv 1) A2) A2) (fun _ _=>rfl))))))),?_⟩
 refine⟨fun σ' H'=>H'=H/\σ'=[sr ln,si d,some .non],⟨rfl,rfl⟩,?_⟩
 rintro σ' H1 ⟨rfl,rfl⟩
 let I_:L2.St ->L2.Hp ->Prop:=fun σ' H'=>∃y:V,A8 H1 H'/\(y= .non\/∃t x,y= .ref t/\H' t=some (.tup (Nm.vs x))/\(x.k= .plain\/x=⟨.end_,x.s,0,0⟩)/\0<=x.s/\x.s<=1/\0<=x.f)/\σ'=[sr ln,si d,some y]
 refine⟨I_,?_,?_⟩
 . refine⟨_,rfl,_,_,rfl,rfl,(by decide:(0:Int)<3),rfl,_,rfl,V0 (fun _=>?_) (fun _=>⟨.non,A8.refl _,.inl rfl,rfl⟩)⟩
   refine⟨_,rfl,ln,_,_,_,rfl,rfl,SqL.of tu.l,j1,q1,_,_,_,rfl,rfl,SqT.of e1,D7 (j:=0) rfl,_,rfl,ln,_,_,_,rfl,rfl,SqL.of tu.l,j2,q2,_,_,_,rfl,rfl,SqT.of e2,D7 (j:=0) rfl,z2,fun p np=>⟨p,_,rfl,.inr (SqT.of A4),rfl,rfl,_,rfl,?_⟩⟩
   have u:=A8.upd (o:= .tup [.str x1.k.str,.str x2.k.str]) np
   rw[show([.str x1.k.str,.str x2.k.str]:List V)=[x1.k.str,x2.k.str].map V.str from rfl,A0s]
   cases hc:List.contains [x1.k.str,x2.k.str] ("none":Str) with
   |true=>exact Y3 ⟨.non,u,.inl rfl,rfl⟩
   | false=>
     refine Z0 ⟨_,?_,fun _ _ h=>h⟩
     refine⟨_,rfl,ln,_,_,_,rfl,rfl,SqL.of (u _ _ tu.l),j1,_,rfl,ln,_,_,_,rfl,rfl,SqL.of (u _ _ tu.l),j2,q1,q2,x1,x2,rfl,u _ _ e1,u _ _ e2,w1,w2,fun hb H' s'=>⟨.non,u.trans s',.inl rfl,rfl⟩,fun hb t H' s' et=>⟨.ref t,u.trans s',.inr ⟨t,Z5 x1 x2,rfl,et,?_,(B1z o1 o2).s0,(B1z o1 o2).s1,(A6y o1 o2).f0⟩,rfl⟩⟩
     unfold Z5
     split
     . exact .inr rfl
     . exact .inl rfl
 refine L2.hideG fun Z_ z_=>?_
 rintro σ' H2 ⟨y,s2,hy,rfl⟩
 subst z_
 clear I_
 let I_:L2.St ->L2.Hp ->Prop:=fun σ' H'=>H'=H2/\σ'=[sr ln,si d,some y]
 refine⟨I_,?_,?_⟩
 . rcases hy with rfl|⟨t,x,rfl,et,hx,s0,s1,f0⟩
   . exact⟨_,rfl,rfl,_,rfl,B2t rfl ⟨rfl,rfl⟩⟩
   . refine⟨_,rfl,rfl,_,rfl,?_⟩
     rw[decide_eq_false (show¬V.ref t=V.non from fun z=>nomatch z)]
     refine Z0 ⟨_,rfl,t,_,_,_,rfl,rfl,SqT.of et,D7 (j:=2) rfl,60,rfl,by decide,_,_,rfl,rfl,_,rfl,V0 (fun hf=>?_) (fun _=>⟨rfl,rfl⟩)⟩
     have hf:x.f<B0 60:=hf
     refine⟨_,rfl,_,rfl,t,_,_,_,rfl,rfl,SqT.of et,D7 (j:=3) rfl,_,_,rfl,rfl,_,rfl,V0 (fun hp=>⟨_,_,rfl,rfl,_,rfl,V0 (fun hq=>?_) (fun _=>⟨rfl,rfl⟩)⟩) (fun _=>⟨_,rfl,Y3 ⟨rfl,rfl⟩⟩)⟩
     have hp: -200<=x.p:=hp
     have hq:x.p<=200:=hq
     refine⟨_,rfl,t,_,_,_,rfl,rfl,SqT.of et,D7 (j:=0) rfl,_,rfl,t,_,_,_,rfl,rfl,SqT.of et,D7 (j:=1) rfl,_,_,rfl,rfl,_,rfl,t,_,_,_,rfl,rfl,SqT.of et,D7 (j:=2) rfl,_,rfl,t,_,_,_,rfl,rfl,SqT.of et,D7 (j:=3) rfl,z4,fun t' nt=>k ⟨x.k,1-x.s,x.f,x.p⟩ t' _ ?_ (s2.trans (A8.upd nt)) A4⟩
     have t60:B0 60=10^60:=by decide+kernel
     rcases hx with h|h
     . rw[h]
       exact B9d ⟨by omega,by omega⟩ ⟨f0,by rw[t60] at hf;omega⟩ ⟨hp,hq⟩
     . rw[h]
       exact D0j ⟨by show 0<=1-x.s;omega,by show 1-x.s<=1;omega⟩
 rintro σ' H3 ⟨rfl,rfl⟩
 clear I_
 have m1:=Int.emod_lt_of_pos (d/3) (show(0:Int)<5 by decide)
 have m2:=Int.emod_nonneg (d/3) (show(5:Int)≠0 by decide)
 obtain⟨q,x,j,e,wf⟩:=g (d/3 % 5).toNat (by omega)
 rw[Int.toNat_of_nonneg m2] at j
 exact⟨_,rfl,_,rfl,_,_,rfl,rfl,⟨by decide,by decide+kernel⟩,_,_,rfl,rfl,(by decide:(0:Int)<5),ln,_,_,_,rfl,rfl,SqL.of (s2 _ _ tu.l),j,k x q H3 wf s2 (s2 _ _ e)⟩
noncomputable abbrev B7d:Stmt:=(top 93)
theorem A0k.exc1{CC c c' a b C0:Addr}{F:List (Str×V)}{H H':Hp}{r l m:Int}{y:Wy}{xs ys:List V}(h:A0k CC H c r y l m a b xs ys)(x:Exc c' H H')(h1:c≠c')(hi:∃d0,H c'=some (.ins C0 d0 F)):A0k CC H' c r y l m a b xs ys:=by
 obtain⟨⟨dx,e⟩,ha,hb⟩:=h
 obtain⟨d0,e0⟩:=hi
 exact⟨⟨dx,x _ _ e h1⟩,x _ _ ha (U4 ha e0 (by intro z;cases z)),x _ _ hb (U4 hb e0 (by intro z;cases z))⟩
theorem C5j:∀{ys:List V},(∀(i:Nat) (y:V),ys[i]?=some y ->∃n:Addr,y= .ref n) ->∃ms:List Addr,ys=ms.map V.ref
 | [],_=>⟨[],rfl⟩
 | y::r,h=>by
   obtain⟨n,rfl⟩:=h 0 y rfl
   obtain⟨ms,e⟩:=C5j (ys:=r) fun i z hz=>h (i+1) z (by simpa using hz)
   exact⟨n::ms,by rw[e];rfl⟩
theorem D9k{v:Cv}{s t b n L i:Int}:∀z∈(A0z v s t b n L i).2,z∈Y8:=by
 have r:∀{pt:Int} {cut:Bool},∀z∈A0u pt cut,z∈Y8:=fun{pt cut}=>by
   unfold A0u
   split
   . split<;>decide
   . decide
 have l:∀{l L pt:Int},∀z∈A0v l L pt,z∈Y8:=fun{l L pt}=>by
   unfold A0v
   split
   . decide
   . split<;>decide
 unfold A0z A5r
 split
 . show∀z∈(Q37:List Str),z∈Y8
   decide
 intro z hz
 rcases List.mem_append.mp hz with q|q
 . exact r z q
 exact l z q
theorem B8x:∀z∈(["void"]:List Str),z∈Y8:=by decide
theorem G0v{v:Cv}{x y:Nm}{L:Int}:∀z∈(B6u v x y L).2,z∈Y8:=by
 unfold B6u B7r
 intro z hz
 split at hz
 . split at hz
   . exact B8x z hz
   . cases hz
 split at hz
 . cases hz
 exact D9k z hz
theorem B5e{v:Cv}{x y w:Nm}{L:Int}:∀z∈(A0g v x y w L).2,z∈Y8:=by
 unfold A0g
 intro z hz
 split at hz
 . cases hz
 split at hz
 . exact B8x z hz
 exact G0v z hz
structure Sd(CC:Addr)(v:Cv)(us tr:List Str)(t c a b l k:Addr)(H:Hp):Prop where
 t:H t=some (.tup v.tup)
 ct:Z8 CC H c v a b (Y5 us) tr
 l:H l=some (.lst (tr.map V.str))
 k:H k=some (.dK (kvU us))
 ok:v.Ok
 st:B4e tr
 nu:us.Nodup
 su:∀z∈us,z∈Y8
theorem Sd.same{CC:Addr}{v:Cv}{us tr:List Str}{t c a b l k:Addr}{H H':Hp}(h:Sd CC v us tr t c a b l k H)(s:A8 H H'):Sd CC v us tr t c a b l k H':=⟨s _ _ h.t,h.ct.same s,s _ _ h.l,s _ _ h.k,h.ok,h.st,h.nu,h.su⟩
theorem Sd.exc{CC:Addr}{v v':Cv}{us tr us' tr':List Str}{t c a b l k t' c' a' b' l' k':Addr}{H H':Hp}(h:Sd CC v us tr t c a b l k H)(h':Sd CC v' us' tr' t' c' a' b' l' k' H)(x:A0b c' k' H H')(nc:c≠c')(nk:k≠k'):Sd CC v us tr t c a b l k H':=by
 obtain⟨⟨dx,e⟩,ha,hb⟩:=h.ct
 obtain⟨dy,ey⟩:=h'.ct.ins
 refine⟨x _ _ h.t (U4 h.t ey (by intro z;cases z)) (U4 h.t h'.k (by intro z;cases z)),⟨⟨dx,x _ _ e nc (U4 e h'.k (by intro z;cases z))⟩,x _ _ ha (U4 ha ey (by intro z;cases z)) (U4 ha h'.k (by intro z;cases z)),x _ _ hb (U4 hb ey (by intro z;cases z)) (U4 hb h'.k (by intro z;cases z))⟩,x _ _ h.l (U4 h.l ey (by intro z;cases z)) (U4 h.l h'.k (by intro z;cases z)),x _ _ h.k (U4 h.k ey (by intro z;cases z)) nk,h.ok,h.st,h.nu,h.su⟩
structure Al(CN CC:Addr)(K:Frag)(sc:Addr)(ns:List Int)(lr lc lt lk ln lm:Addr)(t0 t1 c0 c1 l0 l1 k0 k1:Addr)(v0 v1:Cv)(tr0 tr1:List Str)(ts:List (Addr×Nm))(ms:List Addr)(us0 us1:List Str)(a0 b0 a1 b1:Addr)(H:Hp):Prop where
 scr:SqL K H sc (ns.map V.int)
 er:H lr=some (.lst [.ref t0,.ref t1])
 ec:H lc=some (.lst [.ref c0,.ref c1])
 et:H lt=some (.lst [.ref l0,.ref l1])
 ek:H lk=some (.lst [.ref k0,.ref k1])
 s0:Sd CC v0 us0 tr0 t0 c0 a0 b0 l0 k0 H
 s1:Sd CC v1 us1 tr1 t1 c1 a1 b1 l1 k1 H
 n01:c0≠c1
 k01:k0≠k1
 tu:A6q H ln ts
 l6:ts.length=5
 em:H lm=some (.lst (ms.map V.ref))
 m6:ms.length=5
 hm:∀(i:Nat) (n:Addr),ms[i]?=some n ->∃p:Addr×Nm,ts[i]?=some p/\V3 CN H n p.2
 nc:∀n∈ms,n≠c0/\n≠c1
theorem Al.same{CN CC:Addr}{K:Frag}{sc:Addr}{ns:List Int}{lr lc lt lk ln lm:Addr}{t0 t1 c0 c1 l0 l1 k0 k1:Addr}{v0 v1:Cv}{tr0 tr1:List Str}{ts:List (Addr×Nm)}{ms:List Addr}{us0 us1:List Str}{a0 b0 a1 b1:Addr}{H H':Hp}(h:Al CN CC K sc ns lr lc lt lk ln lm t0 t1 c0 c1 l0 l1 k0 k1 v0 v1 tr0 tr1 ts ms us0 us1 a0 b0 a1 b1 H)(s:A8 H H'):Al CN CC K sc ns lr lc lt lk ln lm t0 t1 c0 c1 l0 l1 k0 k1 v0 v1 tr0 tr1 ts ms us0 us1 a0 b0 a1 b1 H':=
 ⟨s.seq h.scr,s _ _ h.er,s _ _ h.ec,s _ _ h.et,s _ _ h.ek,h.s0.same s,h.s1.same s,h.n01,h.k01,h.tu.same s,h.l6,s _ _ h.em,h.m6,fun i n hn=>by
   obtain⟨p,hp,q⟩:=h.hm i n hn
   exact⟨p,hp,q.same s⟩,h.nc⟩
section
variable{CN CC:Addr}{K:Frag}{sc:Addr}{ns:List Int}{lr lc lt lk ln lm:Addr}{t0 t1 c0 c1 l0 l1 k0 k1:Addr}{v0 v1:Cv}{tr0 tr1:List Str}{ts:List (Addr×Nm)}{ms:List Addr}{us0 us1:List Str}{a0 b0 a1 b1:Addr}{H:Hp}
theorem Al.pick{he:Int}(h:Al CN CC K sc ns lr lc lt lk ln lm t0 t1 c0 c1 l0 l1 k0 k1 v0 v1 tr0 tr1 ts ms us0 us1 a0 b0 a1 b1 H)(hh:he=0\/he=1):∃v us tr t c a b l kd,atI [V.ref t0,V.ref t1] he=some (.ref t)/\atI [V.ref c0,V.ref c1] he=some (.ref c)/\atI [V.ref l0,V.ref l1] he=some (.ref l)/\atI [V.ref k0,V.ref k1] he=some (.ref kd)/\Sd CC v us tr t c a b l kd H/\(∀n∈ms,n≠c)/\
   ∀us' a' b' H',A0b c kd H H' ->Sd CC v us' tr t c a' b' l kd H' ->∃us0' us1' a0' b0' a1' b1',Al CN CC K sc ns lr lc lt lk ln lm t0 t1 c0 c1 l0 l1 k0 k1 v0 v1 tr0 tr1 ts ms us0' us1' a0' b0' a1' b1' H':=by
 have rest:∀{c kd C0 d0:Addr} {F:List (Str×V)} {kv:List (Key×V)} {H':Hp},H c=some (.ins C0 d0 F) ->H kd=some (.dK kv) ->A0b c kd H H' ->(∀n∈ms,n≠c) ->SqL K H' sc (ns.map V.int)/\H' lr=some (.lst [.ref t0,.ref t1])/\H' lc=some (.lst [.ref c0,.ref c1])/\H' lt=some (.lst [.ref l0,.ref l1])/\H' lk=some (.lst [.ref k0,.ref k1])/\A6q H' ln ts/\H' lm=some (.lst (ms.map V.ref))/\∀(i:Nat) (n:Addr),ms[i]?=some n ->∃p:Addr×Nm,ts[i]?=some p/\V3 CN H' n p.2:=fun{c kd C0 d0 F kv H'} ec ek x nm=>by
   have kp:∀{q:Addr} {o:HO},H q=some o ->(∀C0 d0 F,o≠ .ins C0 d0 F) ->(∀kv,o≠ .dK kv) ->H' q=some o:=fun{q o} e n1 n2=>x _ _ e (fun z=>by rw[z,ec] at e;exact n1 _ _ _ (Option.some.inj e).symm) (fun z=>by rw[z,ek] at e;exact n2 _ (Option.some.inj e).symm)
   have kl:∀{q:Addr} {xs:List V},H q=some (.lst xs) ->H' q=some (.lst xs):=fun e=>kp e (fun _ _ _ z=>by cases z) (fun _ z=>by cases z)
   refine⟨h.scr.kept fun o e hb=>kp e ?_ ?_,kl h.er,kl h.ec,kl h.et,kl h.ek,⟨kl h.tu.l,fun p hp=>⟨kp (h.tu.t p hp).1 (fun _ _ _ z=>by cases z) (fun _ z=>by cases z),(h.tu.t p hp).2⟩⟩,kl h.em,fun i n hn=>?_⟩
   . rcases hb with rfl|⟨oc,rfl⟩<;>exact fun _ _ _ z=>by cases z
   . rcases hb with rfl|⟨oc,rfl⟩<;>exact fun _ z=>by cases z
   . obtain⟨p,hp,dn,en⟩:=h.hm i n hn
     exact⟨p,hp,dn,x _ _ en (nm n (List.mem_of_getElem? hn)) (U4 en ek (by intro z;cases z))⟩
 rcases hh with rfl|rfl
 . have nm:∀n∈ms,n≠c0:=fun n hn=>(h.nc n hn).1
   refine⟨v0,us0,tr0,t0,c0,a0,b0,l0,k0,rfl,rfl,rfl,rfl,h.s0,nm,fun us' a' b' H' x s'=>?_⟩
   obtain⟨dx,e⟩:=h.s0.ct.ins
   obtain⟨r1,r2,r3,r4,r5,r6,r7,r8⟩:=rest e h.s0.k x nm
   exact⟨us',us1,a',b',a1,b1,r1,r2,r3,r4,r5,s',h.s1.exc h.s0 x h.n01.symm h.k01.symm,h.n01,h.k01,r6,h.l6,r7,h.m6,r8,h.nc⟩
 have nm:∀n∈ms,n≠c1:=fun n hn=>(h.nc n hn).2
 refine⟨v1,us1,tr1,t1,c1,a1,b1,l1,k1,rfl,rfl,rfl,rfl,h.s1,nm,fun us' a' b' H' x s'=>?_⟩
 obtain⟨dx,e⟩:=h.s1.ct.ins
 obtain⟨r1,r2,r3,r4,r5,r6,r7,r8⟩:=rest e h.s1.k x nm
 exact⟨us0,us',a0,b0,a',b',r1,r2,r3,r4,r5,h.s0.exc h.s1 x h.n01 h.k01,s',h.n01,h.k01,r6,h.l6,r7,h.m6,r8,h.nc⟩
end
noncomputable abbrev stL (sc:Addr) (x1 x2 x3 x4 x5 x6 x7 x8 x9 x10 x11 x12 x13 x14 x15 x16:Option V):L2.St:=[sr sc,x1,x2,x3,x4,x5,x6,x7,x8,x9,x10,x11,x12,x13,x14,x15,x16]
theorem C5m{xs:List Str}{n:Addr}{r:List V}:xs.map V.str≠V.ref n::r:=by
 cases xs with
 |nil=>simp
 |cons a t=>simp
theorem A7z.lset{H:Hp}{v:V}{p:Addr}{xs ys:List V}(h:A7z H v)(e:H p=some (.lst xs)):A7z (upd H p (.lst ys)) v:=by
 cases h with
 |non=>exact .non
 |bl b=>exact .bl b
 |int i=>exact .int i
 |str s=>exact .str s
 | @lst q zs e'=>
   by_cases hq:q=p
   . subst hq
     exact .lst A4
   . exact .lst (by rw[D0 hq];exact e')
 |tup e'=>exact .tup (by rw[D0 (U4 e' e (by intro z;cases z))];exact e')
 |dic e'=>exact .dic (by rw[D0 (U4 e' e (by intro z;cases z))];exact e')
def C3u (K:Frag):Sp:=fun vs H Q _=>∃a ns,vs=[.ref a]/\(ns:List Int).length<=63/\SqL K H a (ns.map V.int)/\∀H',Q (.bl true) H'
theorem scLaw:B8 ["_law_script","_law_rules_here","_law_contexts","_law_traps_here","_law_kept","_law_context","_law_names","_law_numbers","_law_made_here","_law_turn","_law_draw","_law_here","_law_one","_law_other","_law_third_here","_law_due","_law_some"] ["_law_script"] (A6 B7d):=scK
theorem G5u{f f1 f2 f3 f4 f5 f6 f7 f8 f9 f10 f11 f12 fI CC CN CB CB' CT CE':Addr}{fd fd1 fd2 fd3 fd4 fd5 fd6 fd7 fd8 fd9 fd10 fd11 fd12 fdI:FuncData}{A1:Addr}(D:Def K mg "law" ["_law_script"] B7d f fd)
   (dA:Def K mg "_law_cell_at" Q31 C4s f1 fd1) (dB:sI P w K mg base 1 f1 fd1 Q31 (D3g K))
   (dG:Def K mg "_law_mixed" Q8 A4n f2 fd2) (dH:sI P w K mg base 1 f2 fd2 Q8 B0j)
   (dJ:Def K mg "_law_rules" ["_law_cell"] A7g f3 fd3) (dL:sI P w K mg base 2 f3 fd3 ["_law_cell"] B9m)
   (dM:Def K mg "_law_traps" ["_law_cell"] B0m f4 fd4) (dN:sI P w K mg base 2 f4 fd4 ["_law_cell"] C0c)
   (dC:Def K mg "_law_made" Q11 B3h f5 fd5) (dD:sI P w K mg base 4 f5 fd5 Q11 (C5c CN))
   (dP:Def K mg "_law_right" Q44 B0t f6 fd6) (dQ:sI P w K mg base 10 f6 fd6 Q44 (B9p CN CC))
   (dS:Def K mg "_law_refused" Q45 B0n f7 fd7) (dU:sI P w K mg base 10 f7 fd7 Q45 (B9b K CN))
   (dE:Def K mg "_law_is" Q16 D0p f8 fd8) (dF:sI P w K mg base 3 f8 fd8 Q16 (D1n CN))
   (dW:Def K mg "_law_number" ["_law_cell"] A4y f9 fd9) (dX:sI P w K mg base 3 f9 fd9 ["_law_cell"] B4f)
   (dY:Def K mg "_law_third" Q48 B1a f10 fd10) (dZ:sI P w K mg base 2 f10 fd10 Q48 B8s)
   (gA:Def K mg "_law_fused" Q47 B0v f11 fd11) (gB:sI P w K mg base 6 f11 fd11 Q47 B8v)
   (gC:Def K mg "_law_odd" ["_law_cell"] C3p f12 fd12) (gD:sI P w K mg base 1 f12 fd12 ["_law_cell"] D1r)
   (MCm:Mk K CC fI) (MCg:sI P w K mg base 3 fI fdI Q21 (A5h K CC CB)) (b4:Y6 K fdI Q21 []) (Cc:B3r K mg CC)
   (MF:Has P w K mg base CC "flags" 1 ["self"] (A3v CC)) (MP:Has P w K mg base CC "trap" 2 Q13 (B7v K CC CB)) (ME:Has P w K mg base CC "clear" 1 ["self"] (A6m CC)) (SG:C8x K mg A1) (O4:G6m K CN) (O:Own mg):sI P w K mg base 11 f fd ["_law_script"] (C3u K):=by
 refine D.F.okE scLaw (fun vs H Q E h=>?_) (fun X cdv A outer s H vs Q E hX hr hx h=>?_)
 . obtain⟨a,ns,rfl,_⟩:=h
   rfl
 subst hX
 obtain⟨sc,ns,rfl,n63,hS,kk⟩:=h
 obtain⟨ff,fdf,mf,gf,bf⟩:=MF
 obtain⟨fp,fdp,mp,gp,bp⟩:=MP
 obtain⟨fe,fde,me,ge,be⟩:=ME
 have hu:=hr.units
 have HU:=Nat.lt_of_le_of_lt (Nat.add_le_add_left (by decide:1<=64) _) hr.units
 refine⟨_,(A5 (A9 (A3f (i:=1) (N:=["_law_k"]) (F:=["_law_script"]) (js:=[0]) (D3.of1 ⟨rfl,by decide+kernel,by decide+kernel,by decide+kernel,by decide+kernel⟩ (by rfl) (by rfl) ⟨_,by rfl⟩ (by rfl) (by rfl)) (.inl hr.hd) rfl (A3k rfl O.range_ (A0 A2 A3)) rfl (fun C s₀ H₀ ex pn h=>D4 (i:=0) (by decide+kernel:(Q50:List Str).Nodup) rfl (Or.inl rfl)) (fun C s₀ H₀ ex pn h=>(A4a dJ dL hr (A0 (B7 V1 (A4a dA dB hr (A0 (pv 1) (A0 (pv 0) A3))) (B7 U9 A2 (pv 0))) A3))) scLaw.nd rfl (Or.inl rfl))) (A5 (A9 (A3f (i:=2) (N:=Q49) (F:=[]) (js:=[]) (D3.of0 ⟨rfl,by decide+kernel,by decide+kernel,by decide+kernel,by decide+kernel⟩ (by rfl)) (.inl hr.hd) rfl (B7f (pv 1)) rfl (fun C s₀ H₀ ex pn h=>B7s (K:=K) (n:=4) rfl h (D9 (D4 (i:=0) (by decide+kernel:(Q49:List Str).Nodup) rfl (Or.inl rfl)) (D9 (D4 (i:=1) (by decide+kernel:(Q49:List Str).Nodup) rfl (Or.inl rfl)) (D9 (D4 (i:=2) (by decide+kernel:(Q49:List Str).Nodup) rfl (Or.inl rfl)) (D9 (D4 (i:=3) (by decide+kernel:(Q49:List Str).Nodup) rfl (Or.inl rfl)) A0d))))) (fun C s₀ H₀ ex pn h=>(G3z MCm MCg hr Cc.g b4 .nil (A0 (pv 0) (A0 (pv 1) (A0 (pv 2) (A0 (pv 3) A3)))))) scLaw.nd rfl (Or.inl rfl))) (A5 (A9 (A3f (i:=3) (N:=["_law_k"]) (F:=["_law_script"]) (js:=[0]) (D3.of1 ⟨rfl,by decide+kernel,by decide+kernel,by decide+kernel,by decide+kernel⟩ (by rfl) (by rfl) ⟨_,by rfl⟩ (by rfl) (by rfl)) (.inl hr.hd) rfl (A3k rfl O.range_ (A0 A2 A3)) rfl (fun C s₀ H₀ ex pn h=>D4 (i:=0) (by decide+kernel:(Q50:List Str).Nodup) rfl (Or.inl rfl)) (fun C s₀ H₀ ex pn h=>(A4a dM dN hr (A0 (B7 U1 (A4a dA dB hr (A0 (pv 1) (A0 (pv 0) A3))) A2) A3))) scLaw.nd rfl (Or.inl rfl))) (A5 (A9 (D5 (i:=4) scLaw.nd rfl (Or.inr rfl) (U0 (A0 B1y (A0 B1y A3))))) (A5 (A9 (B2q PassesOwn.leaving rfl (D2m rfl O.zip_ (A0 (pv 2) (A0 (pv 3) A3))) (A1w rfl (D9 (D4 (i:=5) scLaw.nd rfl (Or.inl rfl)) (D9 (D4 (i:=6) scLaw.nd rfl (Or.inl rfl)) A0d))) (A7 (A9 (Z3 (J1b (pv 5) Cc.cl mp gp hr bp .nil hx (A0 (V6 A3q (by rfl) O.list_ boot_list (A0 (pv 6) A3)) A3))))))) (A5 (A9 (A3f (i:=7) (N:=["_law_k"]) (F:=["_law_script"]) (js:=[0]) (D3.of1 ⟨rfl,by decide+kernel,by decide+kernel,by decide+kernel,by decide+kernel⟩ (by rfl) (by rfl) ⟨_,by rfl⟩ (by rfl) (by rfl)) (.inl hr.hd) rfl (A3k rfl O.range_ (A0 A2 A3)) rfl (fun C s₀ H₀ ex pn h=>D4 (i:=0) (by decide+kernel:(Q50:List Str).Nodup) rfl (Or.inl rfl)) (fun C s₀ H₀ ex pn h=>(A4a dW dX hr (A0 (B7 V1 (A4a dA dB hr (A0 (pv 1) (A0 (B7 V1 A2 (pv 0)) A3))) (B7 U9 A2 (pv 0))) A3))) scLaw.nd rfl (Or.inl rfl))) (A5 (A9 (A3f (i:=8) (N:=Q11) (F:=[]) (js:=[]) (D3.of0 ⟨rfl,by decide+kernel,by decide+kernel,by decide+kernel,by decide+kernel⟩ (by rfl)) (.inl hr.hd) rfl (B7f (pv 7)) rfl (fun C s₀ H₀ ex pn h=>D4 (i:=0) (by decide+kernel:(Q11:List Str).Nodup) rfl (Or.inl rfl)) (fun C s₀ H₀ ex pn h=>(A4a dC dD hr (A0 (pv 0) A3))) scLaw.nd rfl (Or.inl rfl))) (A5 (A9 (B2q PassesOwn.leaving rfl (A3k rfl O.range_ (A0 A2 A3)) (D4 (i:=9) scLaw.nd rfl (Or.inl rfl)) (A5 (A9 (D5 (i:=10) scLaw.nd rfl (Or.inl rfl) (B7 U1 (V5 dG dH hr hx (A0 (V5 dA dB hr hx (A0 (pv 0) (A0 (B7 V1 A2 (pv 9)) A3))) (A0 (B7 V1 (pv 9) A2) A3))) A2))) (A5 (A9 (D5 (i:=11) scLaw.nd rfl (Or.inr rfl) (B7 V2 (pv 10) A2))) (A5 (A9 (D5 (i:=12) scLaw.nd rfl (Or.inl rfl) (B7 U9 (B7 V2 (B7 U1 (pv 10) A2) A2) (V6 A0a (by rfl) O.int_ boot_int (A0 (B7 V2 (B7 U1 (pv 10) A2) A2) A3))))) (A5 (A9 (D5 (i:=13) scLaw.nd rfl (Or.inl rfl) (G4 U5 (U0 (A0 A2 (A0 (B7 V2 (B7 U1 (pv 10) A2) A2) A3))) (B7 V2 (B7 U1 (pv 10) A2) A2) (fun _ _=>rfl)))) (A5 (A9 (D5 (i:=14) scLaw.nd rfl (Or.inl rfl) (V5 dY dZ hr hx (A0 (pv 7) (A0 (B7 U1 (pv 10) A2) A3))))) (A5 (A9 (D5 (i:=15) scLaw.nd rfl (Or.inl rfl) (V5 gA gB hr hx (A0 (G4 U5 (pv 1) (pv 11) (fun _ _=>rfl)) (A0 (G4 U5 (pv 7) (pv 12) (fun _ _=>rfl)) (A0 (G4 U5 (pv 7) (pv 13) (fun _ _=>rfl)) (A0 (pv 14) A3))))))) (A5 (A9 (D5 (i:=16) scLaw.nd rfl (Or.inl rfl) (U0 (A0 (G4 U5 (pv 8) (pv 12) (fun _ _=>rfl)) (A0 (G4 U5 (pv 8) (pv 13) (fun _ _=>rfl)) (A0 (V5 dC dD hr hx (A0 (pv 14) A3)) A3)))))) (A5 (A9 (J1 (A1v (Z7 (V5 dP dQ hr hx (A0 (pv 15) (A0 (G4 U5 (pv 3) (pv 11) (fun _ _=>rfl)) (A0 (G4 U5 (pv 4) (pv 11) (fun _ _=>rfl)) (A0 (G4 U5 (pv 2) (pv 11) (fun _ _=>rfl)) (A0 A2 (A0 (pv 16) A3))))))))) (A7 (B5 A1g)) D6)) (A5 (A9 (J1 (A1v (Z7 (V5 dE dF hr hx (A0 (G4 U5 (pv 16) A2 (fun _ _=>rfl)) (A0 (pv 14) A3))))) (A7 (B5 A1g)) D6)) (A5 (A9 (J1 (C8 G8 (B7 V2 (B7 U1 (pv 10) A2) A2) A2 (C6 _)) (A5 (A9 (Z3 (C1c (G4 U5 (pv 2) (pv 11) (fun _ _=>rfl)) Cc.cl me ge hr be .nil hx))) (A7 (A9 (Z3 (D1b PySem.F.plainAttrs_dict PySem.F.slot_dict_clear PySem.F.type_dict_clear C6y (G4 U5 (pv 4) (pv 11) (fun _ _=>rfl))))))) (A7 (A9 (J1 (C8 G8 (B7 V2 (B7 U1 (pv 10) A2) A2) A2 (C6 _)) (A5 (A9 (A2m (V5 gC gD hr hx (A0 (B7 U1 (pv 10) A2) A3)) (G5y (pv 16) (B7 V2 (B7 U1 (pv 10) A2) A2) D0c))) (A7 (A9 (J1 (A1v (Z7 (V5 dS dU hr hx (A0 (G4 U5 (pv 2) (pv 11) (fun _ _=>rfl)) (A0 A2 (A0 (pv 16) A3)))))) (A7 (B5 A1g)) D6)))) D6))))) (A7 (A9 (J1 (C8 (B6g hr.units) (C1c (G4 U5 (pv 2) (B7 Y2 A2 (pv 11)) (fun _ _=>rfl)) Cc.cl mf gf hr bf .nil hx) (C0e (N:=["_law_signal"]) (F:=["_law_kept","_law_here"]) (js:=[4,11]) (D3.of2 ⟨rfl,by decide+kernel,by decide+kernel,by decide+kernel,by decide+kernel⟩ (by rfl) (by rfl) ⟨_,by rfl⟩ (by rfl) (by rfl) (by rfl) ⟨_,by rfl⟩ (by rfl) (by rfl)) (.inl hr.hd) rfl (B6t (A8v SG.g)) rfl (fun C s₀ H₀ ex pn h=>D4 (i:=0) (by decide+kernel:(["_law_signal","_law_kept","_law_here"]:List Str).Nodup) rfl (Or.inl rfl)) (fun C s₀ H₀ ex pn h=>(C9p (D2n HU (pv 0) (G4 (B8d (K:=K) rfl) (pv 1) (B7 Y2 A2 (pv 2)) (fun _ _=>rfl))))) (fun C s₀ H₀ ex pn h=>(pv 0))) (C6 _)) (A7 (B5 A1g)) D6))))))))))))))) (A7 (B5 (V7 (B8y hr.hd) (by rfl) O.all_ boot_all (A0 (B5m (N:=Q51) (F:=[]) (js:=[]) (D3.of0 ⟨rfl,by decide+kernel,by decide+kernel,by decide+kernel,by decide+kernel⟩ (by rfl)) (.inl hr.hd) rfl (D2m rfl O.zip_ (A0 (pv 8) (A0 (pv 7) A3))) rfl (fun C s₀ H₀ ex pn h=>B7s (K:=K) (n:=2) rfl h (D9 (D4 (i:=0) (by decide+kernel:(Q51:List Str).Nodup) rfl (Or.inl rfl)) (D9 (D4 (i:=1) (by decide+kernel:(Q51:List Str).Nodup) rfl (Or.inl rfl)) A0d))) (fun C s₀ H₀ ex pn h=>(A4a dE dF hr (A0 (pv 0) (A0 (pv 1) A3))))) A3)))))))))))),?_⟩
 have z2:2<=sizeLine:=C9 (by decide)
 let I_:L2.St ->L2.Hp ->Prop:=fun σ' H'=>∃lr t0 t1 v0 v1,A8 H H'/\H' lr=some (.lst [.ref t0,.ref t1])/\H' t0=some (.tup (Cv.tup v0))/\H' t1=some (.tup (Cv.tup v1))/\v0.Ok/\v1.Ok/\σ'=stL sc (some (.ref lr)) none none none none none none none none none none none none none none none
 refine⟨I_,?_,?_⟩
 . refine⟨2,rfl,by decide,by decide,A1m (J:=Itr 0 2) (n:=2) (fun _ y H'=>∃(t:Addr) (v:Cv),y= .ref t/\H' t=some (.tup v.tup)/\v.Ok) (by decide) (fun i y H1 H2 D l h hD e=>?_) (fun i H2 Qy hi sm hy=>⟨hi,fun x H3 yl=>?_⟩) (fun H2 sm=>Nat.le_refl 2) (fun D H' ys sm nD eD hlen hR=>?_)⟩
   . obtain⟨t,v,rfl,hp,ok⟩:=h
     exact⟨t,v,rfl,e _ _ hp (U4 hp hD (by intro z;cases z)),ok⟩
   . obtain⟨rfl,rfl⟩:=yl
     exact⟨_,rfl,_,rfl,sc,ns,_,rfl,sm.seq hS,by omega,fun c=>⟨_,rfl,_,_,rfl,rfl,A3m.ok (.inl ⟨by decide,by decide⟩),_,_,rfl,rfl,_,rfl,fun v t H' ok s' e=>hy _ _ s' ⟨t,v,rfl,e,ok⟩⟩⟩
   . match ys,hlen with
     | [y0,y1],_=>
       obtain⟨t0,v0,rfl,e0,ok0⟩:=hR 0 y0 rfl
       obtain⟨t1,v1,rfl,e1,ok1⟩:=hR 1 y1 rfl
       exact⟨D,t0,t1,v0,v1,sm,eD,e0,e1,ok0,ok1,rfl⟩
 refine L2.hideG fun Z_ z_=>?_
 rintro σ' H1 ⟨lr,t0,t1,v0,v1,s1,elr,et0,et1,ok0,ok1,rfl⟩
 subst z_
 clear I_
 let I_:L2.St ->L2.Hp ->Prop:=fun σ' H'=>∃lc c0 c1 a0 b0 a1 b1,A8 H1 H'/\H' lc=some (.lst [.ref c0,.ref c1])/\Z8 CC H' c0 v0 a0 b0 [] []/\Z8 CC H' c1 v1 a1 b1 [] []/\c0≠c1/\σ'=stL sc (some (.ref lr)) (some (.ref lc)) none none none none none none none none none none none none none none
 refine⟨I_,?_,?_⟩
 . refine⟨_,rfl,lr,rfl,⟨_,SqL.of elr⟩,D1g fun D hD=>?_⟩
   have u0:=A8.upd (o:= .lst []) hD
   refine⟨⟨_,_,SqL.of (u0 _ _ elr),rfl⟩,fun x H3 yl=>?_⟩
   obtain⟨rfl,yl⟩:=yl
   obtain rfl:=Option.some.inj ((yl _ (SqL.of (u0 _ _ elr))).symm.trans (show([V.ref t0,V.ref t1]:List V)[0]?=some (.ref t0) from rfl))
   refine⟨t0,_,rfl,SqT.of (u0 _ _ et0),rfl,_,_,rfl,_,_,rfl,_,_,rfl,_,_,rfl,rfl,_,rfl,_,rfl,_,rfl,_,rfl,fun c0 dx n1 n2 ne=>C9j n1 n2 ne rfl ok0.r1 ok0.r2 rfl (.inr ⟨rfl,ok0.l1,ok0.l2⟩) rfl ok0.m1 ok0.m2 fun a0 b0 H4 s4 na nb ct=>⟨rfl,s4 _ _ A4,C9 (by decide),?_⟩⟩
   have nD:∀{b:Addr},upd H1 D (.lst []) b=none ->b≠D:=fun{b} e z=>by rw[z,A4] at e;cases e
   have g1:A8 H1 (upd H4 D (.lst [.ref c0])):=fun b o e=>by
     rw[D0 (D8 e hD)]
     exact s4 _ _ (u0 _ _ e)
   have ct1:Z8 CC (upd H4 D (.lst [.ref c0])) c0 v0 a0 b0 [] []:=by
     obtain⟨⟨d1,z1⟩,z2,z3⟩:=ct
     exact⟨⟨d1,by rw[D0 (nD n1)];exact z1⟩,by rw[D0 (nD na)];exact z2,by rw[D0 (nD nb)];exact z3⟩
   have e1D:upd H4 D (.lst [.ref c0]) D=some (.lst [.ref c0]):=A4
   generalize upd H4 D (.lst [.ref c0])=G1 at g1 ct1 e1D
   refine⟨e1D,⟨_,_,SqL.of (g1 _ _ elr),rfl⟩,fun x H3 yl=>?_⟩
   obtain⟨rfl,yl⟩:=yl
   obtain rfl:=Option.some.inj ((yl _ (SqL.of (g1 _ _ elr))).symm.trans (show([V.ref t0,V.ref t1]:List V)[1]?=some (.ref t1) from rfl))
   refine⟨t1,_,rfl,SqT.of (g1 _ _ et1),rfl,_,_,rfl,_,_,rfl,_,_,rfl,_,_,rfl,rfl,_,rfl,_,rfl,_,rfl,_,rfl,fun c1 dx' n1' n2' ne'=>C9j n1' n2' ne' rfl ok1.r1 ok1.r2 rfl (.inr ⟨rfl,ok1.l1,ok1.l2⟩) rfl ok1.m1 ok1.m2 fun a1 b1 H5 s5 na' nb' ct'=>⟨rfl,s5 _ _ e1D,C9 (by decide),?_⟩⟩
   have nD':∀{b:Addr},H3 b=none ->b≠D:=fun{b} e z=>by rw[z,e1D] at e;cases e
   have g2:A8 H1 (upd H5 D (.lst [.ref c0,.ref c1])):=fun b o e=>by
     rw[D0 (D8 e hD)]
     exact s5 _ _ (g1 _ _ e)
   obtain⟨⟨d1,y1⟩,y2,y3⟩:=ct1
   have q0:c0≠D:=nD n1
   refine⟨A4,⟨_,SqL.of (g2 _ _ elr),Nat.le_refl 2⟩,D,c0,c1,a0,b0,a1,b1,g2,A4,⟨⟨d1,by rw[D0 q0];exact s5 _ _ y1⟩,by rw[D0 (nD na)];exact s5 _ _ y2,by rw[D0 (nD nb)];exact s5 _ _ y3⟩,?_,(fun z=>by rw[<-z,y1] at n1';cases n1'),rfl⟩
   obtain⟨⟨d2,w1⟩,w2,w3⟩:=ct'
   exact⟨⟨d2,by rw[D0 (nD' n1')];exact w1⟩,by rw[D0 (nD' na')];exact w2,by rw[D0 (nD' nb')];exact w3⟩
 refine L2.hideG fun Z_ z_=>?_
 rintro σ' H2 ⟨lc,c0,c1,a0,b0,a1,b1,s2,elc,ct0,ct1,n01,rfl⟩
 subst z_
 clear I_
 have et0:=s2 _ _ et0
 have et1:=s2 _ _ et1
 have elr:=s2 _ _ elr
 have s2:=s1.trans s2
 let I_:L2.St ->L2.Hp ->Prop:=fun σ' H'=>∃lt l0 l1 tr0 tr1,A8 H2 H'/\H' lt=some (.lst [.ref l0,.ref l1])/\H' l0=some (.lst (tr0.map V.str))/\H' l1=some (.lst (tr1.map V.str))/\B4e tr0/\B4e tr1/\σ'=stL sc (some (.ref lr)) (some (.ref lc)) (some (.ref lt)) none none none none none none none none none none none none none
 refine⟨I_,?_,?_⟩
 . refine⟨2,rfl,by decide,by decide,D1g fun D hD=>?_⟩
   have u0:=A8.upd (o:= .lst []) hD
   refine⟨(by decide:0<2),fun x H3 yl=>?_⟩
   obtain⟨rfl,rfl⟩:=yl
   refine⟨_,rfl,_,rfl,sc,ns,_,rfl,(s2.trans u0).seq hS,by omega,fun ce=>⟨_,_,rfl,rfl,⟨by decide,by decide+kernel⟩,_,rfl,fun tr0 l0 H4 st0 s4 nl e4=>⟨s4 _ _ A4,C9 (by decide),?_⟩⟩⟩
   have nD:l0≠D:=fun z=>by rw[z,A4] at nl;cases nl
   have g1:A8 H2 (upd H4 D (.lst [.ref l0])):=fun b o e=>by
     rw[D0 (D8 e hD)]
     exact s4 _ _ (u0 _ _ e)
   have e1:upd H4 D (.lst [.ref l0]) l0=some (.lst (tr0.map V.str)):=by rw[D0 nD];exact e4
   have e1D:upd H4 D (.lst [.ref l0]) D=some (.lst [.ref l0]):=A4
   generalize upd H4 D (.lst [.ref l0])=G1 at g1 e1 e1D
   refine⟨e1D,(by decide:1<2),fun x H3 yl=>?_⟩
   obtain⟨rfl,rfl⟩:=yl
   refine⟨_,rfl,_,rfl,sc,ns,_,rfl,(s2.trans g1).seq hS,by omega,fun ce=>⟨_,_,rfl,rfl,⟨by decide,by decide+kernel⟩,_,rfl,fun tr1 l1 H5 st1 s5 nl1 e5=>⟨s5 _ _ e1D,C9 (by decide),?_⟩⟩⟩
   have nD1:l1≠D:=fun z=>by rw[z,e1D] at nl1;cases nl1
   have g2:A8 H2 (upd H5 D (.lst [.ref l0,.ref l1])):=fun b o e=>by
     rw[D0 (D8 e hD)]
     exact s5 _ _ (g1 _ _ e)
   exact⟨A4,Nat.le_refl 2,D,l0,l1,tr0,tr1,g2,A4,by rw[D0 nD];exact s5 _ _ e1,by rw[D0 nD1];exact e5,st0,st1,rfl⟩
 refine L2.hideG fun Z_ z_=>?_
 rintro σ' H3 ⟨lt,l0,l1,tr0,tr1,s3,elt,el0,el1,st0,st1,rfl⟩
 subst z_
 clear I_
 let I_:L2.St ->L2.Hp ->Prop:=fun σ' H'=>∃lk k0 k1,A8 H3 H'/\H' lk=some (.lst [.ref k0,.ref k1])/\H' k0=some (.dK [])/\H' k1=some (.dK [])/\k0≠k1/\σ'=stL sc (some (.ref lr)) (some (.ref lc)) (some (.ref lt)) (some (.ref lk)) none none none none none none none none none none none none
 refine⟨I_,?_,?_⟩
 . intro k0 n0 k1 n1
   have u0:=A8.upd (o:= .dK []) n0
   have u1:=A8.upd (o:= .dK []) n1
   refine⟨z2,fun lk nl=>?_⟩
   have u2:=A8.upd (o:= .lst [.ref k0,.ref k1]) nl
   exact⟨lk,k0,k1,u0.trans (u1.trans u2),A4,(u1.trans u2) _ _ A4,u2 _ _ A4,(fun z=>by rw[<-z,A4] at n1;cases n1),rfl⟩
 refine L2.hideG fun Z_ z_=>?_
 rintro σ' H4 ⟨lk,k0,k1,s4,elk,ek0,ek1,nk,rfl⟩
 subst z_
 clear I_
 have s34:=s3.trans s4
 have ct0:=ct0.same s34
 have ct1:=ct1.same s34
 have elc:=s34 _ _ elc
 have elt:=s4 _ _ elt
 have el0:=s4 _ _ el0
 have el1:=s4 _ _ el1
 have elr:=s34 _ _ elr
 have et0:=s34 _ _ et0
 have et1:=s34 _ _ et1
 have hS4:=(s2.trans s34).seq hS
 clear s34 s4 s3 s2 s1
 let I_:L2.St ->L2.Hp ->Prop:=fun σ' H'=>∃b0 b1 v5 v6,A0b c0 c1 H4 H'/\Z8 CC H' c0 v0 a0 b0 [] tr0/\Z8 CC H' c1 v1 a1 b1 [] tr1/\σ'=stL sc (some (.ref lr)) (some (.ref lc)) (some (.ref lt)) (some (.ref lk)) v5 v6 none none none none none none none none none none
 refine⟨I_,?_,?_⟩
 . refine⟨_,rfl,_,rfl,lc,lt,rfl,⟨_,SqL.of elc⟩,⟨_,SqL.of elt⟩,D9w (J:=Itz K lc lt) (n:=2) (fun i σ' H'=>∃b0 b1 v5 v6,A0b c0 c1 H4 H'/\Z8 CC H' c0 v0 a0 b0 [] (if 0<i then tr0 else [])/\Z8 CC H' c1 v1 a1 b1 [] (if 1<i then tr1 else [])/\σ'=stL sc (some (.ref lr)) (some (.ref lc)) (some (.ref lt)) (some (.ref lk)) v5 v6 none none none none none none none none none none) ⟨b0,b1,none,none,A0b.s (A8.refl _),ct0,ct1,rfl⟩ ?_ ?_⟩
   . rintro i σ' H' hi ⟨b0,b1,v5,v6,x',q0,q1,rfl⟩
     obtain⟨dc0,ec0⟩:=ct0.ins
     obtain⟨dc1,ec1⟩:=ct1.ins
     have kp:∀{q:Addr} {o:HO},H4 q=some o ->(∀C0 d0 F,o≠ .ins C0 d0 F) ->H' q=some o:=fun{q o} e no=>x' _ _ e (fun z=>by rw[z,ec0] at e;exact no _ _ _ (Option.some.inj e).symm) (fun z=>by rw[z,ec1] at e;exact no _ _ _ (Option.some.inj e).symm)
     have elc':=kp elc (fun _ _ _ z=>by cases z)
     have elt':=kp elt (fun _ _ _ z=>by cases z)
     have el0':=kp el0 (fun _ _ _ z=>by cases z)
     have el1':=kp el1 (fun _ _ _ z=>by cases z)
     rcases(by omega:i=0\/i=1) with rfl|rfl
     . refine⟨⟨_,_,_,_,SqL.of elc',SqL.of elt',rfl,rfl⟩,fun x H6 yl=>?_⟩
       obtain⟨t,u,w',rfl,nt,rfl,hu,hv⟩:=yl
       obtain rfl:u= .ref c0:=Option.some.inj ((hu _ (SqL.of elc')).symm.trans rfl)
       obtain rfl:w'= .ref l0:=Option.some.inj ((hv _ (SqL.of elt')).symm.trans rfl)
       have u1:=A8.upd (o:= .tup [.ref c0,.ref l0]) nt
       have q0':=q0.same u1
       obtain⟨dd,ed⟩:=q0'.ins
       refine⟨t,_,rfl,SqT.of A4,rfl,_,_,rfl,_,_,rfl,rfl,?_⟩
       refine⟨_,?_,fun _ _ h=>h⟩
       refine⟨_,rfl,c0,dd,_,rfl,ed,A2u _ _ _ _ _ _,_,rfl,l0,_,rfl,.inl (SqL.of (u1 _ _ el0')),fun ll nl=>?_⟩
       have u2:=A8.upd (o:= .lst (tr0.map V.str)) nl
       refine⟨c0,v0.r,v0.y,v0.l,v0.m,a0,b0,_,_,_,rfl,q0'.same u2,.inl ⟨ll,tr0,rfl,A4,st0.mem,fun b' H'' x'' _ ct''=>?_⟩⟩
       rw[B3j st0 (fun z=>Iff.rfl)] at ct''
       refine⟨b',b1,_,_,x'.trans ((A0b.s (u1.trans u2)).trans (A0b.l x'')),ct'',?_,rfl⟩
       exact A0k.exc1 (q1.same (u1.trans u2)) x'' n01.symm ((q0.same (u1.trans u2)).ins)
     . refine⟨⟨_,_,_,_,SqL.of elc',SqL.of elt',rfl,rfl⟩,fun x H6 yl=>?_⟩
       obtain⟨t,u,w',rfl,nt,rfl,hu,hv⟩:=yl
       obtain rfl:u= .ref c1:=Option.some.inj ((hu _ (SqL.of elc')).symm.trans rfl)
       obtain rfl:w'= .ref l1:=Option.some.inj ((hv _ (SqL.of elt')).symm.trans rfl)
       have u1:=A8.upd (o:= .tup [.ref c1,.ref l1]) nt
       have q1':=q1.same u1
       obtain⟨dd,ed⟩:=q1'.ins
       refine⟨t,_,rfl,SqT.of A4,rfl,_,_,rfl,_,_,rfl,rfl,?_⟩
       refine⟨_,?_,fun _ _ h=>h⟩
       refine⟨_,rfl,c1,dd,_,rfl,ed,A2u _ _ _ _ _ _,_,rfl,l1,_,rfl,.inl (SqL.of (u1 _ _ el1')),fun ll nl=>?_⟩
       have u2:=A8.upd (o:= .lst (tr1.map V.str)) nl
       refine⟨c1,v1.r,v1.y,v1.l,v1.m,a1,b1,_,_,_,rfl,q1'.same u2,.inl ⟨ll,tr1,rfl,A4,st1.mem,fun b' H'' x'' _ ct''=>?_⟩⟩
       rw[B3j st1 (fun z=>Iff.rfl)] at ct''
       refine⟨b0,b',_,_,x'.trans ((A0b.s (u1.trans u2)).trans (A0b.r x'')),?_,ct'',rfl⟩
       exact A0k.exc1 (q0.same (u1.trans u2)) x'' n01 ((q1.same (u1.trans u2)).ins)
   . rintro σ' H' ⟨b0,b1,v5,v6,x',q0,q1,rfl⟩
     obtain⟨dc0,ec0⟩:=ct0.ins
     obtain⟨dc1,ec1⟩:=ct1.ins
     have elc':=x' _ _ elc (U4 elc ec0 (by intro z;cases z)) (U4 elc ec1 (by intro z;cases z))
     have elt':=x' _ _ elt (U4 elt ec0 (by intro z;cases z)) (U4 elt ec1 (by intro z;cases z))
     exact⟨⟨_,_,SqL.of elc',SqL.of elt',.inr (Nat.le_refl 2)⟩,b0,b1,v5,v6,x',q0,q1,rfl⟩
 have ct0':=ct0
 have ct1':=ct1
 refine L2.hideG fun Z_ z_=>?_
 rintro σ' H5 ⟨b0,b1,v5,v6,x5,ct0,ct1,rfl⟩
 subst z_
 clear I_
 obtain⟨dc0,ec0⟩:=(id ct0:Z8 CC H5 c0 v0 a0 b0 [] tr0).ins
 obtain⟨dc1,ec1⟩:=(id ct1:Z8 CC H5 c1 v1 a1 b1 [] tr1).ins
 have x5k:∀{q:Addr} {o:HO},H4 q=some o ->(∀C0 d0 F,o≠ .ins C0 d0 F) ->H5 q=some o:=fun{q o} e no=>by
   by_cases h0:q=c0
   . obtain⟨dz,ez⟩:=ct0'.ins
     rw[h0,ez] at e
     exact absurd (Option.some.inj e).symm (no _ _ _)
   . by_cases h1:q=c1
     . obtain⟨dz,ez⟩:=ct1'.ins
       rw[h1,ez] at e
       exact absurd (Option.some.inj e).symm (no _ _ _)
     . exact x5 _ _ e h0 h1
 have hS5:SqL K H5 sc (ns.map V.int):=hS4.kept fun o e hb=>x5k e (by rcases hb with rfl|⟨oc,rfl⟩<;>exact fun _ _ _ z=>by cases z)
 let I_:L2.St ->L2.Hp ->Prop:=fun σ' H'=>∃ln ts,ts.length=5/\A8 H5 H'/\A6q H' ln ts/\σ'=stL sc (some (.ref lr)) (some (.ref lc)) (some (.ref lt)) (some (.ref lk)) v5 v6 (some (.ref ln)) none none none none none none none none none
 refine⟨I_,?_,?_⟩
 . refine⟨5,rfl,by decide,by decide,A1m (J:=Itr 0 5) (n:=5) (fun _ y H'=>∃p:Addr×Nm,y= .ref p.1/\H' p.1=some (.tup p.2.vs)/\p.2.Wf) (by decide) (fun i y H1 H2 D l h hD e=>?_) (fun i H2 Qy hi sm hy=>⟨hi,fun x H3 yl=>?_⟩) (fun H2 sm=>Nat.le_refl 5) (fun D H' ys sm nD eD hlen hR=>?_)⟩
   . obtain⟨p,rfl,hp,wf⟩:=h
     exact⟨p,rfl,e _ _ hp (U4 hp hD (by intro z;cases z)),wf⟩
   . obtain⟨rfl,rfl⟩:=yl
     refine⟨_,rfl,_,rfl,_,_,rfl,rfl,sc,ns,_,rfl,sm.seq hS5,by omega,fun c=>⟨_,rfl,_,_,rfl,rfl,A3m.ok (.inl ⟨by decide,by decide⟩),_,_,rfl,rfl,_,rfl,fun x t H' wf s' e=>hy _ _ s' ⟨(t,x),rfl,e,wf⟩⟩⟩
   . obtain⟨ts,rfl,hts⟩:=C4r (f:=fun p:Addr×Nm=>V.ref p.1) (R:=fun p=>H' p.1=some (.tup p.2.vs)/\p.2.Wf) hR
     exact⟨D,ts,by simpa using hlen,sm,⟨eD,hts⟩,rfl⟩
 refine L2.hideG fun Z_ z_=>?_
 rintro σ' H6 ⟨ln,ts,l6,s6,tu,rfl⟩
 subst z_
 clear I_
 let I_:L2.St ->L2.Hp ->Prop:=fun σ' H'=>∃lm,∃ms:List Addr,A8 H6 H'/\H' lm=some (.lst (ms.map V.ref))/\ms.length=5/\(∀(i:Nat) (n:Addr),ms[i]?=some n ->∃p:Addr×Nm,ts[i]?=some p/\V3 CN H' n p.2/\H6 n=none)/\σ'=stL sc (some (.ref lr)) (some (.ref lc)) (some (.ref lt)) (some (.ref lk)) v5 v6 (some (.ref ln)) (some (.ref lm)) none none none none none none none none
 refine⟨I_,?_,?_⟩
 . refine⟨_,rfl,ln,rfl,⟨_,SqL.of tu.l⟩,A1m (J:=Itl K ln) (n:=5) (fun i y H'=>∃p:Addr×Nm,ts[i]?=some p/\∃n:Addr,y= .ref n/\V3 CN H' n p.2/\H6 n=none) (by decide) (fun i y H1 H2 D l h hD e=>?_) (fun i H3 Qy hi sm hy=>?_) (fun H3 sm=>⟨_,SqL.of (sm _ _ tu.l),by rw[List.length_map,l6];exact Nat.le_refl 5⟩) (fun D H' ys sm nD eD hlen hR=>?_)⟩
   . obtain⟨p,hp,n,rfl,⟨dn,hn⟩,nn⟩:=h
     exact⟨p,hp,n,rfl,⟨dn,e _ _ hn (U4 hn hD (by intro z;cases z))⟩,nn⟩
   . have hi6:i<ts.length:=by rw[l6];exact hi
     have ep:ts[i]?=some ts[i]:=List.getElem?_eq_getElem hi6
     have ev:(ts.map fun p=>V.ref p.1)[i]?=some (.ref ts[i].1):=by rw[List.getElem?_map,ep];rfl
     refine⟨⟨_,_,SqL.of (sm _ _ tu.l),ev⟩,fun x H4 yl=>?_⟩
     obtain⟨rfl,yl⟩:=yl
     obtain rfl:=Option.some.inj ((yl _ (SqL.of (sm _ _ tu.l))).symm.trans ev)
     obtain⟨et,wt⟩:=tu.t ts[i] (List.getElem_mem hi6)
     exact⟨_,rfl,ts[i].1,ts[i].2,rfl,sm _ _ et,wt,fun n H' nn s' hn=>hy _ _ s' ⟨ts[i],ep,n,rfl,hn,sm.free nn⟩⟩
   . obtain⟨ms,em⟩:=C5j fun i y hy=>by
       obtain⟨p,hp,n,e,_⟩:=hR i y hy
       exact⟨n,e⟩
     subst em
     rw[List.length_map] at hlen
     refine⟨D,ms,sm,eD,hlen,fun i n hn=>?_,rfl⟩
     obtain⟨p,hp,n',e,num,nn⟩:=hR i (.ref n) (by rw[List.getElem?_map,hn];rfl)
     obtain rfl:=V.ref.inj e
     exact⟨p,hp,num,nn⟩
 refine L2.hideG fun Z_ z_=>?_
 rintro σ' H7 ⟨lm,ms,s7,elm,l6m,hm,rfl⟩
 subst z_
 clear I_
 have h7:Al CN CC K sc ns lr lc lt lk ln lm t0 t1 c0 c1 l0 l1 k0 k1 v0 v1 tr0 tr1 ts ms [] [] a0 b0 a1 b1 H7:=by
   have s67:=s6.trans s7
   have nn:∀n∈ms,H6 n=none:=fun n hn=>by
     obtain⟨i,hi⟩:=List.mem_iff_getElem?.mp hn
     obtain⟨_,_,_,q⟩:=hm i n hi
     exact q
   refine⟨s67.seq hS5,s67 _ _ (x5k elr fun _ _ _ z=>by cases z),s67 _ _ (x5k elc fun _ _ _ z=>by cases z),s67 _ _ (x5k elt fun _ _ _ z=>by cases z),s67 _ _ (x5k elk fun _ _ _ z=>by cases z),?_,?_,n01,nk,tu.same s7,l6,elm,l6m,fun i n hn=>?_,fun n hn=>⟨fun z=>?_,fun z=>?_⟩⟩
   . exact⟨s67 _ _ (x5k et0 fun _ _ _ z=>by cases z),ct0.same s67,s67 _ _ (x5k el0 fun _ _ _ z=>by cases z),s67 _ _ (x5k ek0 fun _ _ _ z=>by cases z),ok0,st0,List.nodup_nil,fun _ h=>by cases h⟩
   . exact⟨s67 _ _ (x5k et1 fun _ _ _ z=>by cases z),ct1.same s67,s67 _ _ (x5k el1 fun _ _ _ z=>by cases z),s67 _ _ (x5k ek1 fun _ _ _ z=>by cases z),ok1,st1,List.nodup_nil,fun _ h=>by cases h⟩
   . obtain⟨p,hp,q,_⟩:=hm i n hn
     exact⟨p,hp,q⟩
   . have q:=nn n hn
     rw[z,s6 _ _ ec0] at q
     cases q
   . have q:=nn n hn
     rw[z,s6 _ _ ec1] at q
     cases q
 refine⟨fun σ' H'=>∃us0 us1 a0 b0 a1 b1 y0 y1 y2 y3 y4 y5 y6 y7,Al CN CC K sc ns lr lc lt lk ln lm t0 t1 c0 c1 l0 l1 k0 k1 v0 v1 tr0 tr1 ts ms us0 us1 a0 b0 a1 b1 H'/\σ'=stL sc (some (.ref lr)) (some (.ref lc)) (some (.ref lt)) (some (.ref lk)) v5 v6 (some (.ref ln)) (some (.ref lm)) y0 y1 y2 y3 y4 y5 y6 y7,⟨10,rfl,by decide,by decide,B4n (n:=10) (fun i σ' H'=>∃us0 us1 a0 b0 a1 b1 y0 y1 y2 y3 y4 y5 y6 y7,Al CN CC K sc ns lr lc lt lk ln lm t0 t1 c0 c1 l0 l1 k0 k1 v0 v1 tr0 tr1 ts ms us0 us1 a0 b0 a1 b1 H'/\σ'=stL sc (some (.ref lr)) (some (.ref lc)) (some (.ref lt)) (some (.ref lk)) v5 v6 (some (.ref ln)) (some (.ref lm)) y0 y1 y2 y3 y4 y5 y6 y7) ⟨[],[],a0,b0,a1,b1,none,none,none,none,none,none,none,none,h7,rfl⟩ ?_ ?_⟩,?_⟩
 . clear h7 hm elm s7 tu s6 hS5 x5k ec0 ec1 ct0 ct1 x5 ct0' ct1'
   rintro i σ' H8 hi ⟨us0,us1,a0,b0,a1,b1,y0,y1,y2,y3,y4,y5,y6,y7,h8,rfl⟩
   let I_:L2.St ->L2.Hp ->Prop:=fun σ' H'=>∃dr:Int,H'=H8/\σ'=stL sc (some (.ref lr)) (some (.ref lc)) (some (.ref lt)) (some (.ref lk)) v5 v6 (some (.ref ln)) (some (.ref lm)) (some (.int (0+(i:Int)))) (some (.int dr)) y2 y3 y4 y5 y6 y7
   refine⟨I_,?_,?_⟩
   . exact⟨_,rfl,_,rfl,_,_,rfl,rfl,sc,ns,_,rfl,h8.scr,by omega,fun ce=>⟨_,rfl,_,_,rfl,rfl,ce,_,rfl,by omega,by omega,fun m m0 m1=>⟨_,_,rfl,rfl,⟨by decide,by decide+kernel⟩,_,rfl,rfl⟩⟩⟩
   refine L2.hideG fun Z_ z_=>?_
   rintro σ' H9 ⟨dr,rfl,rfl⟩
   subst z_
   clear I_
   refine⟨fun σ' H'=>∃he:Int,H'=H9/\(he=0\/he=1)/\σ'=stL sc (some (.ref lr)) (some (.ref lc)) (some (.ref lt)) (some (.ref lk)) v5 v6 (some (.ref ln)) (some (.ref lm)) (some (.int (0+(i:Int)))) (some (.int dr)) (some (.int he)) y3 y4 y5 y6 y7,⟨_,rfl,_,_,rfl,rfl,(by decide:(0:Int)<2),_,rfl,by have:=Int.emod_two_eq dr;omega,rfl⟩,?_⟩
   refine L2.hideG fun Z_ z_=>?_
   rintro σ' H11 ⟨he,rfl,hh,rfl⟩
   subst z_
   let I_:L2.St ->L2.Hp ->Prop:=fun σ' H'=>∃o1:Nat,H'=H11/\o1<5/\σ'=stL sc (some (.ref lr)) (some (.ref lc)) (some (.ref lt)) (some (.ref lk)) v5 v6 (some (.ref ln)) (some (.ref lm)) (some (.int (0+(i:Int)))) (some (.int dr)) (some (.int he)) (some (.int (o1:Int))) y4 y5 y6 y7
   refine⟨I_,?_,?_⟩
   . have e1:=Int.emod_lt_of_pos (dr/4) (show(0:Int)<5 by decide)
     have e2:=Int.emod_nonneg (dr/4) (show(5:Int)≠0 by decide)
     have e3:=Int.emod_two_eq (dr/2)
     refine⟨_,rfl,_,_,rfl,rfl,⟨by decide,by decide+kernel⟩,_,_,rfl,rfl,(by decide:(0:Int)<5),_,rfl,_,_,rfl,rfl,⟨by decide,by decide+kernel⟩,_,_,rfl,rfl,(by decide:(0:Int)<2),.inl ⟨_,rfl,_,_,rfl,rfl,A3m.ok (.inl ⟨by omega,by omega⟩),(dr/4 % 5*(dr/2 % 2)).toNat,rfl,?_,?_⟩⟩
     . rcases e3 with e|e<;>rw[e]<;>omega
     . show stL sc (some (.ref lr)) (some (.ref lc)) (some (.ref lt)) (some (.ref lk)) v5 v6 (some (.ref ln)) (some (.ref lm)) (some (.int (0+(i:Int)))) (some (.int dr)) (some (.int he)) (some (.int (dr/4 % 5*(dr/2 % 2)))) y4 y5 y6 y7=_
       rw[Int.toNat_of_nonneg (Int.mul_nonneg e2 (by omega))]
   refine L2.hideG fun Z_ z_=>?_
   rintro σ' H12 ⟨o1,rfl,lo1,rfl⟩
   subst z_
   clear I_
   let I_:L2.St ->L2.Hp ->Prop:=fun σ' H'=>∃o2:Nat,A8 H12 H'/\o2<5/\σ'=stL sc (some (.ref lr)) (some (.ref lc)) (some (.ref lt)) (some (.ref lk)) v5 v6 (some (.ref ln)) (some (.ref lm)) (some (.int (0+(i:Int)))) (some (.int dr)) (some (.int he)) (some (.int (o1:Int))) (some (.int (o2:Int))) y5 y6 y7
   refine⟨I_,?_,?_⟩
   . have e1:=Int.emod_lt_of_pos (dr/20) (show(0:Int)<5 by decide)
     have e2:=Int.emod_nonneg (dr/20) (show(5:Int)≠0 by decide)
     obtain⟨o,ho,ix⟩:=ixs (xs:=[1,dr/20 % 5]) (i:=dr/2 % 2) (Int.emod_nonneg _ (by decide)) (by show dr/2 % 2<2;exact Int.emod_lt_of_pos _ (by decide))
     have ob:0<=o/\o<5:=by
       simp only[List.mem_cons,List.not_mem_nil,or_false] at ho
       omega
     refine⟨_,rfl,_,_,rfl,rfl,⟨by decide,by decide+kernel⟩,_,_,rfl,rfl,(by decide:(0:Int)<5),z2,fun l nl=>⟨_,rfl,_,_,rfl,rfl,⟨by decide,by decide+kernel⟩,_,_,rfl,rfl,(by decide:(0:Int)<2),l,_,_,_,rfl,rfl,SqL.of A4,ix,o.toNat,A8.upd nl,by omega,?_⟩⟩
     show stL sc (some (.ref lr)) (some (.ref lc)) (some (.ref lt)) (some (.ref lk)) v5 v6 (some (.ref ln)) (some (.ref lm)) (some (.int (0+(i:Int)))) (some (.int dr)) (some (.int he)) (some (.int (o1:Int))) (some (.int o)) y5 y6 y7=_
     rw[Int.toNat_of_nonneg ob.1]
   refine L2.hideG fun Z_ z_=>?_
   rintro σ' H13 ⟨o2,s13,lo2,rfl⟩
   subst z_
   clear I_
   have h13:=h8.same s13
   obtain⟨v,us,tr,t,c,a,b,l,kd,it,ic,il,ik,sd,nmc,back⟩:=h13.pick hh
   have q1:o1<ts.length:=by rw[h13.l6];exact lo1
   have r1:o1<ms.length:=by rw[h13.m6];exact lo1
   have g1:ts[o1]?=some ts[o1]:=List.getElem?_eq_getElem q1
   have j1:atI (ts.map fun p=>V.ref p.1) (o1:Int)=some (.ref ts[o1].1):=D7 (j:=o1) (by rw[List.getElem?_map,g1];rfl)
   have f1:ms[o1]?=some ms[o1]:=List.getElem?_eq_getElem r1
   have w1:atI (ms.map V.ref) (o1:Int)=some (.ref ms[o1]):=D7 (j:=o1) (by rw[List.getElem?_map,f1];rfl)
   obtain⟨e1,wf1⟩:=h13.tu.t ts[o1] (List.getElem_mem q1)
   obtain⟨p1,gp1,num1⟩:=h13.hm o1 _ f1
   obtain rfl:=Option.some.inj (g1.symm.trans gp1)
   have q2:o2<ts.length:=by rw[h13.l6];exact lo2
   have r2:o2<ms.length:=by rw[h13.m6];exact lo2
   have g2:ts[o2]?=some ts[o2]:=List.getElem?_eq_getElem q2
   have j2:atI (ts.map fun p=>V.ref p.1) (o2:Int)=some (.ref ts[o2].1):=D7 (j:=o2) (by rw[List.getElem?_map,g2];rfl)
   have f2:ms[o2]?=some ms[o2]:=List.getElem?_eq_getElem r2
   have w2:atI (ms.map V.ref) (o2:Int)=some (.ref ms[o2]):=D7 (j:=o2) (by rw[List.getElem?_map,f2];rfl)
   obtain⟨e2,wf2⟩:=h13.tu.t ts[o2] (List.getElem_mem q2)
   obtain⟨p2,gp2,num2⟩:=h13.hm o2 _ f2
   obtain rfl:=Option.some.inj (g2.symm.trans gp2)
   have z3:3<=sizeLine:=C9 (by decide)
   refine⟨fun σ' H'=>∃tq x3,Nm.Wf x3/\A8 H13 H'/\H' tq=some (.tup (Nm.vs x3))/\σ'=stL sc (some (.ref lr)) (some (.ref lc)) (some (.ref lt)) (some (.ref lk)) v5 v6 (some (.ref ln)) (some (.ref lm)) (some (.int (0+(i:Int)))) (some (.int dr)) (some (.int he)) (some (.int (o1:Int))) (some (.int (o2:Int))) (some (.ref tq)) y6 y7,⟨_,rfl,_,rfl,_,_,rfl,rfl,⟨by decide,by decide+kernel⟩,ln,ts,_,rfl,h13.tu,h13.l6,fun x t H' wf s' et=>⟨t,x,wf,s',et,rfl⟩⟩,?_⟩
   refine L2.hideG fun Z_ z_=>?_
   rintro σ' H13' ⟨tq,x3,wf3,s13',etq,rfl⟩
   subst z_
   have h13':=h13.same s13'
   let I_:L2.St ->L2.Hp ->Prop:=fun σ' H'=>∃q zs L,A8 H13' H'/\A9k (Z5 ts[o1].2 ts[o2].2) x3 L/\A5b H' q (A0g v ts[o1].2 ts[o2].2 x3 L).1 zs/\(∀z,z∈zs↔z∈(A0g v ts[o1].2 ts[o2].2 x3 L).2)/\σ'=stL sc (some (.ref lr)) (some (.ref lc)) (some (.ref lt)) (some (.ref lk)) v5 v6 (some (.ref ln)) (some (.ref lm)) (some (.int (0+(i:Int)))) (some (.int dr)) (some (.int he)) (some (.int (o1:Int))) (some (.int (o2:Int))) (some (.ref tq)) (some (.ref q)) y7
   refine⟨I_,?_,?_⟩
   . exact⟨_,rfl,_,rfl,lr,_,_,_,rfl,rfl,SqL.of h13'.er,it,_,rfl,_,rfl,ln,_,_,_,rfl,rfl,SqL.of h13'.tu.l,j1,_,rfl,_,rfl,ln,_,_,_,rfl,rfl,SqL.of h13'.tu.l,j2,_,rfl,t,v,ts[o1].1,ts[o2].1,tq,ts[o1].2,ts[o2].2,x3,rfl,s13' _ _ sd.t,sd.ok,s13' _ _ e1,s13' _ _ e2,etq,wf1,wf2,wf3,fun L q zs H' hL s' du hz=>⟨q,zs,L,s',hL,du,hz,rfl⟩⟩
   refine L2.hideG fun Z_ z_=>?_
   rintro σ' H14 ⟨q,zs,L,s14',hL,du,hz,rfl⟩
   subst z_
   clear I_
   have s14:=s13'.trans s14'
   have h14:=h13.same s14
   have etq14:=s14' _ _ etq
   refine⟨fun σ' H'=>∃sm n3,A8 H14 H'/\H14 sm=none/\H14 n3=none/\V3 CN H' n3 x3/\H' sm=some (.lst [.ref ms[o1],.ref ms[o2],.ref n3])/\σ'=stL sc (some (.ref lr)) (some (.ref lc)) (some (.ref lt)) (some (.ref lk)) v5 v6 (some (.ref ln)) (some (.ref lm)) (some (.int (0+(i:Int)))) (some (.int dr)) (some (.int he)) (some (.int (o1:Int))) (some (.int (o2:Int))) (some (.ref tq)) (some (.ref q)) (some (.ref sm)),⟨_,rfl,_,rfl,lm,_,_,_,rfl,rfl,SqL.of h14.em,w1,_,rfl,_,rfl,lm,_,_,_,rfl,rfl,SqL.of h14.em,w2,_,rfl,tq,x3,rfl,etq14,wf3,fun n3 H' nn s' hn3=>⟨z3,fun sm nsm=>⟨sm,n3,s'.trans (A8.upd nsm),s'.free nsm,nn,hn3.same (A8.upd nsm),A4,rfl⟩⟩⟩,?_⟩
   refine L2.hideG fun Z_ z_=>?_
   rintro σ' H15 ⟨sm,n3,s15,nsm,nn3,B3z,esm,rfl⟩
   subst z_
   have h15:=h14.same s15
   have s135:=s14.trans s15
   have sd15:=sd.same s135
   have etq15:=s15 _ _ etq14
   obtain⟨dcq,ecq⟩:=(sd.same s14).ct.ins
   have n3c:n3≠c:=Ne.symm (D8 ecq nn3)
   have rdy:Rdy CN 0 [.ref ms[o1],.ref ms[o2],.ref n3] v c (A0g v ts[o1].2 ts[o2].2 x3 L) H15:=⟨ms[o1],ms[o2],n3,ts[o1].2,ts[o2].2,x3,L,rfl,num1.same s135,num2.same s135,B3z,wf1.ok,wf2.ok,wf3.ok,hL,rfl,nmc _ (List.getElem_mem r1),nmc _ (List.getElem_mem r2),n3c⟩
   let I_:L2.St ->L2.Hp ->Prop:=fun σ' H'=>∃us' a' b',A0b c kd H15 H'/\Sd CC v us' tr t c a' b' l kd H'/\σ'=stL sc (some (.ref lr)) (some (.ref lc)) (some (.ref lt)) (some (.ref lk)) v5 v6 (some (.ref ln)) (some (.ref lm)) (some (.int (0+(i:Int)))) (some (.int dr)) (some (.int he)) (some (.int (o1:Int))) (some (.int (o2:Int))) (some (.ref tq)) (some (.ref q)) (some (.ref sm))
   refine⟨I_,?_,?_⟩
   . refine⟨_,rfl,_,rfl,_,rfl,lt,_,_,_,rfl,rfl,SqL.of h15.et,il,_,rfl,_,rfl,lk,_,_,_,rfl,rfl,SqL.of h15.ek,ik,_,rfl,_,rfl,lc,_,_,_,rfl,rfl,SqL.of h15.ec,ic,_,rfl,q,l,kd,c,sm,a,b,0,v,us,tr,zs,[.ref ms[o1],.ref ms[o2],.ref n3],(A0g v ts[o1].2 ts[o2].2 x3 L),rfl,⟨du.same s15,hz,fun z h=>B5e z ((hz z).mp h),sd15.l,sd15.st,sd15.k,sd15.nu,sd15.su,sd15.ct,sd15.ok,esm,rdy⟩,fun us' a' b' H' mu nu x' ek' ct'=>⟨_,rfl,Y3 ⟨us',a',b',x',?_,rfl⟩⟩⟩
     obtain⟨dcc,ecc⟩:=sd15.ct.ins
     exact⟨x' _ _ sd15.t (U4 sd15.t ecc (by intro z;cases z)) (U4 sd15.t sd15.k (by intro z;cases z)),ct',x' _ _ sd15.l (U4 sd15.l ecc (by intro z;cases z)) (U4 sd15.l sd15.k (by intro z;cases z)),ek',sd15.ok,sd15.st,nu,fun z hz'=>((mu z).mp hz').elim (sd15.su z) fun h=>B5e z ((hz z).mp h)⟩
   refine L2.hideG fun Z_ z_=>?_
   rintro σ' H16 ⟨us',a',b',x16',sd16,rfl⟩
   subst z_
   clear I_
   obtain⟨dcc,ecc⟩:=sd15.ct.ins
   have esm16:=x16' _ _ esm (U4 esm ecc (by intro z;cases z)) (U4 esm sd15.k (by intro z;cases z))
   obtain⟨us0',us1',a0',b0',a1',b1',h16⟩:=back us' a' b' H16 ((A0b.s s135).trans x16') sd16
   have nsm13:H13 sm=none:=s14.free nsm
   have num3':V3 CN H16 n3 x3:=by
     obtain⟨dn,en⟩:=B3z
     exact⟨dn,x16' _ _ en n3c (U4 en sd15.k (by intro z;cases z))⟩
   have etq16:=x16' _ _ etq15 (U4 etq15 ecc (by intro z;cases z)) (U4 etq15 sd15.k (by intro z;cases z))
   refine⟨fun σ' H'=>A8 H16 H'/\σ'=stL sc (some (.ref lr)) (some (.ref lc)) (some (.ref lt)) (some (.ref lk)) v5 v6 (some (.ref ln)) (some (.ref lm)) (some (.int (0+(i:Int)))) (some (.int dr)) (some (.int he)) (some (.int (o1:Int))) (some (.int (o2:Int))) (some (.ref tq)) (some (.ref q)) (some (.ref sm)),⟨_,rfl,sm,_,_,_,rfl,rfl,SqL.of esm16,D7 (j:=2) rfl,_,rfl,n3,tq,x3,rfl,num3',etq16,fun H' s'=>⟨_,rfl,Y3 ⟨s',rfl⟩⟩⟩,?_⟩
   rintro σ' H16 ⟨s16',rfl⟩
   have h16:=h16.same s16'
   have sd16:=sd16.same s16'
   have esm16:=s16' _ _ esm16
   have x16':=x16'.trans (A0b.s (c:=c) (d:=kd) s16')
   let I_:L2.St ->L2.Hp ->Prop:=fun σ' H'=>∃us0 us1 a0 b0 a1 b1,Al CN CC K sc ns lr lc lt lk ln lm t0 t1 c0 c1 l0 l1 k0 k1 v0 v1 tr0 tr1 ts ms us0 us1 a0 b0 a1 b1 H'/\σ'=stL sc (some (.ref lr)) (some (.ref lc)) (some (.ref lt)) (some (.ref lk)) v5 v6 (some (.ref ln)) (some (.ref lm)) (some (.int (0+(i:Int)))) (some (.int dr)) (some (.int he)) (some (.int (o1:Int))) (some (.int (o2:Int))) (some (.ref tq)) (some (.ref q)) (some (.ref sm))
   refine⟨I_,?_,?_⟩
   . obtain⟨dc16,ec16⟩:=sd16.ct.ins
     have x13:A0b c kd H13 H16:=(A0b.s s135).trans x16'
     refine⟨_,rfl,_,_,rfl,rfl,⟨by decide,by decide+kernel⟩,_,_,rfl,rfl,(by decide:(0:Int)<5),rfl,_,rfl,V0 (fun _=>?_) (fun _=>?_)⟩
     . let I_:L2.St ->L2.Hp ->Prop:=fun σ' H'=>∃a2,Exc c H16 H'/\Z8 CC H' c v a2 b' [] tr/\σ'=stL sc (some (.ref lr)) (some (.ref lc)) (some (.ref lt)) (some (.ref lk)) v5 v6 (some (.ref ln)) (some (.ref lm)) (some (.int (0+(i:Int)))) (some (.int dr)) (some (.int he)) (some (.int (o1:Int))) (some (.int (o2:Int))) (some (.ref tq)) (some (.ref q)) (some (.ref sm))
       refine⟨I_,?_,?_⟩
       . exact⟨_,rfl,_,rfl,lc,_,_,_,rfl,rfl,SqL.of h16.ec,ic,c,dc16,_,rfl,ec16,B7b _ _ _ _ _ _,c,v.r,v.y,v.l,v.m,a',b',_,_,rfl,sd16.ct,fun a2 H' x2 _ ct2=>⟨a2,x2,ct2,rfl⟩⟩
       refine L2.hideG fun Z_ z_=>?_
       rintro σ' H17 ⟨a2,x17,ct17,rfl⟩
       subst z_
       clear I_
       have ek17:=x17 _ _ sd16.k (U4 sd16.k ec16 (by intro z;cases z))
       have elk17:=x17 _ _ h16.ek (U4 h16.ek ec16 (by intro z;cases z))
       have et17:=x17 _ _ sd16.t (U4 sd16.t ec16 (by intro z;cases z))
       have el17:=x17 _ _ sd16.l (U4 sd16.l ec16 (by intro z;cases z))
       refine⟨_,?_,fun _ _ h=>h⟩
       refine⟨_,rfl,_,rfl,lk,_,_,_,rfl,rfl,SqL.of elk17,ik,.inr (.inr (.inl ⟨rfl,.inl ⟨_,ek17⟩⟩)),kd,_,rfl,rfl,ek17,?_⟩
       have xu:A0b c kd H17 (upd H17 kd (.dK [])):=fun b o e _ nb=>by rw[D0 nb];exact e
       obtain⟨⟨d17,z1⟩,z2,z3⟩:=ct17
       have sd17:Sd CC v [] tr t c a2 b' l kd (upd H17 kd (.dK [])):=⟨by rw[D0 (U4 et17 ek17 (by intro z;cases z))];exact et17,⟨⟨d17,by rw[D0 (U4 z1 ek17 (by intro z;cases z))];exact z1⟩,by rw[D0 (U4 z2 ek17 (by intro z;cases z))];exact z2,by rw[D0 (U4 z3 ek17 (by intro z;cases z))];exact z3⟩,by rw[D0 (U4 el17 ek17 (by intro z;cases z))];exact el17,A4,sd16.ok,sd16.st,List.nodup_nil,fun _ h=>by cases h⟩
       obtain⟨y0,y1,y2,y3,y4,y5,h17⟩:=back [] a2 b' _ (x13.trans ((A0b.l x17).trans xu)) sd17
       exact⟨y0,y1,y2,y3,y4,y5,h17,rfl⟩
     . refine⟨_,?_,fun _ _ h=>h⟩
       refine⟨_,rfl,_,_,rfl,rfl,⟨by decide,by decide+kernel⟩,_,_,rfl,rfl,(by decide:(0:Int)<5),rfl,_,rfl,V0 (fun _=>?_) (fun _=>⟨us0',us1',a0',b0',a1',b1',h16,rfl⟩)⟩
       obtain⟨j,hj,ej⟩:∃j:Nat,(j=0\/j=1\/j=2)/\ixN 3 (dr/7500 % 3)=some j:=by
         have e1:=Int.emod_lt_of_pos (dr/7500) (show(0:Int)<3 by decide)
         have e2:=Int.emod_nonneg (dr/7500) (show(3:Int)≠0 by decide)
         rcases(by omega:dr/7500 % 3=0\/dr/7500 % 3=1\/dr/7500 % 3=2) with e|e|e
         . exact⟨0,.inl rfl,by rw[e];rfl⟩
         . exact⟨1,.inr (.inl rfl),by rw[e];rfl⟩
         . exact⟨2,.inr (.inr rfl),by rw[e];rfl⟩
       let I_:L2.St ->L2.Hp ->Prop:=fun σ' H'=>∃od:V,(∀b o,H16 b=some o ->b≠sm ->H' b=some o)/\A7z H' od/\H' sm=some (.lst (([.ref ms[o1],.ref ms[o2],.ref n3]:List V).set j od))/\σ'=stL sc (some (.ref lr)) (some (.ref lc)) (some (.ref lt)) (some (.ref lk)) v5 v6 (some (.ref ln)) (some (.ref lm)) (some (.int (0+(i:Int)))) (some (.int dr)) (some (.int he)) (some (.int (o1:Int))) (some (.int (o2:Int))) (some (.ref tq)) (some (.ref q)) (some (.ref sm))
       refine⟨I_,?_,?_⟩
       . refine⟨_,rfl,_,_,rfl,rfl,⟨by decide,by decide+kernel⟩,_,rfl,fun od H' oo s'=>⟨_,rfl,_,rfl,_,_,rfl,rfl,⟨by decide,by decide+kernel⟩,_,_,rfl,rfl,(by decide:(0:Int)<3),sm,_,_,j,rfl,rfl,s' _ _ esm16,ej,od,fun b o e nb=>by rw[D0 nb];exact s' _ _ e,oo.lset (s' _ _ esm16),A4,rfl⟩⟩
       refine L2.hideG fun Z_ z_=>?_
       rintro σ' H17 ⟨od,x17,oo,esm17,rfl⟩
       subst z_
       clear I_
       have ec17:=x17 _ _ h16.ec (D8 h13.ec nsm13)
       have n17_1:V3 CN H17 ms[o1] ts[o1].2:=by
         obtain⟨p,hp,dn,en⟩:=h16.hm o1 _ f1
         obtain rfl:=Option.some.inj (g1.symm.trans hp)
         obtain⟨dz,ez⟩:=num1
         exact⟨dn,x17 _ _ en (D8 ez nsm13)⟩
       have n17_2:V3 CN H17 ms[o2] ts[o2].2:=by
         obtain⟨p,hp,dn,en⟩:=h16.hm o2 _ f2
         obtain rfl:=Option.some.inj (g2.symm.trans hp)
         obtain⟨dz,ez⟩:=num2
         exact⟨dn,x17 _ _ en (D8 ez nsm13)⟩
       obtain⟨as,eu,bad⟩:∃as,H17 sm=some (.lst as)/\G5r K CN 0 as H17:=by
         rcases hj with rfl|rfl|rfl
         . exact⟨_,esm17,_,_,_,rfl,.inl (oo.not O4)⟩
         . exact⟨_,esm17,_,_,_,rfl,.inr (.inl ⟨_,_,rfl,n17_1,oo.not O4⟩)⟩
         . exact⟨_,esm17,_,_,_,rfl,.inr (.inr ⟨_,_,_,_,rfl,n17_1,rfl,n17_2,oo.not O4⟩)⟩
       refine⟨_,?_,fun _ _ h=>h⟩
       refine⟨_,rfl,_,rfl,lc,_,_,_,rfl,rfl,SqL.of ec17,ic,_,rfl,c,sm,as,0,rfl,eu,bad,fun H' s'=>⟨_,rfl,Y3 ?_⟩⟩
       have kp:∀{q:Addr} {o:HO},H16 q=some o ->q≠sm ->H' q=some o:=fun e n=>s' _ _ (x17 _ _ e n)
       obtain⟨⟨d16,z1⟩,z2,z3⟩:=sd16.ct
       have nz1:c≠sm:=U4 z1 esm16 (by intro z;cases z)
       have nz2:a'≠sm:=fun z=>by
         rw[z,esm16] at z2
         exact C5m (HO.lst.inj (Option.some.inj z2)).symm
       have nz3:b'≠sm:=fun z=>by
         rw[z,esm16] at z3
         exact C5m (HO.lst.inj (Option.some.inj z3)).symm
       have sd18:Sd CC v us' tr t c a' b' l kd H':=⟨kp sd16.t (D8 sd.t nsm13),⟨⟨d16,kp z1 nz1⟩,kp z2 nz2,kp z3 nz3⟩,kp sd16.l (D8 sd.l nsm13),kp sd16.k (D8 sd.k nsm13),sd16.ok,sd16.st,sd16.nu,sd16.su⟩
       obtain⟨y0,y1,y2,y3,y4,y5,h18⟩:=back us' a' b' H' (fun b o e nc nk=>kp (x13 b o e nc nk) (D8 e nsm13)) sd18
       exact⟨y0,y1,y2,y3,y4,y5,h18,rfl⟩
   clear h16 esm16 sd16 x16' sd15 h15 h14 du back
   refine L2.hideG fun Z_ z_=>?_
   rintro σ' H17 ⟨us0,us1,a0,b0,a1,b1,h17,rfl⟩
   subst z_
   clear I_
   obtain⟨v',us',tr',t',c',a',b',l',kd',it',ic',il',ik',sd',_,_⟩:=h17.pick (he:=1-he) (by omega)
   obtain⟨dc',ec'⟩:=sd'.ct.ins
   refine⟨_,?_,fun _ _ h=>h⟩
   refine⟨_,rfl,_,rfl,_,_,rfl,rfl,lc,_,_,_,rfl,rfl,SqL.of h17.ec,ic',c',dc',_,rfl,ec',A7u _ _ _ _ _ _,c',v'.r,v'.y,v'.l,v'.m,a',b',_,_,rfl,sd'.ct,fun fl nfl=>?_⟩
   have uf:=A8.upd (o:= .lst ((Y5 us').map V.str)) nfl
   have ef:upd H17 fl (.lst ((Y5 us').map V.str)) fl=some (.lst ((Y5 us').map V.str)):=A4
   generalize upd H17 fl (.lst ((Y5 us').map V.str))=H18 at uf ef
   have h18:=h17.same uf
   have ek18:=uf _ _ sd'.k
   have okU:OkL (Y5 us'):=⟨Nat.le_trans (C3z us') (by decide),fun z hz=>D2z z (List.mem_filter.mp hz).1⟩
   refine A7j (zs:=Y8) (f:=fun z=>us'.contains z) (σf:=[sr lk,si he]) SG.sq (by decide) (fun z H' Qb sm qq=>?_) (fun z H' Qv qq=>⟨_,rfl,qq⟩) (fun D H' sm nd e=>?_) rfl
   . have:=C8w.k (k:= .inr z) (sm _ _ ek18)
     refine⟨_,rfl,_,rfl,_,rfl,_,_,rfl,rfl,lk,_,_,_,rfl,rfl,SqL.of (sm _ _ h18.ek),ik',kd',_,rfl,this,_,rfl,?_⟩
     rw[C9q]
     exact qq
   . refine⟨rdS (Y5 us'),rdS (Y5 us'),A4m (sm _ _ ef),A4m e,shS okU,shS okU,?_⟩
     rw[if_pos rfl,G5p]
     exact⟨_,rfl,Y3 ⟨us0,us1,a0,b0,a1,b1,_,_,_,_,_,_,_,_,h18.same sm,rfl⟩⟩
 . rintro σ' H8 h
   exact h
 refine L2.hideG fun Z_ z_=>?_
 rintro σ' H8 ⟨us0,us1,a0,b0,a1,b1,y0,y1,y2,y3,y4,y5,y6,y7,h8,rfl⟩
 subst z_
 refine⟨_,rfl,_,rfl,lm,ln,rfl,⟨_,SqL.of h8.em⟩,⟨_,SqL.of h8.tu.l⟩,A1m (J:=Itz K lm ln) (n:=5) (fun _ y _=>y= .bl true) (by decide) (fun _ _ _ _ _ _ h _ _=>h) (fun i H2 Qy hi sm hy=>?_) (fun H2 sm=>⟨_,_,SqL.of (sm _ _ h8.em),SqL.of (sm _ _ h8.tu.l),.inr (by simp[h8.l6])⟩) (fun D H' ys sm nD eD hlen hR=>?_)⟩
 . have h9:=h8.same sm
   have im:i<ms.length:=by rw[h8.m6];exact hi
   have en:ms[i]?=some ms[i]:=List.getElem?_eq_getElem im
   obtain⟨p,hp,num⟩:=h9.hm i _ en
   have ep:=h9.tu.t p (List.mem_of_getElem? hp)
   refine⟨⟨_,_,V.ref ms[i],V.ref p.1,SqL.of h9.em,SqL.of h9.tu.l,by rw[List.getElem?_map,en];rfl,by rw[List.getElem?_map,hp];rfl⟩,fun z H3 yl=>?_⟩
   obtain⟨t,u,v,rfl,nt,rfl,hu,hv⟩:=yl
   have hu:=hu _ (SqL.of h9.em)
   have hv:=hv _ (SqL.of h9.tu.l)
   have eu:u= .ref ms[i]:=by
     rw[List.getElem?_map,en] at hu
     exact(Option.some.inj hu).symm
   have ev:v= .ref p.1:=by
     rw[List.getElem?_map,hp] at hv
     exact(Option.some.inj hv).symm
   subst eu ev
   have u1:=A8.upd (o:= .tup [.ref ms[i],.ref p.1]) nt
   refine⟨t,_,rfl,SqT.of A4,rfl,_,_,rfl,_,_,rfl,rfl,?_⟩
   exact⟨_,rfl,_,rfl,ms[i],p.1,p.2,rfl,num.same u1,u1 _ _ ep.1,fun H' s'=>hy _ _ (u1.trans s') rfl⟩
 have ey:ys=(List.replicate 5 true).map V.bl:=by
   apply List.ext_getElem?
   intro i
   by_cases hi:i<5
   . rw[List.getElem?_eq_getElem (by omega),hR i ys[i] (by simp[hlen,hi])]
     rw[List.getElem?_map,List.getElem?_replicate,if_pos hi]
     rfl
   . rw[List.getElem?_eq_none (by omega),List.getElem?_eq_none (by simp;omega)]
 subst ey
 refine⟨D,_,rfl,SqL.of eD,?_⟩
 rw[show(List.replicate 5 true).all id=true by simp]
 exact kk H'
def Fa (K:Frag) (x:Str) (st:Stmt):Prop:=∃(f:Addr) (oc:Value) (od:Option Addr) (osl:Array (Option Value)) (kV doc pm:Value) (an:Option Addr) (cdv ct:Value),nsIn K mainGlobals x=some (some (.ref f))/\K.lookup f=some ⟨oc,od,.func (fnOf x x (U6 st) (U2 st) (A6 st) .none kV doc pm an cdv ct),osl⟩/\codeIn K cdv x=true/\keepIn K (.ref f)=true
theorem Fa.mk{K:Frag}{x:Str}{st:Stmt}{oc:Value}{od an:Option Addr}{osl:Array (Option Value)}{kV doc pm cdv ct:Value}(a:nsIn K mainGlobals x=some (some (.ref f)))(l:K.lookup f=some ⟨oc,od,.func (fnOf x x (U6 st) (U2 st) (A6 st) .none kV doc pm an cdv ct),osl⟩)(c:codeIn K cdv x=true)(k:keepIn K (.ref f)=true):Fa K x st:=
 ⟨_,_,_,_,_,_,_,_,_,_,a,l,c,k⟩
def Fb (K:Frag) (C:Addr) (m q:Str) (st:Stmt):Prop:=∃(f:Addr) (oc:Value) (od:Option Addr) (osl:Array (Option Value)) (kV doc pm:Value) (an:Option Addr) (cdv ct:Value),findIn K (.ref C) m=some (some (.ref f))/\isFn K (.ref f)=true/\K.lookup f=some ⟨oc,od,.func (fnOf m q (U6 st) (U2 st) (A6 st) .none kV doc pm an cdv ct),osl⟩/\codeIn K cdv q=true/\keepIn K (.ref f)=true
theorem Fb.mk{K:Frag}{C:Addr}{m q:Str}{st:Stmt}{oc:Value}{od an:Option Addr}{osl:Array (Option Value)}{kV doc pm cdv ct:Value}(a:findIn K (.ref C) m=some (some (.ref f)))(i:isFn K (.ref f)=true)(l:K.lookup f=some ⟨oc,od,.func (fnOf m q (U6 st) (U2 st) (A6 st) .none kV doc pm an cdv ct),osl⟩)(c:codeIn K cdv q=true)(k:keepIn K (.ref f)=true):Fb K C m q st:=
 ⟨_,_,_,_,_,_,_,_,_,_,a,i,l,c,k⟩
theorem Fa.go0{K:Frag}{h:Heap}{mg:Str ->Option Value}{x:Str}{st:Stmt}(u:Fa K x st)(X:K.In h)(G:h.Ns mainGlobals mg)
   (hb:∀(kV doc pm:Value) (an:Option Addr) (cdv ct:Value),bindArgs (fnOf x x (U6 st) (U2 st) (A6 st) .none kV doc pm an cdv ct) ⟨[],[]⟩=pure ([].zip []):=by intros;rfl):∃f fd,Def K mg x [] st f fd:=by
 obtain⟨_,_,_,_,_,_,_,_,_,_,a,l,c,k⟩:=u
 exact⟨_,_,A3z X G a l c k fun kV d p an cd ct us hl=>match us,hl with| [],_=>hb kV d p an cd ct⟩
theorem Fa.go1{K:Frag}{h:Heap}{mg:Str ->Option Value}{x:Str}{p0:Str}{st:Stmt}(u:Fa K x st)(X:K.In h)(G:h.Ns mainGlobals mg)
   (hb:∀(kV doc pm:Value) (an:Option Addr) (cdv ct:Value) (u0:Value),bindArgs (fnOf x x (U6 st) (U2 st) (A6 st) .none kV doc pm an cdv ct) ⟨[u0],[]⟩=pure ([p0].zip [u0]):=by intros;rfl):∃f fd,Def K mg x [p0] st f fd:=by
 obtain⟨_,_,_,_,_,_,_,_,_,_,a,l,c,k⟩:=u
 exact⟨_,_,A3z X G a l c k fun kV d p an cd ct us hl=>match us,hl with| [_],_=>hb kV d p an cd ct _⟩
theorem Fb.go1{K:Frag}{C:Addr}{x q:Str}{p0:Str}{st:Stmt}(u:Fb K C x q st)
   (hb:∀(kV doc pm:Value) (an:Option Addr) (cdv ct:Value) (u0:Value),bindArgs (fnOf x q (U6 st) (U2 st) (A6 st) .none kV doc pm an cdv ct) ⟨[u0],[]⟩=pure ([p0].zip [u0]):=by intros;rfl):∃f fd,Fun K x q st f fd/\Y6 K fd [p0] []/\A8b K C x f:=by
 obtain⟨_,_,_,_,_,_,_,_,_,_,a,i,l,c,k⟩:=u
 exact⟨_,_,A2y (st:=st) l c k,(A2y (st:=st) l c k).binds fun kV d p an cd ct us hl=>match us,hl with| [_],_=>hb kV d p an cd ct _,a,i,k⟩
theorem Fa.go2{K:Frag}{h:Heap}{mg:Str ->Option Value}{x:Str}{p0 p1:Str}{st:Stmt}(u:Fa K x st)(X:K.In h)(G:h.Ns mainGlobals mg)
   (hb:∀(kV doc pm:Value) (an:Option Addr) (cdv ct:Value) (u0 u1:Value),bindArgs (fnOf x x (U6 st) (U2 st) (A6 st) .none kV doc pm an cdv ct) ⟨[u0,u1],[]⟩=pure ([p0,p1].zip [u0,u1]):=by intros;rfl):∃f fd,Def K mg x [p0,p1] st f fd:=by
 obtain⟨_,_,_,_,_,_,_,_,_,_,a,l,c,k⟩:=u
 exact⟨_,_,A3z X G a l c k fun kV d p an cd ct us hl=>match us,hl with| [_,_],_=>hb kV d p an cd ct _ _⟩
theorem Fb.go2{K:Frag}{C:Addr}{x q:Str}{p0 p1:Str}{st:Stmt}(u:Fb K C x q st)
   (hb:∀(kV doc pm:Value) (an:Option Addr) (cdv ct:Value) (u0 u1:Value),bindArgs (fnOf x q (U6 st) (U2 st) (A6 st) .none kV doc pm an cdv ct) ⟨[u0,u1],[]⟩=pure ([p0,p1].zip [u0,u1]):=by intros;rfl):∃f fd,Fun K x q st f fd/\Y6 K fd [p0,p1] []/\A8b K C x f:=by
 obtain⟨_,_,_,_,_,_,_,_,_,_,a,i,l,c,k⟩:=u
 exact⟨_,_,A2y (st:=st) l c k,(A2y (st:=st) l c k).binds fun kV d p an cd ct us hl=>match us,hl with| [_,_],_=>hb kV d p an cd ct _ _,a,i,k⟩
theorem Fa.go3{K:Frag}{h:Heap}{mg:Str ->Option Value}{x:Str}{p0 p1 p2:Str}{st:Stmt}(u:Fa K x st)(X:K.In h)(G:h.Ns mainGlobals mg)
   (hb:∀(kV doc pm:Value) (an:Option Addr) (cdv ct:Value) (u0 u1 u2:Value),bindArgs (fnOf x x (U6 st) (U2 st) (A6 st) .none kV doc pm an cdv ct) ⟨[u0,u1,u2],[]⟩=pure ([p0,p1,p2].zip [u0,u1,u2]):=by intros;rfl):∃f fd,Def K mg x [p0,p1,p2] st f fd:=by
 obtain⟨_,_,_,_,_,_,_,_,_,_,a,l,c,k⟩:=u
 exact⟨_,_,A3z X G a l c k fun kV d p an cd ct us hl=>match us,hl with| [_,_,_],_=>hb kV d p an cd ct _ _ _⟩
theorem Fa.go4{K:Frag}{h:Heap}{mg:Str ->Option Value}{x:Str}{p0 p1 p2 p3:Str}{st:Stmt}(u:Fa K x st)(X:K.In h)(G:h.Ns mainGlobals mg)
   (hb:∀(kV doc pm:Value) (an:Option Addr) (cdv ct:Value) (u0 u1 u2 u3:Value),bindArgs (fnOf x x (U6 st) (U2 st) (A6 st) .none kV doc pm an cdv ct) ⟨[u0,u1,u2,u3],[]⟩=pure ([p0,p1,p2,p3].zip [u0,u1,u2,u3]):=by intros;rfl):∃f fd,Def K mg x [p0,p1,p2,p3] st f fd:=by
 obtain⟨_,_,_,_,_,_,_,_,_,_,a,l,c,k⟩:=u
 exact⟨_,_,A3z X G a l c k fun kV d p an cd ct us hl=>match us,hl with| [_,_,_,_],_=>hb kV d p an cd ct _ _ _ _⟩
theorem Fb.go4{K:Frag}{C:Addr}{x q:Str}{p0 p1 p2 p3:Str}{st:Stmt}(u:Fb K C x q st)
   (hb:∀(kV doc pm:Value) (an:Option Addr) (cdv ct:Value) (u0 u1 u2 u3:Value),bindArgs (fnOf x q (U6 st) (U2 st) (A6 st) .none kV doc pm an cdv ct) ⟨[u0,u1,u2,u3],[]⟩=pure ([p0,p1,p2,p3].zip [u0,u1,u2,u3]):=by intros;rfl):∃f fd,Fun K x q st f fd/\Y6 K fd [p0,p1,p2,p3] []/\A8b K C x f:=by
 obtain⟨_,_,_,_,_,_,_,_,_,_,a,i,l,c,k⟩:=u
 exact⟨_,_,A2y (st:=st) l c k,(A2y (st:=st) l c k).binds fun kV d p an cd ct us hl=>match us,hl with| [_,_,_,_],_=>hb kV d p an cd ct _ _ _ _,a,i,k⟩
theorem Fa.go5{K:Frag}{h:Heap}{mg:Str ->Option Value}{x:Str}{p0 p1 p2 p3 p4:Str}{st:Stmt}(u:Fa K x st)(X:K.In h)(G:h.Ns mainGlobals mg)
   (hb:∀(kV doc pm:Value) (an:Option Addr) (cdv ct:Value) (u0 u1 u2 u3 u4:Value),bindArgs (fnOf x x (U6 st) (U2 st) (A6 st) .none kV doc pm an cdv ct) ⟨[u0,u1,u2,u3,u4],[]⟩=pure ([p0,p1,p2,p3,p4].zip [u0,u1,u2,u3,u4]):=by intros;rfl):∃f fd,Def K mg x [p0,p1,p2,p3,p4] st f fd:=by
 obtain⟨_,_,_,_,_,_,_,_,_,_,a,l,c,k⟩:=u
 exact⟨_,_,A3z X G a l c k fun kV d p an cd ct us hl=>match us,hl with| [_,_,_,_,_],_=>hb kV d p an cd ct _ _ _ _ _⟩
theorem Fa.go6{K:Frag}{h:Heap}{mg:Str ->Option Value}{x:Str}{p0 p1 p2 p3 p4 p5:Str}{st:Stmt}(u:Fa K x st)(X:K.In h)(G:h.Ns mainGlobals mg)
   (hb:∀(kV doc pm:Value) (an:Option Addr) (cdv ct:Value) (u0 u1 u2 u3 u4 u5:Value),bindArgs (fnOf x x (U6 st) (U2 st) (A6 st) .none kV doc pm an cdv ct) ⟨[u0,u1,u2,u3,u4,u5],[]⟩=pure ([p0,p1,p2,p3,p4,p5].zip [u0,u1,u2,u3,u4,u5]):=by intros;rfl):∃f fd,Def K mg x [p0,p1,p2,p3,p4,p5] st f fd:=by
 obtain⟨_,_,_,_,_,_,_,_,_,_,a,l,c,k⟩:=u
 exact⟨_,_,A3z X G a l c k fun kV d p an cd ct us hl=>match us,hl with| [_,_,_,_,_,_],_=>hb kV d p an cd ct _ _ _ _ _ _⟩
theorem Fa.go7{K:Frag}{h:Heap}{mg:Str ->Option Value}{x:Str}{p0 p1 p2 p3 p4 p5 p6:Str}{st:Stmt}(u:Fa K x st)(X:K.In h)(G:h.Ns mainGlobals mg)
   (hb:∀(kV doc pm:Value) (an:Option Addr) (cdv ct:Value) (u0 u1 u2 u3 u4 u5 u6:Value),bindArgs (fnOf x x (U6 st) (U2 st) (A6 st) .none kV doc pm an cdv ct) ⟨[u0,u1,u2,u3,u4,u5,u6],[]⟩=pure ([p0,p1,p2,p3,p4,p5,p6].zip [u0,u1,u2,u3,u4,u5,u6]):=by intros;rfl):∃f fd,Def K mg x [p0,p1,p2,p3,p4,p5,p6] st f fd:=by
 obtain⟨_,_,_,_,_,_,_,_,_,_,a,l,c,k⟩:=u
 exact⟨_,_,A3z X G a l c k fun kV d p an cd ct us hl=>match us,hl with| [_,_,_,_,_,_,_],_=>hb kV d p an cd ct _ _ _ _ _ _ _⟩
end TR
namespace TR
open PySem L2 PySem.W PyProof.Rows
theorem all_mk{l:OpenLaw}{w:World}{K:Frag}{h:Heap}{mg:Str ->Option Value}{fa CW W0 W1 W2 W3 W4 W5 W6 W7 CN B5x CC B5v D7a CQ B5w D3y CE C1 C2 C3 C4 C5 CR fX aS D6h:Addr}(X:K.In h)(G:h.Ns mainGlobals mg)(hfa:mg "law"=some (.ref fa))(g_:Fa K "product_of" A3u)(pi:Fa K "ten_to" A4w)(o8:Fa K "part_of" B0z)(pj:Fa K "whole_lead" B7u)(pk:Fa K "plain" B6p)(t8:Fa K "end" C7u)(kz:Fa K "nothing" A3b)(qp:Fa K "told" C4z)(qr:Fa K "lead_of" C5t)(pq:Fa K "need_number" B3f)(jp:Fa K "need_numbers" B0q)(pr:Fa K "some_of_kind" A6c)(o9:Fa K "unlike_sign" B0e)(k_:Fa K "whole_at" A7m)(t9:Fa K "is_between" C3c)(l7:Fa K "need_between" A4k)(l9:Fa K "settled" A6x)(og:Fa K "finest_power" B0x)(la:Fa K "nearest_to" A7n)(h6:Fa K "neighbour" A3y)(oh:Fa K "within_room" B0r)(oj:Fa K "is_beyond" B0g)(pz:Fa K "burst" B6m)(p_:Fa K "nines" B7a)(lb:Fa K "signals_of_rest" A7b)(le:Fa K "signals_of_lead" A7h)(om:Fa K "nought" B0k)(qt:Fa K "void" B8r)(qa:Fa K "fused" B6z)(jq:Fa K "is_nought" A5u)(on:Fa K "is_end_by_nought" B0s)(lh:Fa K "product" A6w)(qb:Fa K "added" B5z)(jr:Fa K "end_added" A5q)(qc:Fa K "sign_of_no_sum" B7j)(qd:Fa K "way_of" B1x)(li:Fa K "bounded" A7t)(qe:Fa K "need_signals" B3n)(qf:Fa K "in_order" B2j)(qu:Fa K "_law_cell_at" C4s)(qg:Fa K "_law_mixed" A4n)(qv:Fa K "_law_ten" A7x)(oq:Fa K "_law_whole" B0p)(qw:Fa K "_law_number" A4y)(qh:Fa K "_law_made" B3h)(ot:Fa K "_law_rules" A7g)(lj:Fa K "_law_scaled" A2n)(qi:Fa K "_law_lead" B3c)(qj:Fa K "_law_goes_up" B6f)(ou:Fa K "_law_burst" A7s)(qx:Fa K "_law_finished" A2j)(jt:Fa K "_law_settled" A3e)(lq:Fa K "_law_nought" A6z)(qy:Fa K "_law_sum" C3s)(lv:Fa K "_law_called" A5a)(tf:Fa K "_law_is" D0p)(ow:Fa K "_law_right" B0t)(qz:Fa K "_law_refused" B0n)(oy:Fa K "_law_traps" B0m)(ju:Fa K "_law_product" A3h)(oz:Fa K "_law_fused" B0v)(o_:Fa K "_law_third" B1a)(q_:Fa K "_law_odd" C3p){G7h D5x:Option Addr}{G7w:Array (Option Value)}{G6y D5j D5k D4d C3h D4v:Value}(C5z:nsIn K mainGlobals "law"=some (some (.ref D6h)))(D4b:K.lookup D6h=some ⟨G6y,G7h,.func (fnOf "law" "law" (U6 B7d) (U2 B7d) (A6 B7d) .none D5j D5k D4d D5x C3h D4v),G7w⟩)(D6n:codeIn K C3h "law"=true)(D6c:keepIn K (.ref D6h)=true)(tj:G6k K)(T:Kit K)(sn:specialIn K (.builtin "object.__class__") "__get__"=some (some (.builtin "getset_descriptor.__get__")))(tk:takesIn K (.builtin "object.__class__")=some true)(J2n:nsIn K mainGlobals "Way"=some (some (.ref CW)))(G6r:nsIn K mainGlobals "Down"=some (some (.ref W0)))(D4n:Cls K W0)(D7u:makesIn K W0=true)(D5s:keepIn K (.ref W0)=true)(D6p:findIn K (.ref W0) "__class__"=some (some (.builtin "object.__class__")))(D5a:mroIn K W0 (.type "object")=some true)(D4c:findIn K (.ref W0) "__init__"=some (some (.builtin "object.__init__")))(D8e:kitOne K (.ref W0) (.ref CW)=some true)(lw:Fb K W0 "name" "Down.name" sN0)(G8d:nsIn K mainGlobals "Up"=some (some (.ref W1)))(D4m:Cls K W1)(D6u:makesIn K W1=true)(D6b:keepIn K (.ref W1)=true)(D8b:findIn K (.ref W1) "__class__"=some (some (.builtin "object.__class__")))(D5h:mroIn K W1 (.type "object")=some true)(D4s:findIn K (.ref W1) "__init__"=some (some (.builtin "object.__init__")))(D7q:kitOne K (.ref W1) (.ref CW)=some true)(ly:Fb K W1 "name" "Up.name" sN1)(G7c:nsIn K mainGlobals "Floor"=some (some (.ref W2)))(D5q:Cls K W2)(D8n:makesIn K W2=true)(D4a:keepIn K (.ref W2)=true)(D5r:findIn K (.ref W2) "__class__"=some (some (.builtin "object.__class__")))(D6s:mroIn K W2 (.type "object")=some true)(D4f:findIn K (.ref W2) "__init__"=some (some (.builtin "object.__init__")))(D7k:kitOne K (.ref W2) (.ref CW)=some true)(l_:Fb K W2 "name" "Floor.name" sN2)(G8b:nsIn K mainGlobals "Ceiling"=some (some (.ref W3)))(D4k:Cls K W3)(D6x:makesIn K W3=true)(D4j:keepIn K (.ref W3)=true)(D6f:findIn K (.ref W3) "__class__"=some (some (.builtin "object.__class__")))(D7h:mroIn K W3 (.type "object")=some true)(D8d:findIn K (.ref W3) "__init__"=some (some (.builtin "object.__init__")))(D7p:kitOne K (.ref W3) (.ref CW)=some true)(m7:Fb K W3 "name" "Ceiling.name" sN3)(G7j:nsIn K mainGlobals "HalfUp"=some (some (.ref W4)))(D7s:Cls K W4)(D7d:makesIn K W4=true)(D7e:keepIn K (.ref W4)=true)(D4z:findIn K (.ref W4) "__class__"=some (some (.builtin "object.__class__")))(D6z:mroIn K W4 (.type "object")=some true)(D6e:findIn K (.ref W4) "__init__"=some (some (.builtin "object.__init__")))(D5d:kitOne K (.ref W4) (.ref CW)=some true)(m8:Fb K W4 "name" "HalfUp.name" sN4)(G6x:nsIn K mainGlobals "HalfDown"=some (some (.ref W5)))(D5v:Cls K W5)(D7c:makesIn K W5=true)(D8k:keepIn K (.ref W5)=true)(D8m:findIn K (.ref W5) "__class__"=some (some (.builtin "object.__class__")))(D6q:mroIn K W5 (.type "object")=some true)(D6y:findIn K (.ref W5) "__init__"=some (some (.builtin "object.__init__")))(D8a:kitOne K (.ref W5) (.ref CW)=some true)(m9:Fb K W5 "name" "HalfDown.name" sN5)(G6t:nsIn K mainGlobals "HalfEven"=some (some (.ref W6)))(D5e:Cls K W6)(D6r:makesIn K W6=true)(D4t:keepIn K (.ref W6)=true)(D5u:findIn K (.ref W6) "__class__"=some (some (.builtin "object.__class__")))(D5t:mroIn K W6 (.type "object")=some true)(D5f:findIn K (.ref W6) "__init__"=some (some (.builtin "object.__init__")))(D7f:kitOne K (.ref W6) (.ref CW)=some true)(ma:Fb K W6 "name" "HalfEven.name" sN6)(G7r:nsIn K mainGlobals "FiveUp"=some (some (.ref W7)))(D5b:Cls K W7)(D7x:makesIn K W7=true)(D4h:keepIn K (.ref W7)=true)(D6w:findIn K (.ref W7) "__class__"=some (some (.builtin "object.__class__")))(D8j:mroIn K W7 (.type "object")=some true)(D5m:findIn K (.ref W7) "__init__"=some (some (.builtin "object.__init__")))(D3w:kitOne K (.ref W7) (.ref CW)=some true)(md:Fb K W7 "name" "FiveUp.name" sN7)(G6v:nsIn K mainGlobals "Number"=some (some (.ref CN)))(D4p:Cls K CN)(D6d:makesIn K CN=true)(D4y:keepIn K (.ref CN)=true)(D4r:findIn K (.ref CN) "__class__"=some (some (.builtin "object.__class__")))(D7z:mroIn K CN (.type "object")=some true)(A9j:findIn K (.ref CN) "kind"=some none)(A9e:findIn K (.ref CN) "sign"=some none)(A4c:findIn K (.ref CN) "figures"=some none)(A6u:findIn K (.ref CN) "power"=some none)(D4w:findIn K (.ref CN) "__init__"=some (some (.ref B5x)))(D3z:isFn K (.ref B5x)=true){G6s G8j:Option Addr}{G8g:Array (Option Value)}{G7k G7g G7v G7n D4u G7x:Value}(D6m:K.lookup B5x=some ⟨G7k,G6s,.func (fnOf "__init__" "Number.__init__" (U6 B4m) (U2 B4m) (A6 B4m) .none G7g G7v G7n G8j D4u G7x),G8g⟩)(D3x:codeIn K D4u "Number.__init__"=true)(D7w:keepIn K (.ref B5x)=true)(B7z:kitOne K (.ref CN) (.ref CN)=some true)(c8:Fb K W0 "goes_up" "Down.goes_up" sU0)(h_:Fb K W0 "to_end" "Down.to_end" sT0)(c9:Fb K W1 "goes_up" "Up.goes_up" sU1)(i0:Fb K W1 "to_end" "Up.to_end" sT1)(cb:Fb K W2 "goes_up" "Floor.goes_up" sU2)(i4:Fb K W2 "to_end" "Floor.to_end" sT2)(cf:Fb K W3 "goes_up" "Ceiling.goes_up" sU3)(i5:Fb K W3 "to_end" "Ceiling.to_end" sT3)(cg:Fb K W4 "goes_up" "HalfUp.goes_up" sU4)(i6:Fb K W4 "to_end" "HalfUp.to_end" sT4)(ci:Fb K W5 "goes_up" "HalfDown.goes_up" sU5)(i8:Fb K W5 "to_end" "HalfDown.to_end" sT5)(cj:Fb K W6 "goes_up" "HalfEven.goes_up" sU6)(i9:Fb K W6 "to_end" "HalfEven.to_end" sT6)(cm:Fb K W7 "goes_up" "FiveUp.goes_up" sU7)(ia:Fb K W7 "to_end" "FiveUp.to_end" sT7)(G7f:nsIn K mainGlobals "Context"=some (some (.ref CC)))(D8g:Cls K CC)(D4e:makesIn K CC=true)(D5c:keepIn K (.ref CC)=true)(A9g:findIn K (.ref CC) "room"=some none)(A9h:findIn K (.ref CC) "rule"=some none)(A6s:findIn K (.ref CC) "least"=some none)(A9f:findIn K (.ref CC) "most"=some none)(A6t:findIn K (.ref CC) "risen"=some none)(A4b:findIn K (.ref CC) "trapped"=some none)(D5n:findIn K (.ref CC) "__init__"=some (some (.ref B5v)))(D5g:isFn K (.ref B5v)=true){G7s D7m:Option Addr}{G7z:Array (Option Value)}{G8h D7b D6v D6a C3m D7t:Value}(D6g:K.lookup B5v=some ⟨G8h,G7s,.func (fnOf "__init__" "Context.__init__" (U6 A1f) (U2 A1f) (A6 A1f) (.ref D7a) D7b D6v D6a D7m C3m D7t),G7z⟩)(D4q:codeIn K C3m "Context.__init__"=true)(D7r:keepIn K (.ref B5v)=true){J2q J1u J1y:Tok}{J2k:Nat}{G7m:Option Addr}{G7u:Value}{G6w:Array (Option Value)}(D8h:K.lookup D7a=some ⟨G7u,G7m,.seq #[.int 9 J2q,.str "half even" J1u,.none,.int 60 J1y] J2k,G6w⟩)(jv:Fb K CC "flags" "Context.flags" A8j)(ib:Fb K CC "lowest" "Context.lowest" B5y)(p7:Fb K CC "way" "Context.way" B6x)(ie:Fb K CC "raised" "Context.raised" A6n)(jw:Fb K CC "clear" "Context.clear" A8e)(G6u:nsIn K mainGlobals "Ratio"=some (some (.ref CQ)))(D5w:Cls K CQ)(D7j:makesIn K CQ=true)(D8f:keepIn K (.ref CQ)=true)(D7g:findIn K (.ref CQ) "__class__"=some (some (.builtin "object.__class__")))(D4x:mroIn K CQ (.type "object")=some true)(B3w:findIn K (.ref CQ) "top"=some none)(A5e:findIn K (.ref CQ) "bottom"=some none)(A6r:findIn K (.ref CQ) "power"=some none)(D7v:findIn K (.ref CQ) "__init__"=some (some (.ref B5w)))(D7n:isFn K (.ref B5w)=true){G7d D8c:Option Addr}{G8c:Array (Option Value)}{G7e D7y D4g D5z C3n D6k:Value}(D8p:K.lookup B5w=some ⟨G7e,G7d,.func (fnOf "__init__" "Ratio.__init__" (U6 A3w) (U2 A3w) (A6 A3w) (.ref D3y) D7y D4g D5z D8c C3n D6k),G8c⟩)(D5y:codeIn K C3n "Ratio.__init__"=true)(D6t:keepIn K (.ref B5w)=true){G3j:Tok}{J2w:Nat}{G7q:Option Addr}{G8a:Value}{G7p:Array (Option Value)}(C0r:K.lookup D3y=some ⟨G8a,G7q,.seq #[.int 0 G3j] J2w,G7p⟩)(jx:Fb K CQ "first" "Ratio.first" B2c)(qk:Fb K CQ "at" "Ratio.at" D2r)(G7y:nsIn K mainGlobals "Exact"=some (some (.ref CE)))(D5p:kitOne K (.ref CQ) (.ref CE)=some true)(G2m:nsIn K mainGlobals "BadContext"=some (some (.ref C1)))(G2r:nsIn K mainGlobals "BadNumber"=some (some (.ref C2)))(G2k:nsIn K mainGlobals "NoText"=some (some (.ref C3)))(G2p:nsIn K mainGlobals "BadCount"=some (some (.ref C4)))(D6j:nsIn K mainGlobals "Trapped"=some (some (.ref C5)))(G2n:nsIn K mainGlobals "ReckonError"=some (some (.ref CR)))(cty:typeIn K (.ref CR)=some (.type "type")){dR:ClassData}(ccl:clsIn K CR=some dR)(cex:subIn K (.ref CR) (.type "BaseException")=some true)(sub5:subIn K (.ref C5) (.ref CR)=some true)(xga5:findIn K (.ref C5) "__getattribute__"=some (some (.builtin "BaseException.__getattribute__")))(xgh5:findIn K (.ref C5) "__getattr__"=some none)(xca5:findIn K (.ref C5) "__class__"=some (some (.builtin "object.__class__")))(xob5:mroIn K C5 (.type "object")=some true)(xbe5:subIn K (.ref C5) (.type "BaseException")=some true){d5:ClassData}(xcl5:clsIn K C5=some d5)(J2t:kitOne K (.ref C5) (.ref C1)=some false)(J2b:kitOne K (.ref C5) (.ref C2)=some false)(J2j:kitOne K (.ref C5) (.ref C3)=some false)(J2a:kitOne K (.ref C5) (.ref C4)=some false)(J2r:kitOne K (.ref C5) (.ref C5)=some true)(hv5:kitOne K (.ref C5) (.type "ValueError")=some true){nmT qT:Str}{NT:Addr}{bsT bmT:List Value}{snT:List Str}{suT:List Value}{abT:Bool}{coT:Option Bool}{ddT:Option Addr}{kT0 kT1 kT2 kT3 kT5:Option Value}(lT:K.lookup C5=some (excClassObj nmT qT C5 NT bsT bmT true snT suT abT coT ddT kT0 kT1 kT2 kT3 kT5 "ValueError.__new__")){ocN:Value}{odN:Option Addr}{esN:Array DictEntry}{epN:Nat}{slN:Array (Option Value)}(lN:K.lookup NT=some ⟨ocN,odN,.dict esN epN,slN⟩)(alN:(esN.all fun e=>match e.key with| .str _ _=>true|_=>false)=true)(niT:nsIn K NT "__init__"=some (some (.ref fX))){nmU qU:Str}{NU:Addr}{bsU:List Value}{snU:List Str}{suU:List Value}{abU:Bool}{coU:Option Bool}{ddU:Option Addr}{kU0 kU1 kU2 kU3 kU5:Option Value}(lT1:K.lookup C1=some (excClassObj nmU qU C1 NU bsU bmT true snU suU abU coU ddU kU0 kU1 kU2 kU3 kU5 "ValueError.__new__"))(saT:findIn K (.ref C5) "__setattr__"=some (some (.builtin "object.__setattr__")))(nsg5:findIn K (.ref C5) "signal"=some none){J1r J2v:Option Addr}{J1v:Array (Option Value)}{G3h J2f J1w J1x G3g J2p:Value}(G2q:K.lookup fX=some ⟨G3h,J1r,.func (fnOf "__init__" "Trapped.__init__" (U6 A5s) (U2 A5s) (A6 A5s) .none J2f J1w J1x J2v G3g J2p),J1v⟩)(G6q:codeIn K G3g "Trapped.__init__"=true)(G7a:keepIn K (.ref fX)=true)(fcT:G3h= .type "function")(kTR:kitOne K (.ref C5) (.ref CR)=some true)(q1:excIn K C1 [.type "ValueError",.type "Exception",.type "BaseException",.type "object"] "ValueError.__new__"=true)(q2:excIn K C2 [.type "ValueError",.type "Exception",.type "BaseException",.type "object"] "ValueError.__new__"=true)(q3:excIn K C3 [.type "ValueError",.type "Exception",.type "BaseException",.type "object"] "ValueError.__new__"=true)(q4:excIn K C4 [.type "ValueError",.type "Exception",.type "BaseException",.type "object"] "ValueError.__new__"=true)(a_S:nsIn K mainGlobals "SIGNALS"=some (some (.ref aS))){u0 u1 u2 u3 u4 u5 u6:Tok}{nS:Nat}{odS:Option Addr}{slS:Array (Option Value)}(lS:K.lookup aS=some ⟨.type "tuple",odS,.seq #[.str "void" u0,.str "split" u1,.str "burst" u2,.str "sunk" u3,.str "faint" u4,.str "off" u5,.str "cut" u6] nS,slS⟩)(mh:Fb K CC "trap" "Context.trap" B1t)(A5f:kitOne K (.type "NoneType") (.ref CN)=some false)(C3k:kitOne K (.type "int") (.ref CN)=some false)(C3j:kitOne K (.type "str") (.ref CN)=some false)(B8b:kitOne K (.type "bool") (.ref CN)=some false)(B3v:kitOne K (.type "tuple") (.ref CN)=some false)(B7y:kitOne K (.type "list") (.ref CN)=some false)(B8a:kitOne K (.type "dict") (.ref CN)=some false)(sub2:subIn K (.ref C2) (.ref CR)=some true)(xga2:findIn K (.ref C2) "__getattribute__"=some (some (.builtin "BaseException.__getattribute__")))(xgh2:findIn K (.ref C2) "__getattr__"=some none)(xca2:findIn K (.ref C2) "__class__"=some (some (.builtin "object.__class__")))(xob2:mroIn K C2 (.type "object")=some true)(xbe2:subIn K (.ref C2) (.type "BaseException")=some true){d2:ClassData}(xcl2:clsIn K C2=some d2)(G7t:kitOne K (.ref C2) (.ref C1)=some false)(G8f:kitOne K (.ref C2) (.ref C2)=some true)(G8e:kitOne K (.ref C2) (.ref C3)=some false)(G6z:kitOne K (.ref C2) (.ref C4)=some false)(G7b:kitOne K (.ref C2) (.ref C5)=some false)(hv2:kitOne K (.ref C2) (.type "ValueError")=some true)(tyT:typeIn K (.ref C5)=some (.type "type"))(subT:subIn K (.ref C5) (.ref C5)=some true):∃fd:FuncData,(∀(s:Shared) (v:Value),BindsTo s fd ⟨[v],[]⟩ [("_law_script",v)])/\∀base:Heap,K.In base ->base.Ns mainGlobals mg ->base.NoDigits ->G6 l.prog w K mg base (CX1 l.prog w) 11 fa fd ["_law_script"] (C3u K):=by
 have e:=hfa.symm.trans (mg_of X G C5z)
 cases e
 obtain⟨r_,_,al⟩:=g_.go2 X G
 obtain⟨xj,_,aa⟩:=pi.go1 X G
 obtain⟨vf,_,cn⟩:=o8.go2 X G
 obtain⟨xk,_,jd⟩:=pj.go1 X G
 obtain⟨xl,_,je⟩:=pk.go3 X G
 obtain⟨ym,_,c7⟩:=t8.go1 X G
 obtain⟨uj,_,af⟩:=kz.go0 X G
 obtain⟨yb,_,mi⟩:=qp.go1 X G
 obtain⟨yc,_,mj⟩:=qr.go1 X G
 obtain⟨xm,_,aw⟩:=pq.go1 X G
 obtain⟨tt,_,ap⟩:=jp.go1 X G
 obtain⟨xn,_,ah⟩:=pr.go2 X G
 obtain⟨vg,_,cp⟩:=o9.go2 X G
 obtain⟨uk,_,b6⟩:=k_.go2 X G
 obtain⟨yn,_,jy⟩:=t9.go3 X G
 obtain⟨ul,_,b7⟩:=l7.go3 X G
 obtain⟨um,_,b8⟩:=l9.go4 X G
 obtain⟨vh,_,cq⟩:=og.go2 X G
 obtain⟨uo,_,b9⟩:=la.go4 X G
 obtain⟨sf,_,am⟩:=h6.go3 X G
 obtain⟨vi,_,cu⟩:=oh.go4 X G
 obtain⟨vj,_,cx⟩:=oj.go2 X G
 obtain⟨xo,_,jf⟩:=pz.go2 X G
 obtain⟨xp,_,jg⟩:=p_.go2 X G
 obtain⟨uq,_,bc⟩:=lb.go2 X G
 obtain⟨ur,_,bd⟩:=le.go3 X G
 obtain⟨vk,_,cy⟩:=om.go3 X G
 obtain⟨yd,_,cz⟩:=qt.go1 X G
 obtain⟨xq,_,jh⟩:=qa.go4 X G
 obtain⟨tz,_,aq⟩:=jq.go1 X G
 obtain⟨vn,_,c_⟩:=on.go2 X G
 obtain⟨ut,_,bh⟩:=lh.go2 X G
 obtain⟨xr,_,ji⟩:=qb.go3 X G
 obtain⟨t_,_,ar⟩:=jr.go3 X G
 obtain⟨xt,_,jj⟩:=qc.go3 X G
 obtain⟨xv,_,ay⟩:=qd.go1 X G
 obtain⟨uu,_,bi⟩:=li.go3 X G
 obtain⟨xw,_,az⟩:=qe.go1 X G
 obtain⟨xx,_,a_⟩:=qf.go1 X G
 obtain⟨ye,_,ml⟩:=qu.go2 X G
 obtain⟨xy,_,ac⟩:=qg.go2 X G
 obtain⟨yf,_,ae⟩:=qv.go1 X G
 obtain⟨vo,_,d3⟩:=oq.go1 X G
 obtain⟨yg,_,mn⟩:=qw.go1 X G
 obtain⟨xz,_,jk⟩:=qh.go1 X G
 obtain⟨vp,_,d4⟩:=ot.go1 X G
 obtain⟨uw,_,ag⟩:=lj.go3 X G
 obtain⟨x_,_,jm⟩:=qi.go2 X G
 obtain⟨ya,_,jn⟩:=qj.go4 X G
 obtain⟨vq,_,d9⟩:=ou.go2 X G
 obtain⟨yh,_,mo⟩:=qx.go7 X G
 obtain⟨u7,_,au⟩:=jt.go5 X G
 obtain⟨ux,_,br⟩:=lq.go3 X G
 obtain⟨yi,_,mq⟩:=qy.go3 X G
 obtain⟨uy,_,aj⟩:=lv.go3 X G
 obtain⟨yo,_,jz⟩:=tf.go2 X G
 obtain⟨vt,_,db⟩:=ow.go6 X G
 obtain⟨yj,_,mr⟩:=qz.go3 X G
 obtain⟨vw,_,df⟩:=oy.go1 X G
 obtain⟨u8,_,ai⟩:=ju.go2 X G
 obtain⟨vx,_,dg⟩:=oz.go4 X G
 obtain⟨vz,_,dh⟩:=o_.go2 X G
 obtain⟨yk,_,mt⟩:=q_.go1 X G
 have J2g:=A3z (ps:=["_law_script"]) (st:=B7d) X G C5z D4b D6n D6c fun _ _ _ _ _ _ us hl=>match us,hl with| [_],_=>rfl
 have O:Own mg:=tj.go X G
 have J2c:Mk0 K W0:=⟨D7u,D4c,D5s⟩
 obtain⟨uz,_,mv,mw,j_⟩:=lw.go1
 have WC0:B0c K mg "Down" W0 CW:=⟨mg_of X G G6r,D4n,J2c,D6p,sn,tk,D5a,D8e⟩
 have J2h:Mk0 K W1:=⟨D6u,D4s,D6b⟩
 obtain⟨u_,_,mx,my,k7⟩:=ly.go1
 have WC1:B0c K mg "Up" W1 CW:=⟨mg_of X G G8d,D4m,J2h,D8b,sn,tk,D5h,D7q⟩
 have J1q:Mk0 K W2:=⟨D8n,D4f,D4a⟩
 obtain⟨v7,_,mz,m_,k8⟩:=l_.go1
 have WC2:B0c K mg "Floor" W2 CW:=⟨mg_of X G G7c,D5q,J1q,D5r,sn,tk,D6s,D7k⟩
 have J2d:Mk0 K W3:=⟨D6x,D8d,D4j⟩
 obtain⟨v9,_,n8,n9,k9⟩:=m7.go1
 have WC3:B0c K mg "Ceiling" W3 CW:=⟨mg_of X G G8b,D4k,J2d,D6f,sn,tk,D7h,D7p⟩
 have J2s:Mk0 K W4:=⟨D7d,D6e,D7e⟩
 obtain⟨va,_,ng,nh,ka⟩:=m8.go1
 have WC4:B0c K mg "HalfUp" W4 CW:=⟨mg_of X G G7j,D7s,J2s,D4z,sn,tk,D6z,D5d⟩
 have J2u:Mk0 K W5:=⟨D7c,D6y,D8k⟩
 obtain⟨vb,_,ni,nj,kc⟩:=m9.go1
 have WC5:B0c K mg "HalfDown" W5 CW:=⟨mg_of X G G6x,D5v,J2u,D8m,sn,tk,D6q,D8a⟩
 have J2m:Mk0 K W6:=⟨D6r,D5f,D4t⟩
 obtain⟨vc,_,nr,ny,ke⟩:=ma.go1
 have WC6:B0c K mg "HalfEven" W6 CW:=⟨mg_of X G G6t,D5e,J2m,D5u,sn,tk,D5t,D7f⟩
 have J1s:Mk0 K W7:=⟨D7x,D5m,D4h⟩
 obtain⟨vd,_,n_,o0,kg⟩:=md.go1
 have WC7:B0c K mg "FiveUp" W7 CW:=⟨mg_of X G G7r,D5b,J1s,D6w,sn,tk,D8j,D3w⟩
 let cw:Wy ->Addr:=fun y=>match y with| .down=>W0| .up=>W1| .floor=>W2| .ceiling=>W3| .halfUp=>W4| .halfDown=>W5| .halfEven=>W6| .fiveUp=>W7
 have W:∀y:Wy,B0c K mg y.cls (cw y) CW:=fun y=>match y with| .down=>WC0| .up=>WC1| .floor=>WC2| .ceiling=>WC3| .halfUp=>WC4| .halfDown=>WC5| .halfEven=>WC6| .fiveUp=>WC7
 have ph:=A2y (st:=B4m) D6m D3x D7w
 have J1t:=ph.binds (ps:=["self","kind","sign","figures","power"]) fun _ _ _ _ _ _ us hl=>match us,hl with| [_,_,_,_,_],_=>rfl
 have J5e:Mk K CN B5x:=⟨D6d,D4w,D3z,D4y⟩
 have N:Num K mg CN:=⟨mg_of X G G6v,D4p,A9j,A9e,A4c,A6u,D4r,sn,tk,D7z,B7z⟩
 obtain⟨r9,_,dj,dk,bt⟩:=c8.go4
 obtain⟨sh,_,ig,ii,dm⟩:=h_.go2
 obtain⟨rb,_,dv,dw,bw⟩:=c9.go4
 obtain⟨sj,_,ij,io,d_⟩:=i0.go2
 obtain⟨rc,_,eh,e_,bx⟩:=cb.go4
 obtain⟨sk,_,ip,iq,g8⟩:=i4.go2
 obtain⟨re,_,g9,gc,bz⟩:=cf.go4
 obtain⟨ss,_,ir,iu,gd⟩:=i5.go2
 obtain⟨rf,_,gi,gj,b_⟩:=cg.go4
 obtain⟨sv,_,iw,iy,gk⟩:=i6.go2
 obtain⟨rg,_,gl,gm,c4⟩:=ci.go4
 obtain⟨sw,_,iz,i_,gn⟩:=i8.go2
 obtain⟨rh,_,gq,gr,c5⟩:=cj.go4
 obtain⟨sx,_,j0,j3,gt⟩:=i9.go2
 obtain⟨rj,_,gu,gv,c6⟩:=cm.go4
 obtain⟨sy,_,j4,j5,gw⟩:=ia.go2
 have J2e:=C4v (st:=A1f) D6g D4q D7r
 have J5c:Mk K CC B5v:=⟨D4e,D5n,D5g,D5c⟩
 obtain⟨u9,_,kh,ki,j6⟩:=jv.go1
 obtain⟨s_,_,j7,j8,gx⟩:=ib.go1
 obtain⟨v_,_,p8,p9,o4⟩:=p7.go1
 obtain⟨t7,_,j9,ja,gy⟩:=ie.go2
 obtain⟨ua,_,kj,km,jb⟩:=jw.go1
 have J1z:=C4v (st:=A3w) D8p D5y D6t
 have J5f:Mk K CQ B5w:=⟨D7j,D7v,D7n,D8f⟩
 obtain⟨ko,_,kq,ku,jc⟩:=jx.go1
 obtain⟨ql,_,qm,jo,gz⟩:=qk.go2
 have xk5:B7x K C5:=⟨xga5,xgh5,xca5,sn,tk,xob5,xbe5,by rw[xcl5];rfl⟩
 have nkT:nsOkIn K NT=true:=by unfold nsOkIn;rw[lN];exact alN
 have tlT:tailIn K C5u bmT=true:=by
   have z:=q1
   unfold excIn at z
   rw[lT1] at z
   simp only[excClassObj,Bool.and_eq_true] at z
   exact z.1.1.2
 have rk:=A2y (st:=A5s) G2q G6q G7a
 have J5d:=rk.binds (ps:=["self","signal"]) fun _ _ _ _ _ _ us hl=>match us,hl with| [_,_],_=>rfl
 have XI5:C3d K C5 fX:=⟨⟨_,_,_,_,_,_,_,_,_,_,_,_,_,_,_,lT,nkT,niT,tlT⟩,⟨_,G2q,fcT⟩,saT,xob5⟩
 have SG:C8x K mg aS:=⟨mg_of X G a_S,⟨_,lS,rfl⟩,fun H=> .inr ⟨_,_,_,lS,rfl,rfl,C9 (by show 7<=1000;decide),.cons ⟨_,rfl⟩ (.cons ⟨_,rfl⟩ (.cons ⟨_,rfl⟩ (.cons ⟨_,rfl⟩ (.cons ⟨_,rfl⟩ (.cons ⟨_,rfl⟩ (.cons ⟨_,rfl⟩ (.nil)))))))⟩⟩
 obtain⟨ve,_,o5,o6,ky⟩:=mh.go2
 have O4:G6m K CN:=⟨A5f,C3k,C3j,B8b,B3v,B7y,B8a,T.list_tuple⟩
 have xk2:B7x K C2:=⟨xga2,xgh2,xca2,sn,tk,xob2,xbe2,by rw[xcl2];rfl⟩
 have C:B3r K mg CC:=⟨mg_of X G G7f,D8g,A9g,A9h,A6s,A9f,A6t,A4b⟩
 have B1:Err K mg "BadContext" C1:=⟨mg_of X G G2m,q1⟩
 have B2:Err K mg "BadNumber" C2:=⟨mg_of X G G2r,q2⟩
 have B3:Err K mg "NoText" C3:=⟨mg_of X G G2k,q3⟩
 have B4:Err K mg "BadCount" C4:=⟨mg_of X G G2p,q4⟩
 have R:C3e K mg CQ CE:=⟨mg_of X G G6u,mg_of X G G7y,D5w,B3w,A5e,A6r,D7g,sn,tk,D4x,D5p⟩
 have b4:=C1f (fd:=fnOf "__init__" "Context.__init__" (U6 A1f) (U2 A1f) (A6 A1f) (.ref D7a) D7b D6v D6a D7m C3m D7t) (ps:=["self","room","way","least","most"]) (ds:=[]) rfl D8h rfl fun us hl=>by obtain⟨a,b,c,d,e,rfl⟩:=J3z (D9f hl);exact⟨_,rfl,rfl⟩
 refine⟨fnOf "law" "law" (U6 B7d) (U2 B7d) (A6 B7d) .none D5j D5k D4d D5x C3h D4v,fun s v=> .of_eq rfl,fun base _ _ DG=>?_⟩
 have WN:∀y:Wy,G4y l.prog w K mg base (cw y) y.name:=fun y=>match y with| .down=>⟨_,_,j_,G8n mv,mw⟩| .up=>⟨_,_,k7,J0t mx,my⟩| .floor=>⟨_,_,k8,J1e mz,m_⟩| .ceiling=>⟨_,_,k9,G9g n8,n9⟩| .halfUp=>⟨_,_,ka,G9p ng,nh⟩| .halfDown=>⟨_,_,kc,G8t ni,nj⟩| .halfEven=>⟨_,_,ke,J0r nr,ny⟩| .fiveUp=>⟨_,_,kg,J0d n_,o0⟩
 have U:∀y:Wy,J0v l.prog w K mg base (cw y) y:=fun y=>match y with| .down=>⟨_,_,bt,J1f dj,dk⟩| .up=>⟨_,_,bw,G9h dv,dw⟩| .floor=>⟨_,_,bx,J0b eh,e_⟩| .ceiling=>⟨_,_,bz,G9a g9,gc⟩| .halfUp=>⟨_,_,b_,J0z gi,gj⟩| .halfDown=>⟨_,_,c4,J0p gl,gm⟩| .halfEven=>⟨_,_,c5,G9d gq,gr⟩| .fiveUp=>⟨_,_,c6,G8s gu,gv⟩
 have E2:∀y:Wy,G9s l.prog w K mg base (cw y) y:=fun y=>match y with| .down=>⟨_,_,dm,G8k ig,ii⟩| .up=>⟨_,_,d_,J0h ij,io⟩| .floor=>⟨_,_,g8,J0f ip,iq⟩| .ceiling=>⟨_,_,gd,J0n ir,iu⟩| .halfUp=>⟨_,_,gk,J0e iw,iy⟩| .halfDown=>⟨_,_,gn,G9f iz,i_⟩| .halfEven=>⟨_,_,gt,J0g j0,j3⟩| .fiveUp=>⟨_,_,gw,J1c j4,j5⟩
 have Gb:=C2f (P:=l.prog) (w:=w) (base:=base) bi jy O T B1
 have Gw:=D2c (P:=l.prog) (w:=w) (base:=base) ay O T B1 W
 have MC:J1p l.prog w K mg base CC C1 B5v _:=⟨J5c,C2r J2e bi ay Gb Gw C W WN⟩
 have MR : G3e l.prog w K mg base CQ B5w (fnOf "__init__" "Ratio.__init__" (U6 A3w) (U2 A3w) (A6 A3w) (.ref D3y) D7y D4g D5z D8c C3n D6k) (.int 0 G3j) (fun us ws=>match ws with| [a]=>us++ [a]|_=>[]) (fun us ws=>match ws with| [a]=>us++ [a]|_=>[]):=
   { m :=J5f
     g:=D3p J1z R
     b3:=C1f rfl C0r rfl fun us hl=>by obtain⟨a,b,c,d,rfl⟩:=G8p (D9f hl);exact⟨_,rfl,rfl⟩
     b2:=C1f rfl C0r rfl fun us hl=>by obtain⟨a,b,c,rfl⟩:=G3q (D9f hl);exact⟨_,rfl,rfl⟩
     r0:=⟨_,rfl⟩
     kP := ⟨(fun s us ws XK hl=>by
         rcases ws with _|⟨p,_|⟨q,t⟩⟩
         . cases hl
         . obtain⟨a,b,c,rfl⟩:=G3q (D9f hl)
           exact binds_K XK rfl C0r rfl rfl rfl
         . cases hl),fun r z=>match z with
       | .cons a .nil=>r.append (.cons a .nil)
       | .nil=> .nil
       | .cons _ (.cons _ _)=> .nil⟩
     eP:=fun _ _ _ _=>rfl}
 have M:A8a l.prog w K mg base CN B5x _:=⟨J5e,D8s ph N,J1t⟩
 have Gn:=D3b (P:=l.prog) (w:=w) (base:=base) az O T B1 SG
 have Go:=C9v (P:=l.prog) (w:=w) (base:=base) a_ SG
 have GX:=C8u (P:=l.prog) (w:=w) (mg:=mg) (base:=base) rk XI5 nsg5
 have MF:A8d l.prog w K mg base CC "flags" 1 ["self"] (A3v CC):=⟨_,_,j6,B9w kh C O,ki⟩
 have ML:A8d l.prog w K mg base CC "lowest" 1 ["self"] (B2x CC):=⟨_,_,gx,C7q j7 C,j8⟩
 have MW:A8d l.prog w K mg base CC "way" 2 ["self"] (B2a CC cw):=⟨_,_,o4,C6u p8 ay Gw C,p9⟩
 have ME:Has l.prog w K mg base CC "clear" 1 ["self"] (A6m CC):=⟨_,_,jb,B9g kj C,km⟩
 have MD:A8d l.prog w K mg base CC "raised" 3 ["self","names"] (B1m K CC C1 C5):=⟨_,_,gy,C7k j9 az Gn a_ Go C (mg_of X G D6j) XI5 GX J5d,ja⟩
 have CM:A9b l.prog w K mg base CC C1 C5 CW cw:=⟨C,MW,ML,MD,W,U,E2⟩
 have rm:=B8z (P:=l.prog) (w:=w) (base:=base) aw O T B2 N
 have ub:=G1b (P:=l.prog) (w:=w) (base:=base) mi aw O T B2 N
 have rn:=D2y (P:=l.prog) (w:=w) (base:=base) je b7 jy O T B2 N M
 have pc:=G4k (P:=l.prog) (w:=w) (base:=base) c7 b7 jy O T B2 N M
 have ao:=C0x (P:=l.prog) (w:=w) (base:=base) af N M
 have uc:=G1c (P:=l.prog) (w:=w) (base:=base) mj O N
 have Gto:=C9c (P:=l.prog) (w:=w) (base:=base) aa al (B7e al)
 have ue:=C7t (P:=l.prog) (w:=w) (base:=base) cn
 have Gwl:=C9x (P:=l.prog) (w:=w) (base:=base) jd aa Gto
 have Gat:=G3r (P:=l.prog) (w:=w) (base:=base) qm aa Gto cn ue R O
 have RM:G6p l.prog w K mg base CQ ko ql _ _:=⟨jc,C6m kq jd Gwl gz Gat jo R,ku,gz,Gat,jo⟩
 have w4:=C2h (P:=l.prog) (w:=w) (base:=base) b9 N M
 have w6:=B6s (P:=l.prog) (w:=w) (base:=base) am CM
 have w8:=C8b (P:=l.prog) (w:=w) (base:=base) cu aa Gto CM N M
 have w9:=C8j (P:=l.prog) (w:=w) (base:=base) cx mj uc CM N
 have wa:=D1v (P:=l.prog) (w:=w) (base:=base) jg aa Gto CM N M
 have wd:=C9k (P:=l.prog) (w:=w) (base:=base) jf jg wa c7 pc CM
 have Gsr:=C2k (P:=l.prog) (w:=w) (base:=base) bc
 have Gsl:=C2a (P:=l.prog) (w:=w) (base:=base) bd CM
 have we:=C6e (P:=l.prog) (w:=w) (base:=base) cy CM N M O
 have wg:=C6n (P:=l.prog) (w:=w) (base:=base) cq CM RM R O
 have wj:=C2n (P:=l.prog) (w:=w) (base:=base) b8 cq wg b9 w4 am w6 cu w8 cx w9 jf wd bc Gsr bd Gsl CM RM R N
 have RT:C5x K mg C5 CR:=⟨mg_of X G D6j,mg_of X G G2n,⟨tyT,by unfold clsIn;rw[lT];rfl,xbe5⟩,subT,xk5,⟨_,by unfold clsIn;rw[lT],rfl⟩,nsg5,kTR,hv5⟩
 have ES:G3d mg C2 C3 C1 C4 C5:=⟨mg_of X G G2r,mg_of X G G2k,mg_of X G G2m,mg_of X G G2p,mg_of X G D6j⟩
 have RB:C5y K mg CR C2 C3 C1 C4 C5:=⟨mg_of X G G2n,⟨cty,by rw[ccl];rfl,cex⟩,sub2,⟨xk2,G8f,G8e,G7t,G6z,G7b,hv2⟩⟩
 have MP:A8d l.prog w K mg base CC "trap" 2 ["self","names"] (B7v K CC C1):=⟨_,_,ky,G1q o5 az Gn a_ Go C,o6⟩
 have qo:=C8c (P:=l.prog) (w:=w) (base:=base) ap aw rm
 have av:=D2h (P:=l.prog) (w:=w) (base:=base) ah O N
 have Gwa:=C2v (P:=l.prog) (w:=w) (base:=base) b6 aa Gto N
 have Gun:=C6w (P:=l.prog) (w:=w) (base:=base) cp N
 have Gvo:=G0a (P:=l.prog) (w:=w) (base:=base) cz af ao CM
 have Gea:=B8c (P:=l.prog) (w:=w) (base:=base) ar cz Gvo N
 have wk:=C9f (P:=l.prog) (w:=w) (base:=base) jj CM WN N
 have wl:=D0w (P:=l.prog) (w:=w) (base:=base) ji ah av ar Gea b6 Gwa cy we jj wk b8 wj CM N MR R O
 have Gin:=B8u (P:=l.prog) (w:=w) (base:=base) aq N
 have wm:=C8a (P:=l.prog) (w:=w) (base:=base) c_ ah av aq Gin
 have wn:=D9u (P:=l.prog) (w:=w) (base:=base) bh ah av cp Gun c7 pc N M
 have wo:=D1s (P:=l.prog) (w:=w) (base:=base) jh ap qo ah av af ao ji wl c_ wm bh wn cz Gvo
 have ug:=G0s (P:=l.prog) (w:=w) (base:=base) ml O
 have pd:=D2f (P:=l.prog) (w:=w) (base:=base) ac
 have uh:=C7c (P:=l.prog) (w:=w) (base:=base) ac
 have ak:=D9j (P:=l.prog) (w:=w) (base:=base) ae O DG
 have wp:=C1q (P:=l.prog) (w:=w) (base:=base) d3 O T
 have ui:=C0u (P:=l.prog) (w:=w) (base:=base) mn ac pd ae ak O
 have wq:=D1h (P:=l.prog) (w:=w) (base:=base) jk je rn.fn c7 pc.fn af ao.fn
 have wu:=C7z (P:=l.prog) (w:=w) (base:=base) d4 ac pd
 have pf:=C2w (P:=l.prog) (w:=w) (base:=base) ag ae ak
 have wv:=D2x (P:=l.prog) (w:=w) (base:=base) jm ag pf O DG
 have ww:=D2d (P:=l.prog) (w:=w) (base:=base) jn
 have wy:=C8k (P:=l.prog) (w:=w) (base:=base) d9 ae ak
 have wz:=C2b (P:=l.prog) (w:=w) (base:=base) br O
 have w_:=B7q (P:=l.prog) (w:=w) (base:=base) mo ae ak jn ww d9 wy O
 have x0:=C0m (P:=l.prog) (w:=w) (base:=base) au jm wv ag pf mo w_ O
 have rp:=G5v (P:=l.prog) (w:=w) (base:=base) jz mi ub d3 wp O T
 have xa:=C8p (P:=l.prog) (w:=w) (base:=base) df ac uh SG O
 have rq:=C2d (P:=l.prog) (w:=w) (base:=base) aj jh wo
 have xb:=C6z (P:=l.prog) (w:=w) (base:=base) db aj rq jz rp RT SG C MF.has MP O T
 have xc:=G1w (P:=l.prog) (w:=w) (base:=base) mt
 have xf:=C6g (P:=l.prog) (w:=w) (base:=base) mr aj rq.fn RB ES O
 have xg:=D9m (P:=l.prog) (w:=w) (base:=base) mq ae ak br wz ag pf au x0 O
 have rz:=C0h (P:=l.prog) (w:=w) (base:=base) ai O
 have xh:=C8r (P:=l.prog) (w:=w) (base:=base) dg ai rz mq xg
 have xi:=C8h (P:=l.prog) (w:=w) (base:=base) dh ai rz ae ak
 exact G5u (CB':=C1) (CT:=C5) (CE':=C1) J2g ml ug ac pd d4 wu df xa jk wq db xb mr xf jz rp.fn mn (ui.mono (by decide)) dh xi dg xh mt xc MC.m MC.g.fn b4 C MF.has MP.has ME SG O4 O
theorem walk{l:OpenLaw}{q:Program}{loose:List Str}{XP:(Str ->Option Value) ->Heap ->Prop}{YP:World ->Heap ->Prop}{d:DefRec}{K:Params ->Frag}(hn:l.most=some 63)(hdf:d.params.defaults=[])
   (hY:∀(w:World) (h:Heap),YP w h ->(K w.params).In h)
   (F:∀(w:World) (mg:Str ->Option Value) (fa:Addr) (h:Heap),(K w.params).In h ->h.Ns mainGlobals mg ->mg d.name=some (.ref fa) ->
     ∃fd:FuncData,(∀(s:Shared) (u:Value),BindsTo s fd ⟨[u],[]⟩ [("_law_script",u)])/\∀base:Heap,(K w.params).In base ->base.Ns mainGlobals mg ->base.NoDigits ->G6 l.prog w (K w.params) mg base (CX1 l.prog w) 11 fa fd ["_law_script"] ((C3u (K w.params)))):
   WalkO q loose XP YP l.row.toRowW d [] (fun f vs=>PySem.call f vs):=
 L2.walk_ofD (n:=63) (k:=11) (x:="_law_script") (CX:=fun w=>CX1 l.prog w) (sp:=fun w=>(C3u (K w.params))) hn (by decide) hdf ⟨rfl,by decide,by decide⟩ hY F (fun _ _ a ns hl _ hS=>⟨a,ns,rfl,hl,hS,fun _=>rfl⟩) fun _ _ _ _ _ z=>by
   obtain⟨_,_,_,_,_,_,_,_,_,_,z,_⟩:=z
   exact z
end TR
namespace PySem.W.Fast
abbrev ZZ:=True
theorem zz:ZZ:=trivial
def tw16985511919369522540:=zz
def tw11199390908439466935:=zz
def tw5494810608972598629:=zz
def tw11413588314803053942:=zz
def tw8424105205615703169:=zz
def tw6648285889101716304:=zz
def tw6474953664976222374:=zz
def tw1651802453905840572:=zz
def tw9683427221670845069:=zz
def tw14973314085322136328:=zz
def tw1934860853965669253:=zz
def tw3923076571163227264:=zz
def tw4770079675824886890:=zz
def tw12836924261742666839:=zz
def tw4862539095273878171:=zz
def tw3944322978008706981:=zz
def tw17954967933141940025:=zz
def tw4698052392818685888:=zz
def tw11302528415753130928:=zz
def tw8953658728437958707:=zz
def tw7222563415595558499:=zz
def tw13587232619032367774:=zz
def tw2561238943040872249:=zz
def tw6299727322934515982:=zz
def tw8001070884395519377:=zz
def tw17355771836409891744:=zz
def tw14841892494891583433:=zz
def tw3085333481077552521:=zz
def tw12399958069023710450:=zz
def tw7843233308935647071:=zz
def tw6532964176334141934:=zz
def tw10951063344972562106:=zz
def tw16406278637817096081:=zz
def tw12040575664924425181:=zz
def tw11615931391510434850:=zz
def tw8166007869743585023:=zz
def tw6333463481966428357:=zz
def tw15532043286298727714:=zz
def tw6618966348452036915:=zz
def tw10879331678388272480:=zz
def tw17605552685949659294:=zz
def tw1660285678790827946:=zz
def tw9378755012612214820:=zz
def tw5980918639118223222:=zz
def tw18040796485633398620:=zz
def tw11903318097870159237:=zz
def tw13483319925327592774:=zz
def tw6949618292388403613:=zz
def tw6256871298807867311:=zz
def tw5342058859870169837:=zz
def tw16779909905288719989:=zz
def tw6811214853574752113:=zz
def tw17287886430781990755:=zz
def tw7204085690772516997:=zz
def tw9785407278021830486:=zz
def tw2223105034880167244:=zz
def tw11930022298954643323:=zz
def tw6070907121216323171:=zz
def tw2563038218183031297:=zz
def tw10521835441894944032:=zz
def tw294028581103456516:=zz
def tw4954072340859250120:=zz
def tw191070976300498695:=zz
def tw11996703800794027152:=zz
def tw16991878247104700994:=zz
def tw13155568835613117360:=zz
def tw14621364128406647489:=zz
def tw2827381315625940306:=zz
def tw5987460588813530099:=zz
def tw4393558547135978448:=zz
def tw5597882587168882952:=zz
def tw17214425318352857723:=zz
def tw12495395626400011026:=zz
def tw3846587924731705813:=zz
def tw13965234223765275545:=zz
def tw13115185199442447534:=zz
def tw13904789782421104823:=zz
def tw11942532177894722508:=zz
def tw7796162290181307586:=zz
def tw5784172217767154485:=zz
def tw15330140663946931968:=zz
def tw632610038839075809:=zz
def tw14560333683739527410:=zz
def tw8338332737138809826:=zz
def tw10640839564405024530:=zz
def tw4286829518010661380:=zz
def tw15302542135645765807:=zz
def tw6248866246690895877:=zz
def tw13560050636972367882:=zz
def tw12555270209358056506:=zz
def tw95254162851657920:=zz
def tw6491290918437570619:=zz
def tw8793596152714941266:=zz
def tw6361644637068396975:=zz
def tw12995953797278292896:=zz
def tw9914676849942344256:=zz
def tw7823112514365386492:=zz
def tw6823138996981025711:=zz
def tw12815839076046390224:=zz
def tw16324036798199400931:=zz
def tw2137764593999899069:=zz
def tw5133786771355283594:=zz
def tw5390569910051084315:=zz
def tw10224626151371888254:=zz
def tw4034674636783244458:=zz
def tw13377411018082840362:=zz
def tw11476790941867823009:=zz
def tw16197307734697872455:=zz
def tw6606321268770396273:=zz
def tw811915586092834174:=zz
def tw7208142129535990240:=zz
def tw2435301720683354065:=zz
def tw4060382655503977102:=zz
def tw8789251330598636197:=zz
def tw9610814462560575879:=zz
def tw4272841557507861934:=zz
def tw3389931562747704729:=zz
def tw11456168269598800759:=zz
def tw3576172591315286489:=zz
def tw11435459437517714011:=zz
def tw667914232810976734:=zz
def tw9325129689273024758:=zz
def tw16747590645264017934:=zz
def tw2302883625731383682:=zz
def tw288075542061186250:=zz
def tw16710140704505113518:=zz
def tw8826074230053688443:=zz
def tw5681730102439110836:=zz
def tw1424853390785420623:=zz
def tw16436714471256027768:=zz
def tw15427284485120326506:=zz
def tw1500311970390749543:=zz
def tw14547974771315850211:=zz
def tw9153892531372745605:=zz
def tw8955679279412509310:=zz
def tw3939968685940254868:=zz
def tw13609246432354307982:=zz
def tw7123601943146377247:=zz
def tw2251435520544566258:=zz
def tw4687067554354538953:=zz
def tw18193029882150173810:=zz
def tw9776525938991092954:=zz
def tw7044250126180727540:=zz
def tw4630080670147949678:=zz
def tw6993808533728874544:=zz
def tw5536510256195519676:=zz
def tw9169101291005730268:=zz
def tw3644294730534120310:=zz
def tw4095295371204698312:=zz
def tw13821299220092233997:=zz
def tw15934709738854689304:=zz
def tw4828820328064535515:=zz
def tw14814958843202620217:=zz
def tw1058638281984242455:=zz
def tw11020436574642901562:=zz
def tw1938769332862206002:=zz
def tw7745220811689274135:=zz
def tw5241176578110680987:=zz
def tw2720629904865552206:=zz
def tw16958830736877866470:=zz
def tw15989568263460551914:=zz
def tw17202743553339166745:=zz
def tw8100119890916467330:=zz
def tw1219983258706697402:=zz
def tw352263070456693124:=zz
def tw17632005308481774920:=zz
def tw1551864519146941909:=zz
def tw3142512687351732191:=zz
def tw9446463597119263623:=zz
def tw9036585313187781111:=zz
def tw2158280739619866459:=zz
def tw11704686409819409277:=zz
def tw9808187420427380644:=zz
def tw16742191379193255632:=zz
def tw17419646502414291323:=zz
def tw16024459667214487507:=zz
def tw6739878935662755551:=zz
def tw1165658832594022782:=zz
def tw10507793640320159250:=zz
def tw8560569305373112511:=zz
def tw13194612293982416181:=zz
def tw5993123936596830571:=zz
def tw8394890756370293552:=zz
def tw16776220302072883184:=zz
def tw538234399693980087:=zz
def tw3073559313332417928:=zz
def tw5238043301149707703:=zz
def tw6636335224240321927:=zz
def tw4127286024622263323:=zz
def tw9727650904659441082:=zz
def tw2684774965163846152:=zz
def tw5641833098774326931:=zz
def tw3276812530222640143:=zz
def tw13100841525790695529:=zz
def tw1086185386921074838:=zz
def tw13598466347893865319:=zz
def tw17270339324176207058:=zz
def tw17108562589031984835:=zz
def tw16406751994182777626:=zz
def tw9474374928417864723:=zz
def tw2398513347937935204:=zz
def tw118217159646968740:=zz
def tw7117081611552938574:=zz
def tw4174294535953281660:=zz
def tw16551714556736285997:=zz
def tw14735311601773142783:=zz
def tw13031340474970683086:=zz
def tw7669384164098771171:=zz
def tw4744599177652784253:=zz
def tw10551211846890347790:=zz
def tw5250392498918067475:=zz
def tw15460904031059473221:=zz
def tw15830700741998591080:=zz
def tw12091751674259944481:=zz
def tw12261647697618697419:=zz
def tw8029845031096939503:=zz
def tw6991640139191671376:=zz
def tw2015199821734942810:=zz
def tw2534083985843257556:=zz
def tw12179359653132228765:=zz
def tw3913436918088791232:=zz
def tw17551881903909434028:=zz
def tw11943766642814353033:=zz
def tw15710872511463785924:=zz
def tw3842820147462290570:=zz
def tw5731005480464773132:=zz
def tw2109576324367539116:=zz
def tw10164939328344674595:=zz
def tw17357039190648663777:=zz
def tw14130261186907464933:=zz
def tw2525028299896489403:=zz
def tw15445068809845870363:=zz
def tw14976776647402520394:=zz
def tw912197069468210992:=zz
def tw17216543623740840267:=zz
def tw7030510980973376539:=zz
def tw4119093381567098741:=zz
def tw14685600822366479793:=zz
def tw13923804148751583709:=zz
def tw10165474149786340030:=zz
def tw10343110045112745977:=zz
def tw10953490919574509938:=zz
def tw14826921339086104458:=zz
def tw6446684938336136955:=zz
def tw8889170560154316675:=zz
def tw9166280962634024211:=zz
def tw704423679272780399:=zz
def tw790774907091798700:=zz
def tw9550208474798697494:=zz
def tw14887315334329956165:=zz
def tw8140771342975731273:=zz
def tw2436621214595415590:=zz
def tw11469680889970263997:=zz
def tw11632835083884962108:=zz
def tw9102451609855955591:=zz
def tw16808064555604719177:=zz
def tw1938136380615485657:=zz
def tw11533997614557584036:=zz
def tw747054087020761531:=zz
def tw13946739561324505796:=zz
def tw2609334750179511380:=zz
def tw14509417920159551414:=zz
def tw11252063444017990386:=zz
def tw8693847919279505628:=zz
def tw11017868692156208964:=zz
def tw18108641374450181776:=zz
def tw7976652129300044612:=zz
def tw5264004020351639765:=zz
def tw15091724018768615104:=zz
def tw1597852532249851693:=zz
def tw12128565834809313400:=zz
def tw16858544953974885600:=zz
def tw16984268900266380654:=zz
def tw16915609634657659569:=zz
def tw1483267404381927473:=zz
def tw149812152051931056:=zz
def tw11734010509724742877:=zz
def tw10246142096564093712:=zz
def tw3927250909456081909:=zz
def tw6417307660378246116:=zz
def tw14508222881597653275:=zz
def tw14721982384738482880:=zz
def tw9395496124653951236:=zz
def tw5945045198708512541:=zz
def tw16272847673753607449:=zz
def tw4765765553503977247:=zz
def tw11674514648928605294:=zz
def tw1168291727866861686:=zz
def tw15874226448425251835:=zz
def tw104317340177164196:=zz
def tw17842530203766194388:=zz
def tw12331464746167995542:=zz
def tw2321337336126826073:=zz
def tw15970249805614662502:=zz
def tw11603537665736868997:=zz
def tw9510552579961030629:=zz
def tw8287480845326992272:=zz
def tw147009113504012593:=zz
def tw12443615615474955426:=zz
def tw6270166999145743992:=zz
def tw11323203585529269529:=zz
def tw8371054342683883712:=zz
def tw15914780764566008974:=zz
def tw6734544475630707603:=zz
def tw16507411846494394574:=zz
def tw4788293426756637955:=zz
def tw17544143253399818627:=zz
def tw9524158598084071602:=zz
def tw5111186573318233943:=zz
def tw13479195527100585124:=zz
def tw13888516887006457335:=zz
def tw5124527719817548197:=zz
def tw9956327243649320250:=zz
def tw12804070568078945440:=zz
def tw8930923012400817359:=zz
def tw14865741716719521876:=zz
def tw1036153196207028441:=zz
def tw140303316088400616:=zz
def tw14419880832525984709:=zz
def tw14797554131378080398:=zz
def tw2849604445664241099:=zz
def tw5762633805830603074:=zz
def tw1480855774428790104:=zz
def tw2052412332944582839:=zz
def tw17283856732171580093:=zz
def tw9035797671952686110:=zz
def tw15911347653814823944:=zz
def tw3547197402295363273:=zz
def tw17800552860995190481:=zz
def tw17170350789901531062:=zz
def tw13801637012512324051:=zz
def tw5364386763709047245:=zz
def tw1601396946344590758:=zz
def tw3576732855009453701:=zz
def tw5485649472792375027:=zz
def tw2631867060348524436:=zz
def tw12526934667796160561:=zz
def tw2714203224181528408:=zz
def tw17101750101019467569:=zz
def tw11243815798281463518:=zz
def tw17998291707198161947:=zz
def tw9461582041376664304:=zz
def tw9935690316432463445:=zz
def tw15875746875610738546:=zz
def tw4507570020493771889:=zz
def tw12585121235220917389:=zz
def tw5902104397398881863:=zz
def tw11467130893016451209:=zz
def tw16907649771056763816:=zz
def tw8782785975632586086:=zz
def tw8211124287181629267:=zz
def tw6118251325224829904:=zz
def tw15425229841859024599:=zz
def tw7034702234980134275:=zz
def tw4376231335053194684:=zz
def tw7535441048429633398:=zz
def tw15840560770308412201:=zz
def tw11675015593695881144:=zz
def tw17319143162088810487:=zz
def tw3625887749667870521:=zz
def tw15764169317030304466:=zz
def tw2724586942018825938:=zz
def tw13871620727862785893:=zz
def tw15725310293828228283:=zz
def tw249858470381973039:=zz
def tw5605992545181826464:=zz
def tw14593536014098334449:=zz
def tw12863203370981258430:=zz
def tw16099712771312869210:=zz
def tw14999837594125194251:=zz
def tw7097068350275464004:=zz
def tw13257937364871344068:=zz
def tw3073879986268189506:=zz
def tw940713771795277593:=zz
def tw8296130194001225502:=zz
def tw5312054271154276272:=zz
def tw6963035269535092042:=zz
def tw15990903585827295452:=zz
def tw15802750449381207344:=zz
def tw10214691577452769402:=zz
def tw13937459885549168789:=zz
def tw15276055175528011942:=zz
def tw5739035524482564744:=zz
def tw6817855393968160982:=zz
def tw7504652047063015349:=zz
def tw6757727106380993541:=zz
def tw15344843928336026681:=zz
def tw3296146022368010511:=zz
def tw6599260916711710373:=zz
def tw15203714455610532040:=zz
def tw12603864785399051500:=zz
def tw9777011051468496624:=zz
def tw8536963124245497774:=zz
def tw360030026516747619:=zz
def tw17686603512445622934:=zz
def tw6332087578581695536:=zz
def tw3797213760045399509:=zz
def tw8256991936450349243:=zz
def tw3793901949729878081:=zz
def tw1974468552922912433:=zz
def tw11061129616426099391:=zz
def tw13244056788402948423:=zz
def tw13010290834912990317:=zz
def tw9877816644047528112:=zz
def tw16061071117642495855:=zz
def tw15228356093270205257:=zz
def tw11649793323781023957:=zz
def tw12881458910927719971:=zz
def tw5807193376480248655:=zz
def tw8379016556397324980:=zz
def tw322930415377743671:=zz
def tw10873442265760924501:=zz
def tw16276739602859823325:=zz
def tw9507202860763379995:=zz
def tw18360380737031232373:=zz
def tw13977924337179584300:=zz
def tw6930671638838097326:=zz
def tw16262990319096231128:=zz
def tw3665620905008794559:=zz
def tw963376155065596727:=zz
def tw11940704302177874438:=zz
def tw591606579769516071:=zz
def tw18246833323618546149:=zz
def tw10099446767660892113:=zz
def tw11320231342008779583:=zz
def tw11509248559181277482:=zz
def tw12928396330198765801:=zz
def tw5385150219382836830:=zz
def tw6022605109438693556:=zz
def tw3873619812933067318:=zz
def tw4839814745907717985:=zz
def tw8397046311930613049:=zz
def tw16560403570097056181:=zz
def tw14600857232402595265:=zz
def tw13335746334222103639:=zz
def tw9298257379244085856:=zz
def tw2780477900815365513:=zz
def tw8191391466823307097:=zz
def tw7857138111790855995:=zz
def tw10602546856986126671:=zz
def tw16741442384137748671:=zz
def tw9991786423689606034:=zz
def tw15711696377814479645:=zz
def tw7224683592086221331:=zz
def tw2577785404846737342:=zz
def tw15266793308858199077:=zz
def tw16586400348022580232:=zz
def tw18264871597413949412:=zz
def tw4030410867933997163:=zz
def tw2812386951866574254:=zz
def tw4255905974925739700:=zz
def tw17704859940995554753:=zz
def tw10826395637121948387:=zz
def tw9709656417416512040:=zz
def tw9426014822170424611:=zz
def tw5929773614915831418:=zz
def tw17625897391316342214:=zz
def tw4256660107921427822:=zz
def tw11787127108879169552:=zz
def tw2274323096100055504:=zz
def tw12231704042130418399:=zz
def tw14008524199958179179:=zz
def tw2784781647477510398:=zz
def tw4796657113484901362:=zz
def tw361356606194604247:=zz
def tw5607289876734196415:=zz
def tw6171215651616755615:=zz
def tw14079812780661558291:=zz
def tw4302734645674036444:=zz
def tw13907863954444255224:=zz
def tw36494878313928803:=zz
def tw10752605081489226337:=zz
def tw17846682459215703216:=zz
def tw13345584594898076238:=zz
def tw2531969168221759205:=zz
def tw15858735548378336548:=zz
def tw7347382828892919004:=zz
def tw11698143285300990789:=zz
def tw15405138699967105712:=zz
def tw7047304465177147085:=zz
def tw2580887277113877016:=zz
def tw16854996089370823306:=zz
def tw1828324897517304936:=zz
def tw6231271942991814475:=zz
def tw41746023586795717:=zz
def tw10288565338203730209:=zz
def tw753313727348897479:=zz
def tw12759418636528677506:=zz
def tw6463299691515206278:=zz
def tw6371862715902984065:=zz
def tw14085997864481959747:=zz
def tw16221570617513501118:=zz
def tw7573476222222059356:=zz
def tw9798334140823694868:=zz
def tw4544917417023825378:=zz
end PySem.W.Fast
open PySem PySem.W PyProof.Rows
set_option maxRecDepth 100000 in
set_option maxHeartbeats 0 in
theorem PySem.Challenge.cw_tenreckon_k16_fused_holds : PySem.Challenge.rw_tenreckon_k16_fused.Holds := by
 w_on; o_law; k_head; (case hw => w_witness2)
 k_fill
 refine TR.walk (l := PySem.Challenge.rw_tenreckon_k16_fused) rfl rfl (fun w h Y => PySem.W.kIn_of Y) ?F
 case F =>
   intro w mg fa h KX G hmg
   refine' TR.all_mk KX G hmg ?Zg_ ?Zpi ?Zo8 ?Zpj ?Zpk ?Zt8 ?Zkz ?Zqp ?Zqr ?Zpq ?Zjp ?Zpr ?Zo9 ?Zk_ ?Zt9 ?Zl7 ?Zl9 ?Zog ?Zla ?Zh6 ?Zoh ?Zoj ?Zpz ?Zp_ ?Zlb ?Zle ?Zom ?Zqt ?Zqa ?Zjq ?Zon ?Zlh ?Zqb ?Zjr ?Zqc ?Zqd ?Zli ?Zqe ?Zqf ?Zqu ?Zqg ?Zqv ?Zoq ?Zqw ?Zqh ?Zot ?Zlj ?Zqi ?Zqj ?Zou ?Zqx ?Zjt ?Zlq ?Zqy ?Zlv ?Ztf ?Zow ?Zqz ?Zoy ?Zju ?Zoz ?Zo_ ?Zq_ ?ZC5z ?ZD4b ?ZD6n ?ZD6c ?Ztj ?ZT ?Zsn ?Ztk ?ZJ2n ?ZG6r ?ZD4n ?ZD7u ?ZD5s ?ZD6p ?ZD5a ?ZD4c ?ZD8e ?Zlw ?ZG8d ?ZD4m ?ZD6u ?ZD6b ?ZD8b ?ZD5h ?ZD4s ?ZD7q ?Zly ?ZG7c ?ZD5q ?ZD8n ?ZD4a ?ZD5r ?ZD6s ?ZD4f ?ZD7k ?Zl_ ?ZG8b ?ZD4k ?ZD6x ?ZD4j ?ZD6f ?ZD7h ?ZD8d ?ZD7p ?Zm7 ?ZG7j ?ZD7s ?ZD7d ?ZD7e ?ZD4z ?ZD6z ?ZD6e ?ZD5d ?Zm8 ?ZG6x ?ZD5v ?ZD7c ?ZD8k ?ZD8m ?ZD6q ?ZD6y ?ZD8a ?Zm9 ?ZG6t ?ZD5e ?ZD6r ?ZD4t ?ZD5u ?ZD5t ?ZD5f ?ZD7f ?Zma ?ZG7r ?ZD5b ?ZD7x ?ZD4h ?ZD6w ?ZD8j ?ZD5m ?ZD3w ?Zmd ?ZG6v ?ZD4p ?ZD6d ?ZD4y ?ZD4r ?ZD7z ?ZA9j ?ZA9e ?ZA4c ?ZA6u ?ZD4w ?ZD3z ?ZD6m ?ZD3x ?ZD7w ?ZB7z ?Zc8 ?Zh_ ?Zc9 ?Zi0 ?Zcb ?Zi4 ?Zcf ?Zi5 ?Zcg ?Zi6 ?Zci ?Zi8 ?Zcj ?Zi9 ?Zcm ?Zia ?ZG7f ?ZD8g ?ZD4e ?ZD5c ?ZA9g ?ZA9h ?ZA6s ?ZA9f ?ZA6t ?ZA4b ?ZD5n ?ZD5g ?ZD6g ?ZD4q ?ZD7r ?ZD8h ?Zjv ?Zib ?Zp7 ?Zie ?Zjw ?ZG6u ?ZD5w ?ZD7j ?ZD8f ?ZD7g ?ZD4x ?ZB3w ?ZA5e ?ZA6r ?ZD7v ?ZD7n ?ZD8p ?ZD5y ?ZD6t ?ZC0r ?Zjx ?Zqk ?ZG7y ?ZD5p ?ZG2m ?ZG2r ?ZG2k ?ZG2p ?ZD6j ?ZG2n ?Zcty ?Zccl ?Zcex ?Zsub5 ?Zxga5 ?Zxgh5 ?Zxca5 ?Zxob5 ?Zxbe5 ?Zxcl5 ?ZJ2t ?ZJ2b ?ZJ2j ?ZJ2a ?ZJ2r ?Zhv5 ?ZlT ?ZlN ?ZalN ?ZniT ?ZlT1 ?ZsaT ?Znsg5 ?ZG2q ?ZG6q ?ZG7a ?ZfcT ?ZkTR ?Zq1 ?Zq2 ?Zq3 ?Zq4 ?Za_S ?ZlS ?Zmh ?ZA5f ?ZC3k ?ZC3j ?ZB8b ?ZB3v ?ZB7y ?ZB8a ?Zsub2 ?Zxga2 ?Zxgh2 ?Zxca2 ?Zxob2 ?Zxbe2 ?Zxcl2 ?ZG7t ?ZG8f ?ZG8e ?ZG6z ?ZG7b ?Zhv2 ?ZtyT ?ZsubT
   case Zg_|Zpi|Zo8|Zpj|Zpk|Zt8|Zkz|Zqp|Zqr|Zpq|Zjp|Zpr|Zo9|Zk_|Zt9|Zl7|Zl9|Zog|Zla|Zh6|Zoh|Zoj|Zpz|Zp_|Zlb|Zle|Zom|Zqt|Zqa|Zjq|Zon|Zlh|Zqb|Zjr|Zqc|Zqd|Zli|Zqe|Zqf|Zqu => (refine' TR.Fa.mk ?a ?l ?c ?k; (case a => k_is); (case l => k_is); (case c => k_is); (case k => k_is))
   case Zqg|Zqv|Zoq|Zqw|Zqh|Zot|Zlj|Zqi|Zqj|Zou|Zqx|Zjt|Zlq|Zqy|Zlv|Ztf|Zow|Zqz|Zoy|Zju|Zoz|Zo_|Zq_ => (refine' TR.Fa.mk ?a ?l ?c ?k; (case a => k_is); (case l => k_is); (case c => k_is); (case k => k_is))
   case ZC5z|ZD4b|ZD6n|ZD6c => k_is
   case Ztj => constructor <;> k_is
   case ZT => constructor <;> kit_is
   case Zsn|Ztk|ZJ2n|ZG6r => k_is
   case ZD4n => constructor <;> k_is
   case ZD7u|ZD5s|ZD6p|ZD5a|ZD4c => k_is
   case ZD8e => kit_is
   case Zlw => (refine' TR.Fb.mk ?a ?i ?l ?c ?k; (case a => k_is); (case i => k_is); (case l => k_is); (case c => k_is); (case k => k_is))
   case ZG8d => k_is
   case ZD4m => constructor <;> k_is
   case ZD6u|ZD6b|ZD8b|ZD5h|ZD4s => k_is
   case ZD7q => kit_is
   case Zly => (refine' TR.Fb.mk ?a ?i ?l ?c ?k; (case a => k_is); (case i => k_is); (case l => k_is); (case c => k_is); (case k => k_is))
   case ZG7c => k_is
   case ZD5q => constructor <;> k_is
   case ZD8n|ZD4a|ZD5r|ZD6s|ZD4f => k_is
   case ZD7k => kit_is
   case Zl_ => (refine' TR.Fb.mk ?a ?i ?l ?c ?k; (case a => k_is); (case i => k_is); (case l => k_is); (case c => k_is); (case k => k_is))
   case ZG8b => k_is
   case ZD4k => constructor <;> k_is
   case ZD6x|ZD4j|ZD6f|ZD7h|ZD8d => k_is
   case ZD7p => kit_is
   case Zm7 => (refine' TR.Fb.mk ?a ?i ?l ?c ?k; (case a => k_is); (case i => k_is); (case l => k_is); (case c => k_is); (case k => k_is))
   case ZG7j => k_is
   case ZD7s => constructor <;> k_is
   case ZD7d|ZD7e|ZD4z|ZD6z|ZD6e => k_is
   case ZD5d => kit_is
   case Zm8 => (refine' TR.Fb.mk ?a ?i ?l ?c ?k; (case a => k_is); (case i => k_is); (case l => k_is); (case c => k_is); (case k => k_is))
   case ZG6x => k_is
   case ZD5v => constructor <;> k_is
   case ZD7c|ZD8k|ZD8m|ZD6q|ZD6y => k_is
   case ZD8a => kit_is
   case Zm9 => (refine' TR.Fb.mk ?a ?i ?l ?c ?k; (case a => k_is); (case i => k_is); (case l => k_is); (case c => k_is); (case k => k_is))
   case ZG6t => k_is
   case ZD5e => constructor <;> k_is
   case ZD6r|ZD4t|ZD5u|ZD5t|ZD5f => k_is
   case ZD7f => kit_is
   case Zma => (refine' TR.Fb.mk ?a ?i ?l ?c ?k; (case a => k_is); (case i => k_is); (case l => k_is); (case c => k_is); (case k => k_is))
   case ZG7r => k_is
   case ZD5b => constructor <;> k_is
   case ZD7x|ZD4h|ZD6w|ZD8j|ZD5m => k_is
   case ZD3w => kit_is
   case Zmd => (refine' TR.Fb.mk ?a ?i ?l ?c ?k; (case a => k_is); (case i => k_is); (case l => k_is); (case c => k_is); (case k => k_is))
   case ZG6v => k_is
   case ZD4p => constructor <;> k_is
   case ZD6d|ZD4y|ZD4r|ZD7z|ZA9j|ZA9e|ZA4c|ZA6u|ZD4w|ZD3z|ZD6m|ZD3x|ZD7w => k_is
   case ZB7z => kit_is
   case Zc8|Zh_|Zc9|Zi0|Zcb|Zi4|Zcf|Zi5|Zcg|Zi6|Zci|Zi8|Zcj|Zi9|Zcm|Zia => (refine' TR.Fb.mk ?a ?i ?l ?c ?k; (case a => k_is); (case i => k_is); (case l => k_is); (case c => k_is); (case k => k_is))
   case ZG7f => k_is
   case ZD8g => constructor <;> k_is
   case ZD4e|ZD5c|ZA9g|ZA9h|ZA6s|ZA9f|ZA6t|ZA4b|ZD5n|ZD5g|ZD6g|ZD4q|ZD7r|ZD8h => k_is
   case Zjv|Zib|Zp7|Zie|Zjw => (refine' TR.Fb.mk ?a ?i ?l ?c ?k; (case a => k_is); (case i => k_is); (case l => k_is); (case c => k_is); (case k => k_is))
   case ZG6u => k_is
   case ZD5w => constructor <;> k_is
   case ZD7j|ZD8f|ZD7g|ZD4x|ZB3w|ZA5e|ZA6r|ZD7v|ZD7n|ZD8p|ZD5y|ZD6t|ZC0r => k_is
   case Zjx|Zqk => (refine' TR.Fb.mk ?a ?i ?l ?c ?k; (case a => k_is); (case i => k_is); (case l => k_is); (case c => k_is); (case k => k_is))
   case ZG7y => k_is
   case ZD5p => kit_is
   case ZG2m|ZG2r|ZG2k|ZG2p|ZD6j|ZG2n|Zcty|Zccl|Zcex|Zsub5|Zxga5|Zxgh5|Zxca5|Zxob5|Zxbe5|Zxcl5 => k_is
   case ZJ2t|ZJ2b|ZJ2j|ZJ2a|ZJ2r|Zhv5 => kit_is
   case ZlT|ZlN => k_is
   case ZalN => simp
   case ZniT|ZlT1|ZsaT|Znsg5|ZG2q|ZG6q|ZG7a => k_is
   case ZfcT => rfl
   case ZkTR => kit_is
   case Zq1|Zq2|Zq3|Zq4 => k_exc
   case Za_S|ZlS => k_is
   case Zmh => (refine' TR.Fb.mk ?a ?i ?l ?c ?k; (case a => k_is); (case i => k_is); (case l => k_is); (case c => k_is); (case k => k_is))
   case ZA5f|ZC3k|ZC3j|ZB8b|ZB3v|ZB7y|ZB8a => kit_is
   case Zsub2|Zxga2|Zxgh2|Zxca2|Zxob2|Zxbe2|Zxcl2 => k_is
   case ZG7t|ZG8f|ZG8e|ZG6z|ZG7b|Zhv2 => kit_is
   case ZtyT|ZsubT => k_is

