import PyProof.Rows.All
import Wide.All
import OpenK.KLine
import OpenK.KOwn
import KE.RegKIsAll
import KE.KItem
import KE.LcSums
import KE.KPairTest
import Wide.FinOn
import Lean
import PyProof.EqAt
import PyProof.EqKinds
import PyProof.TupleCall
import PyProof.Rows.Catch
import PyProof.Rows.TupIter
import PyProof.TupleIter
import PyProof.Seq
import PyProof.ExcInit
import PyProof.ExcClass2
import KE.KIntText
import PyProof.StrOps2
import PyProof.ConsumeWalk
import PyProof.Rows.RuleM_int
import PyProof.ZipIter
import PyProof.EnumMake
import PyProof.Rows.TupAssign
import PyProof.Rows.Range3
import PyProof.DictWalks
import PyProof.DictUpdate
import PyProof.P3In
import PySem.Challenge.RW_tenreckon_k25_powers
set_option Elab.async false
set_option linter.all false
set_option maxRecDepth 100000
theorem L2.hideG{α β:Type}{I Z:α ->β ->Prop}(h:∀Z',Z'=Z ->∀a b,I a b ->Z' a b):∀a b,I a b ->Z a b:=h Z rfl
namespace L2
open PySem PySem.Spec PyProof.Rows
noncomputable abbrev Key:=Sum Int Str
noncomputable def B3z:Key ->Value ->Bool
 | .inl k,v=>Value.isInt k v
 | .inr x,v=>Value.isStrOf x v
noncomputable def J1d (w:World):Key ->Int
 | .inl k=>hashInt k
 | .inr x=>hashStr w x
theorem Z1:∀{k:Key} {v:Value},B3z k v=true ->(∃i t,k=Sum.inl i/\v=Value.int i t)\/(∃x t,k=Sum.inr x/\v=Value.str x t)
 | .inl i,v,h=>by
   obtain⟨t,e⟩:=Value.isInt_shape (k:=i) (v:=v) h
   exact .inl ⟨i,t,rfl,e⟩
 | .inr x,v,h=>by
   obtain⟨t,e⟩:=Value.isStrOf_shape (x:=x) (v:=v) h
   exact .inr ⟨x,t,rfl,e⟩
theorem C5p(i:Int)(t:Tok):B3z (.inl i) (.int i t)=true:=by simp[B3z,Value.isInt]
theorem C5k(x:Str)(t:Tok):B3z (.inr x) (.str x t)=true:=by simp[B3z,Value.isStrOf]
theorem G3d(a b:Int):decide ((Sum.inl a:Key)=Sum.inl b)=(a==b):=by
 by_cases e:a=b
 . subst e;simp
 have h:¬(Sum.inl a:Key)=Sum.inl b:=fun q=>e (Sum.inl.inj q)
 rw[decide_eq_false h]
 exact(beq_eq_false_iff_ne.mpr e).symm
theorem G2s(a b:Str):decide ((Sum.inr a:Key)=Sum.inr b)=decide (a=b):=by
 by_cases e:a=b
 . subst e;simp
 have h:¬(Sum.inr a:Key)=Sum.inr b:=fun q=>e (Sum.inr.inj q)
 rw[decide_eq_false h,decide_eq_false e]
theorem G1r(a:Int)(b:Str):decide ((Sum.inl a:Key)=Sum.inr b)=false:=decide_eq_false (fun q=>nomatch q)
theorem G2w(a:Str)(b:Int):decide ((Sum.inr a:Key)=Sum.inl b)=false:=decide_eq_false (fun q=>nomatch q)
noncomputable def A0g (prog:Program) (w:World):PySem.KeyKind prog w Key where
 is:=B3z
 hash:=J1d w
 inj :=fun v a b ha hb=>by
   rcases Z1 ha with⟨i,t,rfl,rfl⟩|⟨x,t,rfl,rfl⟩
   . rcases Z1 hb with⟨j,u,rfl,e⟩|⟨y,u,rfl,e⟩
     . injection e with e1 _;rw[e1]
     . exact nomatch e
   . rcases Z1 hb with⟨j,u,rfl,e⟩|⟨y,u,rfl,e⟩
     . exact nomatch e
     . injection e with e1 _;rw[e1]
 byValue:=fun k v h=>by
   rcases Z1 h with⟨i,t,rfl,rfl⟩|⟨x,t,rfl,rfl⟩<;>rfl
 pyHash:=fun hv h=>by
   rcases Z1 hv with⟨i,t,rfl,rfl⟩|⟨x,t,rfl,rfl⟩
   . exact wpAny_pyHash_int h
   . exact wpAny_pyHash_str h
 eqBool:=fun hu hv h=>by
   rcases Z1 hu with⟨i,t,rfl,rfl⟩|⟨x,t,rfl,rfl⟩
   . rcases Z1 hv with⟨j,u,rfl,rfl⟩|⟨y,u,rfl,rfl⟩
     . rw[G3d] at h;exact wpAny_eqBool_int h
     . rw[G1r] at h;exact SeqAt.EqAt.int_str i t y u _ _ _ _ h
   . rcases Z1 hv with⟨j,u,rfl,rfl⟩|⟨y,u,rfl,rfl⟩
     . rw[G2w] at h;exact SeqAt.EqAt.str_int x t j u _ _ _ _ h
     . rw[G2s] at h;exact wpAny_eqBool_str h
 «strs» := fun k x t v h => by
   rcases Z1 h with⟨i,u,rfl,e⟩|⟨y,u,rfl,e⟩
   . exact nomatch e
   . injection e with e1 _
     subst e1
     cases v<;>rfl
theorem B7y(prog:Program)(w:World)(i:Int)(t:Tok):(A0g prog w).is (.inl i) (.int i t)=true:=C5p i t
theorem B8q(prog:Program)(w:World)(x:Str)(t:Tok):(A0g prog w).is (.inr x) (.str x t)=true:=C5k x t
inductive V where
 |non|bl (b:Bool)|int (i:Int)|str (x:Str)|byt (b:Array UInt8)|flt (b:UInt64)|ref (a:Addr)|ty (n:String)
 deriving DecidableEq
noncomputable def U9:V ->Value ->Prop
 | .non,u=>u=Value.none
 | .bl b,u=>u=Value.bool b
 | .int i,u=>∃t,u=Value.int i t
 | .str x,u=>∃t,u=Value.str x t
 | .byt b,u=>∃t,u=Value.bytes b t
 | .flt b,u=>∃t,u=Value.float b t
 | .ref a,u=>u=Value.ref a
 | .ty n,u=>u=Value.type n
noncomputable abbrev G7:List V ->List Value ->Prop:=Paired U9
theorem G7.length{xs:List V}{us:List Value}(r:G7 xs us):xs.length=us.length:=Paired.length r
theorem G7.get:∀{xs:List V} {us:List Value} {i:Nat} {x:V},G7 xs us ->xs[i]?=some x ->∃u,us[i]?=some u/\U9 x u
 |_,_,_,_,.nil,e=>by simp at e
 |_,_,0,_,.cons r _,e=>by simp at e;subst e;exact⟨_,rfl,r⟩
 | _,_,i+1,x,.cons _ t,e=>by
   obtain⟨u,h1,h2⟩:=G7.get (i:=i) (x:=x) t (by simpa using e)
   exact⟨u,by simpa using h1,h2⟩
theorem G7.append:∀{xs ys:List V} {us ws:List Value},G7 xs us ->G7 ys ws ->G7 (xs++ys) (us++ws)
 |_,_,_,_,.nil,s=>s
 |_,_,_,_,.cons r t,s=> .cons r (G7.append t s)
theorem G7.take:∀{xs:List V} {us:List Value} (n:Nat),G7 xs us ->G7 (xs.take n) (us.take n)
 |_,_,0,_=> .nil
 |_,_,_+1,.nil=> .nil
 |_,_,n+1,.cons r t=> .cons r (G7.take n t)
theorem G7.drop:∀{xs:List V} {us:List Value} (n:Nat),G7 xs us ->G7 (xs.drop n) (us.drop n)
 |_,_,0,r=>r
 |_,_,_+1,.nil=> .nil
 |_,_,n+1,.cons _ t=>G7.drop n t
noncomputable def A4g:Option V ->Option Value ->Prop
 |some v,some u=>U9 v u
 |none,none=>True
 |_,_=>False
noncomputable def KV {κ:Type}:List (κ×V) ->List (κ×Value) ->Prop:=Paired fun(p:κ×V) (q:κ×Value)=>p.1=q.1/\U9 p.2 q.2
noncomputable def kV:Key ->V
 | .inl i=> .int i
 | .inr x=> .str x
inductive HO where
 |lst (xs:List V)
 |tup (xs:List V)
 |dK (kvs:List (Key×V))|dT (kvs:List (List Key×V))
 |set (S:Int ->Bool) (n:Nat)
 |ins (C dx:Addr) (fs:List (Str×V))
 |own (x:Addr)
 |xd (fs:List (Str×V))
 |met (f x:Addr)
 |rng (lo hi:Int)
 |frz (o:Obj) (u:HO)
 |tbl (ps:Array Value)
 |ext (φ:Heap ->Prop)
noncomputable abbrev Hp:=Addr ->Option HO
noncomputable def upd (H:Hp) (a:Addr) (o:HO):Hp:=fun b=>if b=a then some o else H b
theorem A6{H:Hp}{a:Addr}{o:HO}:upd H a o a=some o:=by unfold upd;rw[if_pos rfl]
theorem C9{H:Hp}{a b:Addr}{o:HO}(h:b≠a):upd H a o b=H b:=by unfold upd;rw[if_neg h]
theorem D7j{H:Hp}{a:Addr}{o u:HO}:upd (upd H a o) a u=upd H a u:=by
 funext b;unfold upd;split<;>rfl
theorem U4{H:Hp}{a b:Addr}{o u:HO}(h:H a=some o)(h':H b=some u)(d:o≠u):a≠b:=by
 intro e;subst e;rw[h] at h';exact d (Option.some.inj h')
theorem D8{H:Hp}{a b:Addr}{o:HO}(h:H a=some o)(h':H b=none):a≠b:=by
 intro e;subst e;rw[h] at h';cases h'
section
variable(P:Program)(w:World)
noncomputable def Y9 (H:Hp) (h:Heap) (a:Addr):HO ->Prop
 | .lst xs=>xs.length<=sizeLine/\∃(its:List Value) (n:Nat),G7 xs its/\h.get? a=some {cls:= .type "list",data:= .seq its.toArray n}
 | .tup xs=>xs.length<=sizeLine/\∃its:List Value,G7 xs its/\IsTup h a its.toArray
 | .dK kvs=>kvs.length<=sizeLine/\(a==sysModules)=false/\∃vs,KV kvs vs/\h.DictOf (A0g P w) a vs
 | .dT kvs=>kvs.length<=sizeLine/\(a==sysModules)=false/\∃xs:List (List Key×Addr×Value),
     Paired (fun(p:List Key×V) (q:List Key×Addr×Value)=>p.1=q.1/\H q.2.1=some (.tup (p.1.map kV))/\U9 p.2 q.2.2) kvs xs/\
     ∃o es ep,h.get? a=some o/\o.ExactDict/\o.data= .dict es ep/\es.toList=xs.map (entryOfKey (tupleKind (A0g P w)))/\(xs.map (·.1)).Nodup
 | .set S n=>h.SetOf (intKind P w) a S n
 | .ins C dx fs=>H dx=some (.own a)/\fs.length<=1000/\dx≠a/\h.get? a=some (PySem.W.instObj C dx)/\
     ∃mA,h.Ns1 dx mA/\(∀f,A4g (fs.lookup f) (mA f))/\PySem.Within mA (fs.map (·.1))
 | .own _=>∃o,h.get? a=some o
 | .xd fs=>∃mA,h.Ns1 a mA/\∀f,A4g (fs.lookup f) (mA f)
 | .rng lo hi=>∃t u v,h.get? a=some {cls:= .type "range",data:= .fields #[.int lo t,.int hi u,.int 1 v]}
 | .frz o u=>h.get? a=some o/\Y9 H h a u
 | .tbl ps=>h.get? a=some {cls:= .none,data:= .fields ps}
 | .met f x=>h.get? a=some (PySem.W.methodObj (.ref f) (.ref x))
 | .ext φ=>φ h/\(∃o,h.get? a=some o)/\∀h1 h2:Heap,φ h1 ->(∀o,h1.get? a=some o ->h2.get? a=some o) ->φ h2
noncomputable def HOk (H:Hp) (h:Heap):Prop:=∀a o,H a=some o ->Y9 P w H h a o
end
section
variable{P:Program}{w:World}{H H':Hp}{h h':Heap}{a:Addr}{o:HO}
theorem Y9.lt(x:Y9 P w H h a o):a<h.objs.size:=by
 cases o with
 |lst xs=>obtain⟨_,_,_,_,e⟩:=x;exact Heap.lt_size e
 |tup xs=>obtain⟨_,_,_,p⟩:=x;exact p.lt
 |dK kvs=>obtain⟨_,_,_,_,o,_,_,e,_⟩:=x;exact Heap.lt_size e
 |dT kvs=>obtain⟨_,_,_,_,o,_,_,e,_⟩:=x;exact Heap.lt_size e
 |set S n=>obtain⟨o,_,_,_,e,_⟩:=x;exact Heap.lt_size e
 |ins C dx fs=>obtain⟨_,_,_,e,_⟩:=x;exact Heap.lt_size e
 |own y=>obtain⟨_,e⟩:=x;exact Heap.lt_size e
 |xd fs=>obtain⟨_,⟨_,_,_,e,_⟩,_⟩:=x;exact Heap.lt_size e
 |rng lo hi=>obtain⟨_,_,_,e⟩:=x;exact Heap.lt_size e
 |frz ob u=>obtain⟨e,_⟩:=x;exact Heap.lt_size e
 |tbl ps=>exact Heap.lt_size (show h.get? a=some _ from x)
 |met f y=>exact Heap.lt_size (show h.get? a=some _ from x)
 |ext φ=>obtain⟨_,⟨_,e⟩,_⟩:=x;exact Heap.lt_size e
theorem Paired.mapP{α β:Type}{F G:α ->β ->Prop}:∀{l₁:List α} {l₂:List β},Paired F l₁ l₂ ->(∀a b,F a b ->G a b) ->Paired G l₁ l₂
 |_,_,.nil,_=> .nil
 |_,_,.cons r t,f=> .cons (f _ _ r) (Paired.mapP t f)
theorem Y9.stay(x:Y9 P w H h a o)(k:∀b u,(b=a\/H b=some (.own a)) ->h.get? b=some u ->h'.get? b=some u)
   (ho:∀b,H b=some (.own a) ->H' b=some (.own a)) (ht:∀b xs,H b=some (.tup xs) ->H' b=some (.tup xs)):Y9 P w H' h' a o:=by
 induction o with
 |lst xs=>obtain⟨z,its,n,r,e⟩:=x;exact⟨z,its,n,r,k _ _ (.inl rfl) e⟩
 |tup xs=>obtain⟨z,its,r,ob,e,c⟩:=x;exact⟨z,its,r,ob,k _ _ (.inl rfl) e,c⟩
 |dK kvs=>obtain⟨z,y,vs,r,ob,es,ep,e,c⟩:=x;exact⟨z,y,vs,r,ob,es,ep,k _ _ (.inl rfl) e,c⟩
 | dT kvs=>
   obtain⟨z,y,xs,r,ob,es,ep,e,c⟩:=x
   exact⟨z,y,xs,Paired.mapP r fun p q z=>⟨z.1,ht _ _ z.2.1,z.2.2⟩,ob,es,ep,k _ _ (.inl rfl) e,c⟩
 |set S n=>obtain⟨ob,es,ep,t,e,c⟩:=x;exact⟨ob,es,ep,t,k _ _ (.inl rfl) e,c⟩
 | ins C dx fs=>
   obtain⟨d,z,ne,e,mA,⟨od,es,ep,e2,c⟩,r⟩:=x
   exact⟨ho _ d,z,ne,k _ _ (.inl rfl) e,mA,⟨od,es,ep,k _ _ (.inr d) e2,c⟩,r⟩
 |own y=>obtain⟨ob,e⟩:=x;exact⟨ob,k _ _ (.inl rfl) e⟩
 |xd fs=>obtain⟨mA,⟨od,es,ep,e,c⟩,r⟩:=x;exact⟨mA,⟨od,es,ep,k _ _ (.inl rfl) e,c⟩,r⟩
 |rng lo hi=>obtain⟨t,u,v,e⟩:=x;exact⟨t,u,v,k _ _ (.inl rfl) e⟩
 |frz ob u ih=>obtain⟨e,q⟩:=x;exact⟨k _ _ (.inl rfl) e,ih q⟩
 | tbl ps=>
   have e:h.get? a=some {cls:= .none,data:= .fields ps}:=x
   show h'.get? a=some {cls:= .none,data:= .fields ps}
   exact k a _ (.inl rfl) e
 | met f y=>
   have e:h.get? a=some (PySem.W.methodObj (.ref f) (.ref y)):=x
   show h'.get? a=some (PySem.W.methodObj (.ref f) (.ref y))
   exact k a _ (.inl rfl) e
 |ext φ=>obtain⟨p,⟨o,e⟩,st⟩:=x;exact⟨st _ _ p fun o q=>k _ _ (.inl rfl) q,⟨o,k _ _ (.inl rfl) e⟩,st⟩
theorem HOk.lt(x:HOk P w H h)(e:H a=some o):a<h.objs.size:=(x a o e).lt
theorem HOk.fresh(x:HOk P w H h)(e:h.objs.size<=a):H a=none:=by
 cases q:H a with
 |none=>rfl
 |some u=>exact absurd (Nat.lt_of_lt_of_le (x.lt q) e) (Nat.lt_irrefl _)
theorem HOk.kept(x:HOk P w H h)(k:∀b u,h.get? b=some u ->h'.get? b=some u):HOk P w H h':=fun a o e=>
 (x a o e).stay (fun b u _ q=>k b u q) (fun _ q=>q) fun _ _ q=>q
theorem HOk.laid(x:HOk P w H h)(k:∀b u,h.get? b=some u ->h'.get? b=some u)(hp:h.objs.size<=a)(new:Y9 P w (upd H a o) h' a o):HOk P w (upd H a o) h':=fun b u e=>by
 have hn:=x.fresh hp
 by_cases hb:b=a
 . subst hb;rw[A6] at e;cases e;exact new
 . rw[C9 hb] at e
   exact(x b u e).stay (fun c v _ q=>k c v q) (fun c q=>by rw[C9 (D8 q hn)];exact q) fun c xs q=>by rw[C9 (D8 q hn)];exact q
end
noncomputable def Rd (H:Hp) (a:Addr) (u:HO):Prop:=H a=some u\/∃o,H a=some (.frz o u)
theorem Rd.ok{P:Program}{w:World}{H:Hp}{h:Heap}{a:Addr}{u:HO}(r:Rd H a u)(x:HOk P w H h):Y9 P w H h a u:=by
 rcases r with r|⟨o,r⟩
 . exact x a u r
 obtain⟨_,q⟩:=x a _ r
 exact q
noncomputable def Mut:Option HO ->Prop
 |some (.lst _)=>True
 |some (.dK _)=>True
 |some (.dT _)=>True
 |some (.set _ _)=>True
 |some (.ins _ _ _)=>True
 |some (.ext _)=>True
 |_=>False
section
variable{P:Program}{w:World}{H:Hp}{h h':Heap}{x e:Addr}{o':HO}
theorem HOk.write(ok:HOk P w H h)(mu:Mut (H x))(he:e=x\/H e=some (.own x))(k:∀b u,b≠e ->h.get? b=some u ->h'.get? b=some u)(heo:∃u,h'.get? e=some u)
   (new:Y9 P w (upd H x o') h' x o'):HOk P w (upd H x o') h':=fun b u q=>by
 have nown:∀c y,H c=some (.own y) ->c≠x:=fun c y r z=>by subst z;rw[r] at mu;exact mu
 have ntup:∀c xs,H c=some (.tup xs) ->c≠x:=fun c xs r z=>by subst z;rw[r] at mu;exact mu
 by_cases hb:b=x
 . subst hb;rw[A6] at q;cases q;exact new
 . rw[C9 hb] at q
   by_cases hbe:b=e
   . have q':H b=some (.own x):=by
       rcases he with z|z
       . exact absurd (hbe.trans z) hb
       . rw[hbe];exact z
     rw[q] at q';cases q'
     obtain⟨v,hv⟩:=heo
     exact⟨v,by rw[hbe];exact hv⟩
   . refine(ok b u q).stay (fun c v hc r=>k c v ?_ r) (fun c r=>by rw[C9 (nown c b r)];exact r) fun c xs r=>by rw[C9 (ntup c xs r)];exact r
     rcases hc with rfl|hc
     . exact hbe
     . rintro rfl
       rcases he with z|z
       . exact nown c b hc z
       . rw[hc] at z;cases z;exact hb rfl
end
structure Un(fs ex:List Addr)(H H':Hp)(h h':Heap):Prop where
 keep:∀b o,h.get? b=some o ->H b=none ->b ∉ fs ->b ∉ ex ->h'.get? b=some o
 slot:∀b o,h.get? b=some o ->H b=none ->b∈fs ->b ∉ ex ->∃sl,h'.get? b=some {o with slots:=sl}
 free:∀b o,h.get? b=some o ->H b=none ->b ∉ ex ->H' b=none
 there:∀b o,h.get? b=some o ->b ∉ ex ->∃o',h'.get? b=some o'
 tups:∀b xs,H b=some (.tup xs) ->H' b=some (.tup xs)
 frzs:∀b o u,H b=some (.frz o u) ->H' b=some (.frz o u)
 tbls:∀b ps,H b=some (.tbl ps) ->∃more,H' b=some (.tbl (ps++more))
section
variable{fs fs' ex ex':List Addr}{H H1 H2:Hp}{h h1 h2 h':Heap}{a x e:Addr}{o:HO}
theorem Un.any(u:Un fs ex H H1 h h1){b:Addr}{ob:Obj}(q:h.get? b=some ob)(n:H b=none)(hx:b ∉ ex):∃sl,h1.get? b=some {ob with slots:=sl}:=by
 by_cases hb:b∈fs
 . exact u.slot b ob q n hb hx
 exact⟨ob.slots,u.keep b ob q n hb hx⟩
theorem Un.kept(k:∀b u,h.get? b=some u ->h'.get? b=some u):Un fs ex H H h h':=
 ⟨fun b ob q _ _ _=>k b ob q,fun b ob q _ _ _=>⟨ob.slots,k b ob q⟩,fun _ _ _ n _=>n,fun b ob q _=>⟨ob,k b ob q⟩,fun _ _ q=>q,fun _ _ _ q=>q,fun _ ps q=>⟨#[],by rw[q];simp⟩⟩
theorem Un.refl:Un fs ex H H h h:=Un.kept fun _ _ q=>q
theorem Un.laid(k:∀b u,h.get? b=some u ->h'.get? b=some u)(hp:h.objs.size<=a)(hn:H a=none):Un fs ex H (upd H a o) h h' where
 keep:=fun b u q _ _ _=>k b u q
 slot:=fun b u q _ _ _=>⟨u.slots,k b u q⟩
 free:=fun b u q n _=>by rw[C9 (Nat.ne_of_lt (Nat.lt_of_lt_of_le (Heap.lt_size q) hp))];exact n
 there:=fun b u q _=>⟨u,k b u q⟩
 tups:=fun b xs q=>by rw[C9 (D8 q hn)];exact q
 frzs:=fun b u xs q=>by rw[C9 (D8 q hn)];exact q
 tbls:=fun b ps q=>⟨#[],by rw[C9 (D8 q hn),q];simp⟩
theorem Un.write(mu:Mut (H x))(he:e=x\/H e=some (.own x))(k:∀b u,b≠e ->h.get? b=some u ->h'.get? b=some u)(heo:∃u,h'.get? e=some u):Un fs ex H (upd H x o) h h':=by
 have hx:∀b,H b=none ->b≠x:=fun b n z=>by subst z;rw[n] at mu;exact mu
 have hb:∀b,H b=none ->b≠e:=fun b n z=>by
   subst z
   rcases he with r|r
   . exact hx b n r
   . rw[n] at r;cases r
 have hm:∀b u,H b=some u ->¬Mut (some u) ->b≠x:=fun b u q nm z=>by subst z;rw[q] at mu;exact nm mu
 refine⟨fun b u q n _ _=>k b u (hb b n) q,fun b u q n _ _=>⟨u.slots,k b u (hb b n) q⟩,fun b u q n _=>by rw[C9 (hx b n)];exact n,fun b u q _=>?_,
   fun b xs q=>by rw[C9 (hm b _ q fun z=>z)];exact q,fun b u xs q=>by rw[C9 (hm b _ q fun z=>z)];exact q,fun b ps q=>⟨#[],by rw[C9 (hm b _ q fun z=>z),q];simp⟩⟩
 by_cases hbe:b=e
 . subst hbe;exact heo
 exact⟨u,k b u hbe q⟩
end
noncomputable def trk (h:Heap) (H:Hp):List Addr:=(List.range h.objs.size).filter fun a=>(H a).isSome
noncomputable def B5k (h:Heap) (H:Hp):Heap:=PySem.W.hideAll h (trk h H)
theorem C4y(h:Heap)(H:Hp):(B5k h H).objs.size=h.objs.size:=PySem.W.hideAll_size _ _
theorem D1e{h:Heap}{H:Hp}{b:Addr}{o:Obj}(e:h.get? b=some o)(n:H b=none):(B5k h H).get? b=some o:=
 PySem.W.hideAll_get _ e fun hm=>by
   have q:(H b).isSome=true:=(List.mem_filter.mp hm).2
   rw[n] at q;simp at q
theorem D6j{h:Heap}{H:Hp}{b:Addr}{o:Obj}(e:(B5k h H).get? b=some o):h.get? b=some o/\H b=none:=by
 have e':h.get? b=some o:=PySem.W.of_hideAll (trk h H) e
 refine⟨e',?_⟩
 cases q:H b with
 |none=>rfl
 | some x=>
   have hm:b∈trk h H:=List.mem_filter.mpr ⟨List.mem_range.mpr (Heap.lt_size e'),by simp[q]⟩
   have z:(B5k h H).get? b=none:=PySem.W.hideAll_none (trk h H) hm
   rw[z] at e;cases e
structure Mod(K:PySem.W.Frag)(mg:Str ->Option Value)(base:Heap):Prop where
 kin:K.In base
 glob:base.Ns mainGlobals mg
 blt:∃mb,base.Ns builtinsNs mb/\∀x:Str,x≠"__name__" ->mb x=bootBuiltins x
 nolimit:base.NoLimit
structure Cx where
 prog:Program
 w:World
 K:PySem.W.Frag
 mg:Str ->Option Value
 base:Heap
 A:Around
 N:List Str
 s₀:Shared
 H₀:Hp
 env:Env
 outer:List Env
 stack:List Env
 ex:List Addr
 fn:Str ->Bool
 calm:Bool
 pn:List (Addr×Obj)
 xe:Value ->Shared ->Prop
noncomputable def frs (l:List Env):List Addr:=l.filterMap (·.frame)
noncomputable abbrev Cx.fs (X:Cx):List Addr:=frs X.outer
noncomputable def Vis (sc:Scope) (x:Str):Prop:=sc.names.lookup x=some .local\/sc.names.lookup x=some .cell\/sc.names.lookup x=some .free
noncomputable def Loc (sc:Scope) (x:Str):Prop:=sc.names.lookup x=some .local\/sc.names.lookup x=some .cell
noncomputable def G8k (env:Env) (h:Heap) (m:Str ->Option Value) (x:Str) (u:Value):Prop:=
 (env.kindOf x=some .local/\m x=some u)\/((env.kindOf x=some .cell\/env.kindOf x=some .free)/\∃c,env.cells.lookup x=some c/\h.IsCell c (some u))
structure Cx.Ok(X:Cx):Prop where
 mod:Mod X.K X.mg X.base
 kind:X.env.scope.kind= .function
 glob:X.env.globals=mainGlobals
 blt:X.env.builtins=builtinsNs
 above:X.s₀.heap.objs.size<=X.env.locals
 inj:∀x y c,X.env.cells.lookup x=some c ->X.env.cells.lookup y=some c ->x=y
 has:∀x,(X.env.kindOf x=some .cell\/X.env.kindOf x=some .free) ->∃c,X.env.cells.lookup x=some c
 cab:∀x c,X.fn x=true ->X.env.cells.lookup x=some c ->X.s₀.heap.objs.size<=c
 hd:X.calm=true ->X.A.handled=none
 frames:X.A.frames=some X.stack
 stk:X.stack=X.outer\/(X.stack=X.env::X.outer/\X.env.frame=some X.env.locals)
 exf:∀b∈X.ex,b≠X.env.locals/\∀x c,X.env.cells.lookup x=some c ->c≠b
 bs:∀b o,X.base.get? b=some o ->X.s₀.heap.get? b=some o/\X.H₀ b=none
 bsz:X.base.objs.size<=X.s₀.heap.objs.size
 noex:∀b o,X.base.get? b=some o ->b ∉ X.ex
 exfs:∀b∈X.ex,b ∉ X.fs
 funs:X.s₀.heap.FunFrames X.base X.outer
 frf:∀b∈X.fs,X.H₀ b=none
structure Inv(X:Cx)(pins:List (Addr×Obj))(σ:List (Option V))(H:Hp)(s:Shared):Prop where
 ok:X.Ok
 os:s.os=X.s₀.os
 bare:AllBare s.gens
 base:Un X.fs X.ex X.H₀ H X.s₀.heap s.heap
 loc:∃m,s.heap.Ns X.env.locals m/\∀(i:Nat) (x:Str) (v:V),X.N[i]?=some x ->σ[i]?=some (some v) ->Vis X.env.scope x ->∃u,U9 v u/\G8k X.env s.heap m x u
 cell:∀x c,X.env.cells.lookup x=some c ->∃v,s.heap.IsCell c v
 free:H X.env.locals=none
 freeC:∀x c,X.env.cells.lookup x=some c ->H c=none
 pin:∀p∈X.pn++pins,s.heap.get? p.1=some p.2/\H p.1=none/\p.1≠X.env.locals/\p.1 ∉ X.fs/\∀v,p.2.data≠ .cell v
 hok:HOk X.prog X.w H s.heap
 len:σ.length=X.N.length
section
variable{X:Cx}{pins:List (Addr×Obj)}{σ:List (Option V)}{H H':Hp}{s:Shared}{h':Heap}
theorem Cx.Ok.nofr(ok:X.Ok){b:Addr}{o:Obj}(e:X.base.get? b=some o):b ∉ X.fs:=fun hb=>by
 have:=(ok.funs.mem hb).1
 rw[e] at this;cases this
theorem Inv.bs(I:Inv X pins σ H s):∀b o,X.base.get? b=some o ->s.heap.get? b=some o/\H b=none:=fun b o e=>
 ⟨I.base.keep b o (I.ok.bs b o e).1 (I.ok.bs b o e).2 (I.ok.nofr e) (I.ok.noex b o e),I.base.free b o (I.ok.bs b o e).1 (I.ok.bs b o e).2 (I.ok.noex b o e)⟩
theorem Inv.bk(I:Inv X pins σ H s):∀b o,X.base.get? b=some o ->s.heap.get? b=some o:=fun b o e=>(I.bs b o e).1
theorem Inv.mod(I:Inv X pins σ H s):Mod X.K X.mg X.base:=I.ok.mod
theorem Inv.kIn(I:Inv X pins σ H s):X.K.In s.heap:=I.ok.mod.kin.keeps I.bk
theorem Inv.lt(I:Inv X pins σ H s):X.env.locals<s.heap.objs.size:=let⟨_,hn,_⟩:=I.loc;hn.lt
theorem Inv.sz(I:Inv X pins σ H s):X.s₀.heap.objs.size<=s.heap.objs.size:=Nat.le_trans I.ok.above (Nat.le_of_lt I.lt)
theorem Inv.nofs(I:Inv X pins σ H s){a:Addr}(h:s.heap.objs.size<=a):a ∉ X.fs:=fun hb=>by
 obtain⟨_,o,ho,_⟩:=I.ok.funs.mem hb
 exact absurd (Nat.lt_of_lt_of_le (Heap.lt_size ho) (Nat.le_trans I.sz h)) (Nat.lt_irrefl _)
theorem Inv.cne(I:Inv X pins σ H s):∀x c,X.env.cells.lookup x=some c ->c≠X.env.locals:=fun x c e z=>by
 obtain⟨v,o,ho,hd⟩:=I.cell x c e
 obtain⟨m,⟨o',es,ep,ho',hd',_⟩,_⟩:=I.loc
 rw[z,ho'] at ho;cases ho;rw[hd'] at hd;cases hd
theorem Inv.funs(I:Inv X pins σ H s):s.heap.FunFrames X.base X.outer:=by
 have all:∀(l:List Env),(∀b∈frs l,b∈X.fs) ->X.s₀.heap.FunFrames X.base l ->s.heap.FunFrames X.base l:=by
   intro l
   induction l with
   |nil=>intro _ _;trivial
   | cons env r ih=>
     intro hs hl
     obtain⟨hk,⟨L,o,hf,hn,ho,hd⟩,hr⟩:=hl
     have hL:L∈X.fs:=hs L (by unfold frs;rw[List.filterMap_cons,hf];exact List.mem_cons_self)
     obtain⟨sl,e⟩:=I.base.slot L o ho (I.ok.frf L hL) hL fun z=>I.ok.exfs L z hL
     exact⟨hk,⟨L,_,hf,hn,e,hd⟩,ih (fun b hb=>hs b (by unfold frs;rw[List.filterMap_cons,hf];exact List.mem_cons_of_mem _ hb)) hr⟩
 exact all X.outer (fun _ hb=>hb) I.ok.funs
theorem Inv.stack(I:Inv X pins σ H s):s.heap.FunFrames X.base X.stack:=by
 rcases I.ok.stk with e|⟨e,hf⟩
 . rw[e];exact I.funs
 rw[e]
 obtain⟨m,hn,_⟩:=I.loc
 refine .cons (by rw[I.ok.kind];decide) hf hn ?_ I.funs
 exact Heap.get?_none_of_le (Nat.le_trans I.ok.bsz I.ok.above)
theorem Inv.stkSub(I:Inv X pins σ H s):∀b∈frs X.stack,b∈X.env.locals::X.fs:=fun b hb=>by
 rcases I.ok.stk with e|⟨e,hf⟩
 . rw[e] at hb;exact List.mem_cons_of_mem _ hb
 . rw[e] at hb
   unfold frs at hb
   rw[List.filterMap_cons,hf] at hb
   exact hb
theorem Inv.stkFree(I:Inv X pins σ H s):∀b∈frs X.stack,H b=none:=fun b hb=>by
 rcases List.mem_cons.mp (I.stkSub b hb) with e|hb
 . rw[e];exact I.free
 . obtain⟨_,o,ho,_⟩:=I.ok.funs.mem hb
   exact I.base.free b o ho (I.ok.frf b hb) fun z=>I.ok.exfs b z hb
theorem Inv.step{g':Array GenState}{t':Nat}{d':Drawn}{ch:List Addr}(I:Inv X pins σ H s)
   (hch:∀b∈ch,(b∈X.ex\/X.s₀.heap.objs.size<=b)/\b≠X.env.locals/\(∀x c,X.env.cells.lookup x=some c ->c≠b)/\∀p∈X.pn++pins,p.1≠b)
   (keep:∀b o,b≠X.env.locals ->b ∉ X.fs ->b ∉ ch ->s.heap.get? b=some o ->H b=none ->h'.get? b=some o)
   (slot:∀b o,b≠X.env.locals ->b∈X.fs ->b ∉ ch ->s.heap.get? b=some o ->H b=none ->∃sl,h'.get? b=some {o with slots:=sl}) (free:∀b o,b ∉ ch ->s.heap.get? b=some o ->H b=none ->H' b=none)
   (there:∀b o,b ∉ ch ->s.heap.get? b=some o ->∃o',h'.get? b=some o')
   (tups:∀b xs,H b=some (.tup xs) ->H' b=some (.tup xs)) (frzs:∀b o u,H b=some (.frz o u) ->H' b=some (.frz o u)) (tbls:∀b ps,H b=some (.tbl ps) ->∃more,H' b=some (.tbl (ps++more)))
   (ns:∀m,s.heap.Ns X.env.locals m ->h'.Ns X.env.locals m) (hok:HOk X.prog X.w H' h') (hg:AllBare g'):
   Inv X pins σ H' {s with heap:=h',gens:=g',drawn:=d',toks:=t'}:=by
 have neL:∀b o,X.s₀.heap.get? b=some o ->b≠X.env.locals:=fun b o e=>Nat.ne_of_lt (Nat.lt_of_lt_of_le (Heap.lt_size e) I.ok.above)
 have neC:∀b o,X.s₀.heap.get? b=some o ->b ∉ X.ex ->b ∉ ch:=fun b o e hx hb=>by
   rcases(hch b hb).1 with z|z
   . exact hx z
   . exact absurd (Nat.lt_of_lt_of_le (Heap.lt_size e) z) (Nat.lt_irrefl _)
 have cellK:∀x c,X.env.cells.lookup x=some c ->∀v,s.heap.IsCell c v ->h'.IsCell c v:=fun x c e v ⟨o,ho,hd⟩=>by
   have nch:c ∉ ch:=fun z=>(hch c z).2.2.1 x c e rfl
   by_cases hc:c∈X.fs
   . obtain⟨sl,q⟩:=slot c o (I.cne x c e) hc nch ho (I.freeC x c e)
     exact⟨_,q,hd⟩
   . exact⟨o,keep c o (I.cne x c e) hc nch ho (I.freeC x c e),hd⟩
 refine⟨I.ok,I.os,hg,⟨fun b o e n hb hx=>?_,fun b o e n hb hx=>?_,fun b o e n hx=>?_,fun b o e hx=>?_,fun b xs e=>tups b xs (I.base.tups b xs e),fun b o xs e=>frzs b o xs (I.base.frzs b o xs e),fun b ps e=>?_⟩,?_,fun x c e=>?_,?_,fun x c e=>?_,fun p hp=>?_,hok,I.len⟩
 . exact keep b o (neL b o e) hb (neC b o e hx) (I.base.keep b o e n hb hx) (I.base.free b o e n hx)
 . obtain⟨sl,e1⟩:=I.base.slot b o e n hb hx
   obtain⟨sl',e2⟩:=slot b _ (neL b o e) hb (neC b o e hx) e1 (I.base.free b o e n hx)
   exact⟨sl',e2⟩
 . obtain⟨o',e1⟩:=I.base.there b o e hx
   exact free b o' (neC b o e hx) e1 (I.base.free b o e n hx)
 . obtain⟨o',e1⟩:=I.base.there b o e hx
   exact there b o' (neC b o e hx) e1
 . obtain⟨m1,e1⟩:=I.base.tbls b ps e
   obtain⟨m2,e2⟩:=tbls b _ e1
   exact⟨m1++m2,by rw[e2,Array.append_assoc]⟩
 . obtain⟨m,hn,hl⟩:=I.loc
   refine⟨m,ns m hn,fun i x v e1 e2 e3=>?_⟩
   obtain⟨u,r,l⟩:=hl i x v e1 e2 e3
   refine⟨u,r,?_⟩
   rcases l with l|⟨k,c,e,z⟩
   . exact .inl l
   . exact .inr ⟨k,c,e,cellK x c e _ z⟩
 . obtain⟨v,z⟩:=I.cell x c e
   exact⟨v,cellK x c e v z⟩
 . obtain⟨m,⟨o,_,_,ho,_⟩,_⟩:=I.loc
   exact free _ o (fun z=>(hch _ z).2.1 rfl) ho I.free
 . obtain⟨v,o,ho,hd⟩:=I.cell x c e
   exact free c o (fun z=>(hch c z).2.2.1 x c e rfl) ho (I.freeC x c e)
 obtain⟨e,n,ne,nf,d⟩:=I.pin p hp
 have nch:p.1 ∉ ch:=fun z=>(hch p.1 z).2.2.2 p hp rfl
 exact⟨keep p.1 p.2 ne nf nch e n,free p.1 p.2 nch e n,ne,nf,d⟩
theorem Inv.un{t':Nat}(I:Inv X pins σ H s)(u:Un X.fs [] H H' s.heap h')(hok:HOk X.prog X.w H' h'):Inv X pins σ H' {s with heap:=h',toks:=t'}:=by
 obtain⟨m,⟨o,es,ep,ho,r⟩,_⟩:=id I.loc
 obtain⟨sl,hL⟩:=u.any ho I.free (by simp)
 exact I.step (g':=s.gens) (d':=s.drawn) (ch:=[]) (fun _ z=>nomatch z) (fun b o _ hb _ e n=>u.keep b o e n hb (by simp)) (fun b o _ hb _ e n=>u.slot b o e n hb (by simp)) (fun b o _ e n=>u.free b o e n (by simp)) (fun b o _ e=>u.there b o e (by simp)) u.tups u.frzs u.tbls (fun m' hm=>by
   obtain⟨o',es',ep',ho',r'⟩:=hm
   rw[ho] at ho';cases ho'
   exact⟨_,es',ep',hL,r'⟩) hok I.bare
theorem Inv.call{g':Array GenState}{t':Nat}{d':Drawn}{ch:List Addr}(I:Inv X pins σ H s)(u:Un (frs X.stack) ch H H' s.heap h')(hok:HOk X.prog X.w H' h')(hg:AllBare g')
   (hch:∀b∈ch,(b∈X.ex\/X.s₀.heap.objs.size<=b)/\b≠X.env.locals/\(∀x c,X.env.cells.lookup x=some c ->c≠b)/\∀p∈X.pn++pins,p.1≠b):
   Inv X pins σ H' {s with heap:=h',gens:=g',drawn:=d',toks:=t'}:=by
 obtain⟨m,⟨o,es,ep,ho,r⟩,_⟩:=id I.loc
 obtain⟨sl,hL⟩:=u.any ho I.free fun z=>(hch _ z).2.1 rfl
 exact I.step (ch:=ch) hch (fun b o hL hb hc e n=>u.keep b o e n (fun z=>(List.mem_cons.mp (I.stkSub b z)).elim hL hb) hc) (fun b o _ _ hc e n=>u.any e n hc) (fun b o hc e n=>u.free b o e n hc) (fun b o hc e=>u.there b o e hc) u.tups u.frzs u.tbls (fun m' hm=>by
   obtain⟨o',es',ep',ho',r'⟩:=hm
   rw[ho] at ho';cases ho'
   exact⟨_,es',ep',hL,r'⟩) hok hg
theorem Inv.turned{t':Nat}{it:Addr}(I:Inv X pins σ H s)(k:∀b o,b≠it ->s.heap.get? b=some o ->h'.get? b=some o)(hn:H it=none)(hL:it≠X.env.locals)
   (h1:it∈X.ex\/X.s₀.heap.objs.size<=it) (h2:∀x c,X.env.cells.lookup x=some c ->c≠it) (h3:∀p∈X.pn++pins,p.1≠it):Inv X pins σ H {s with heap:=h',toks:=t'}:=by
 have nit:∀b u,H b=some u ->b≠it:=fun b u e z=>by rw[z,hn] at e;cases e
 refine I.step (g':=s.gens) (d':=s.drawn) (ch:=[it]) (fun b hb=>?_) (fun b o _ _ hc e _=>k b o (fun z=>hc (by simp[z])) e) (fun b o _ _ hc e _=>⟨o.slots,k b o (fun z=>hc (by simp[z])) e⟩) (fun _ _ _ _ n=>n)
   (fun b o hc e=>⟨o,k b o (fun z=>hc (by simp[z])) e⟩) (fun _ _ e=>e) (fun _ _ _ e=>e) (fun b ps e=>⟨#[],by rw[e];simp⟩) (fun m hm=>?_) (fun b u e=>?_) I.bare
 . have e:b=it:=by simpa using hb
   subst e
   exact⟨h1,hL,h2,h3⟩
 . obtain⟨o,es,ep,ho,r⟩:=hm
   exact⟨o,es,ep,k _ o (Ne.symm hL) ho,r⟩
 refine(I.hok b u e).stay (fun c v hc q=>k c v ?_ q) (fun _ q=>q) fun _ _ q=>q
 rcases hc with z|z
 . rw[z];exact nit b u e
 exact nit c _ z
theorem Inv.tok(I:Inv X pins σ H s)(t:Nat):Inv X pins σ H {s with toks:=t}:=I.un (h':=s.heap) (t':=t) Un.refl I.hok
theorem Inv.kept{t':Nat}(I:Inv X pins σ H s)(k:∀b u,s.heap.get? b=some u ->h'.get? b=some u):Inv X pins σ H {s with heap:=h',toks:=t'}:=I.un (Un.kept k) (I.hok.kept k)
theorem Inv.laid{a:Addr}{o:HO}{t':Nat}(I:Inv X pins σ H s)(k:∀b u,s.heap.get? b=some u ->h'.get? b=some u)(hp:s.heap.objs.size<=a)(new:Y9 X.prog X.w (upd H a o) h' a o):
   Inv X pins σ (upd H a o) {s with heap:=h',toks:=t'}:=I.un (Un.laid k hp (I.hok.fresh hp)) (I.hok.laid k hp new)
theorem Inv.write{x e:Addr}{o:HO}{t':Nat}(I:Inv X pins σ H s)(mu:Mut (H x))(he:e=x\/H e=some (.own x))(k:∀b u,b≠e ->s.heap.get? b=some u ->h'.get? b=some u)(heo:∃u,h'.get? e=some u)
   (new:Y9 X.prog X.w (upd H x o) h' x o):Inv X pins σ (upd H x o) {s with heap:=h',toks:=t'}:=I.un (Un.write mu he k heo) (I.hok.write mu he k heo new)
theorem Inv.weak{σ':List (Option V)}(I:Inv X pins σ H s)(hl:σ'.length=σ.length)(w:∀(i:Nat) v,σ'[i]?=some (some v) ->σ[i]?=some (some v)):Inv X pins σ' H s:=
 ⟨I.ok,I.os,I.bare,I.base,let⟨m,hn,hl'⟩:=I.loc;⟨m,hn,fun i x v e1 e2 e3=>hl' i x v e1 (w i v e2) e3⟩,I.cell,I.free,I.freeC,I.pin,I.hok,hl.trans I.len⟩
theorem Inv.pins_of{pins':List (Addr×Obj)}(I:Inv X pins σ H s)(h:∀p∈pins',s.heap.get? p.1=some p.2/\H p.1=none/\p.1≠X.env.locals/\p.1 ∉ X.fs/\∀v,p.2.data≠ .cell v):Inv X pins' σ H s:=
 ⟨I.ok,I.os,I.bare,I.base,I.loc,I.cell,I.free,I.freeC,fun p hp=>(List.mem_append.mp hp).elim (fun z=>I.pin p (List.mem_append_left _ z)) (h p),I.hok,I.len⟩
theorem B1a{N:List Str}(hN:N.Nodup){i j:Nat}{x:Str}(a:N[i]?=some x)(b:N[j]?=some x):i=j:=by
 obtain⟨h1,e1⟩:=List.getElem?_eq_some_iff.mp a
 obtain⟨h2,e2⟩:=List.getElem?_eq_some_iff.mp b
 exact(List.getElem_inj hN).mp (e1.trans e2.symm)
theorem A8e{M:Model}{A:Around}{E:Value ->Shared ->Prop}{i:Nat}{x:Str}{v:V}{u:Value}{Q:Unit ->Shared ->Prop}(I:Inv X pins σ H s)(hN:X.N.Nodup)(hi:X.N[i]?=some x)(hx:Loc X.env.scope x)(r:U9 v u)
   (h:∀s',Inv X pins (σ.set i (some v)) H s' ->(∃a,Heap.SameBut a s.heap s'.heap/\(a=X.env.locals\/X.env.cells.lookup x=some a)) ->Q () s') (hf:X.fn x=true\/X.env.scope.names.lookup x=some .local:=by first|exact .inl rfl|exact .inr rfl|assumption):wpAny M A (storeName X.env x u) Q E s:=by
 obtain⟨m,hn,hl⟩:=id I.loc
 have hcls:(X.env.scope.kind== .class||(X.env.scope.kind== .module&&X.env.locals !=X.env.globals))=false:=by rw[I.ok.kind];rfl
 have hiσ:i<σ.length:=by rw[I.len];exact(List.getElem?_eq_some_iff.mp hi).1
 have cne:=I.cne
 have tracked:∀{a:Addr} {h':Heap},(∃o,s.heap.get? a=some o/\H a=none) ->Heap.SameBut a s.heap h' ->HOk X.prog X.w H h':=fun{a h'} ha hs b ob e=>by
   obtain⟨_,_,hfree⟩:=ha
   refine(I.hok b ob e).stay (fun c w' hc q=>(hs.2 c ?_).trans q) (fun _ q=>q) fun _ _ q=>q
   rintro rfl
   rcases hc with rfl|hc
   . rw[hfree] at e;cases e
   . rw[hfree] at hc;cases hc
 rcases hx with hk|hk
 . refine wpAny_storeName_local hk hn (fun h' hn' hs=>?_) hcls
   obtain⟨oL,_,_,hoL,_⟩:=id hn
   refine h _ ⟨I.ok,I.os,I.bare,⟨fun b o e n hb hx=>?_,fun b o e n hb hx=>?_,I.base.free,fun b o e hx=>?_,I.base.tups,I.base.frzs,I.base.tbls⟩,⟨_,hn',fun j y v' e1 e2 e3=>?_⟩,fun y c e=>?_,I.free,I.freeC,fun p hp=>?_,tracked ⟨oL,hoL,I.free⟩ hs,by simpa using I.len⟩ ⟨_,hs,.inl rfl⟩
   . exact(hs.2 b (Nat.ne_of_lt (Nat.lt_of_lt_of_le (Heap.lt_size e) I.ok.above))).trans (I.base.keep b o e n hb hx)
   . obtain⟨sl,e1⟩:=I.base.slot b o e n hb hx
     exact⟨sl,(hs.2 b (Nat.ne_of_lt (Nat.lt_of_lt_of_le (Heap.lt_size e) I.ok.above))).trans e1⟩
   . obtain⟨o',e1⟩:=I.base.there b o e hx
     exact⟨o',(hs.2 b (Nat.ne_of_lt (Nat.lt_of_lt_of_le (Heap.lt_size e) I.ok.above))).trans e1⟩
   . by_cases hj:j=i
     . subst hj
       rw[hi] at e1;cases e1
       rw[List.getElem?_set_self hiσ] at e2
       cases e2
       exact⟨u,r,.inl ⟨hk,by simp⟩⟩
     . rw[List.getElem?_set_ne (Ne.symm hj)] at e2
       obtain⟨u',r',q⟩:=hl j y v' e1 e2 e3
       refine⟨u',r',?_⟩
       rcases q with⟨k,e⟩|⟨k,c,e,z⟩
       . refine .inl ⟨k,?_⟩
         have:y≠x:=fun e=>hj (B1a hN e1 (e▸hi))
         simp[this,e]
       . exact .inr ⟨k,c,e,z.sameBut hs (cne y c e)⟩
   . obtain⟨w',z⟩:=I.cell y c e
     exact⟨w',z.sameBut hs (cne y c e)⟩
   . obtain⟨e,n,ne,nf,d⟩:=I.pin p hp
     exact⟨(hs.2 p.1 ne).trans e,n,ne,nf,d⟩
 have hfn:X.fn x=true:=by
   rcases hf with z|z
   . exact z
   . rw[z] at hk;cases hk
 obtain⟨c,hc⟩:=I.ok.has x (.inl hk)
 obtain⟨w',z⟩:=I.cell x c hc
 refine wpAny_storeName_cell I.ok.kind hk hc z (fun h' hc' hs=>?_)
 obtain⟨oc,hoc,hocd⟩:=id z
 refine h {s with heap:=h'} ⟨I.ok,I.os,I.bare,⟨fun b o e n hb hx=>?_,fun b o e n hb hx=>?_,I.base.free,fun b o e hx=>?_,I.base.tups,I.base.frzs,I.base.tbls⟩,⟨m,hn.sameBut hs (Ne.symm (cne x c hc)),fun j y v' e1 e2 e3=>?_⟩,fun y c' e=>?_,I.free,I.freeC,fun p hp=>?_,tracked ⟨oc,hoc,I.freeC x c hc⟩ hs,by simpa using I.len⟩ ⟨c,hs,.inr hc⟩
 . exact(hs.2 b (Nat.ne_of_lt (Nat.lt_of_lt_of_le (Heap.lt_size e) (I.ok.cab x c hfn hc)))).trans (I.base.keep b o e n hb hx)
 . obtain⟨sl,e1⟩:=I.base.slot b o e n hb hx
   exact⟨sl,(hs.2 b (Nat.ne_of_lt (Nat.lt_of_lt_of_le (Heap.lt_size e) (I.ok.cab x c hfn hc)))).trans e1⟩
 . obtain⟨o',e1⟩:=I.base.there b o e hx
   exact⟨o',(hs.2 b (Nat.ne_of_lt (Nat.lt_of_lt_of_le (Heap.lt_size e) (I.ok.cab x c hfn hc)))).trans e1⟩
 . by_cases hj:j=i
   . subst hj
     rw[hi] at e1;cases e1
     rw[List.getElem?_set_self hiσ] at e2
     cases e2
     exact⟨u,r,.inr ⟨.inl hk,c,hc,hc'⟩⟩
   . rw[List.getElem?_set_ne (Ne.symm hj)] at e2
     obtain⟨u',r',q⟩:=hl j y v' e1 e2 e3
     refine⟨u',r',?_⟩
     rcases q with q|⟨k,c',e,z'⟩
     . exact .inl q
     . refine .inr ⟨k,c',e,z'.sameBut hs ?_⟩
       rintro rfl
       exact hj (B1a hN e1 (I.ok.inj _ _ _ e hc▸hi))
 . by_cases hcc:c'=c
   . subst hcc;exact⟨_,hc'⟩
   . obtain⟨w2,z2⟩:=I.cell y c' e
     exact⟨w2,z2.sameBut hs hcc⟩
 obtain⟨e,n,ne,nf,d⟩:=I.pin p hp
 refine⟨(hs.2 p.1 ?_).trans e,n,ne,nf,d⟩
 intro q
 rw[q,hoc] at e
 have q':oc=p.2:=Option.some.inj e
 exact d w' (by rw[<-q'];exact hocd)
theorem A2h{M:Model}{A:Around}{E:Value ->Shared ->Prop}{i:Nat}{x:Str}{v:V}{u:Value}{Q:Unit ->Shared ->Prop}(I:Inv X pins σ H s)(hN:X.N.Nodup)(hi:X.N[i]?=some x)(hx:Loc X.env.scope x)(r:U9 v u)
   (h:∀s',Inv X pins (σ.set i (some v)) H s' ->Q () s') (hf:X.fn x=true\/X.env.scope.names.lookup x=some .local:=by first|exact .inl rfl|exact .inr rfl|assumption):wpAny M A (storeName X.env x u) Q E s:=
 A8e I hN hi hx r (fun s' I' _=>h s' I') hf
theorem Inv.call'{s':Shared}{ch:List Addr}(I:Inv X pins σ H s)(ho:s'.os=s.os)(u:Un (frs X.stack) ch H H' s.heap s'.heap)(hok:HOk X.prog X.w H' s'.heap)(hg:AllBare s'.gens)
   (hch:∀b∈ch,(b∈X.ex\/X.s₀.heap.objs.size<=b)/\b≠X.env.locals/\(∀x c,X.env.cells.lookup x=some c ->c≠b)/\∀p∈X.pn++pins,p.1≠b):Inv X pins σ H' s':=by
 obtain⟨h',g',d',t',o'⟩:=s'
 have e:o'=s.os:=ho
 subst e
 exact I.call (g':=g') (t':=t') (d':=d') u hok hg hch
end
noncomputable abbrev XK:=Value ->Option Addr ->Hp ->Prop
noncomputable abbrev St:=List (Option V)
noncomputable abbrev VK:=V ->Hp ->Prop
noncomputable abbrev TE:=St ->Hp ->VK ->Prop
noncomputable abbrev TT:=St ->Hp ->(Bool ->Hp ->Prop) ->Prop
noncomputable abbrev TA:=St ->Hp ->(List V ->Hp ->Prop) ->Prop
structure B3c where
 nx:St ->Hp ->Prop
 rt:VK
 bk:St ->Hp ->Prop:=fun _ _=>False
 ct:St ->Hp ->Prop:=fun _ _=>False
noncomputable abbrev TS:=B3c ->St ->Hp ->Prop
noncomputable def EP (X:Cx) (pins:List (Addr×Obj)) (σ:St) (Q:VK) (u:Value) (s':Shared):Prop:=∃v H',Inv X pins σ H' s'/\U9 v u/\Q v H'
noncomputable def TP (X:Cx) (pins:List (Addr×Obj)) (σ:St) (Q:Bool ->Hp ->Prop) (b:Bool) (s':Shared):Prop:=∃H',Inv X pins σ H' s'/\Q b H'
noncomputable def AP (X:Cx) (pins:List (Addr×Obj)) (σ:St) (Q:List V ->Hp ->Prop) (us:List Value) (s':Shared):Prop:=∃vs H',Inv X pins σ H' s'/\G7 vs us/\Q vs H'
noncomputable def SP (X:Cx) (pins:List (Addr×Obj)) (D:B3c) (f:Flow) (s':Shared):Prop:=
 match f with
 | .next=>∃σ' H',Inv X pins σ' H' s'/\D.nx σ' H'
 | .brk=>∃σ' H',Inv X pins σ' H' s'/\D.bk σ' H'
 | .cont=>∃σ' H',Inv X pins σ' H' s'/\D.ct σ' H'
 | .ret u=>∃v σ' H',Inv X pins σ' H' s'/\U9 v u/\D.rt v H'
noncomputable def PE (X:Cx) (e:Expr) (t:TE):Prop:=
 ∀(pins:List (Addr×Obj)) (s:Shared) (σ:St) (H:Hp) (Q:VK),Inv X pins σ H s ->t σ H Q ->wpAny (model X.prog X.w) X.A (eval e X.env) (EP X pins σ Q) X.xe s
noncomputable def PT (X:Cx) (e:Expr) (t:TT):Prop:=
 ∀(pins:List (Addr×Obj)) (s:Shared) (σ:St) (H:Hp) (Q:Bool ->Hp ->Prop),Inv X pins σ H s ->t σ H Q ->wpAny (model X.prog X.w) X.A (isTrue e X.env (eval e X.env)) (TP X pins σ Q) X.xe s
noncomputable def PW (X:Cx) (e:Expr) (t:TT):Prop:=
 ∀(whole:Sem Value) (pins:List (Addr×Obj)) (s:Shared) (σ:St) (H:Hp) (Q:Bool ->Hp ->Prop),Inv X pins σ H s ->t σ H Q ->wpAny (model X.prog X.w) X.A (isTrue e X.env whole) (TP X pins σ Q) X.xe s
theorem PW.pt{X:Cx}{e:Expr}{t:TT}(h:PW X e t):PT X e t:=h _
noncomputable def PA (X:Cx) (es:List Expr) (t:TA):Prop:=
 ∀(pos:Pos) (pins:List (Addr×Obj)) (s:Shared) (σ:St) (H:Hp) (Q:List V ->Hp ->Prop),Inv X pins σ H s ->t σ H Q ->wpAny (model X.prog X.w) X.A (spliced (backTo pos (starEach es X.env))) (AP X pins σ Q) X.xe s
noncomputable def PS (X:Cx) (st:Stmt) (t:TS):Prop:=
 ∀(pins:List (Addr×Obj)) (s:Shared) (σ:St) (H:Hp) (D:B3c),Inv X pins σ H s ->t D σ H ->wpAny (model X.prog X.w) X.A (exec st X.env) (SP X pins D) X.xe s
noncomputable def PSs (X:Cx) (st:List Stmt) (t:TS):Prop:=
 ∀(pins:List (Addr×Obj)) (s:Shared) (σ:St) (H:Hp) (D:B3c),Inv X pins σ H s ->t D σ H ->wpAny (model X.prog X.w) X.A (execs st X.env) (SP X pins D) X.xe s
theorem thn{α:Type}{t:Sem α}{Q Q':α ->Shared ->Prop}{M:Model}{A:Around}{E:Value ->Shared ->Prop}{s:Shared}(h:wpAny M A t Q E s)(hQ:∀a s,Q a s ->Q' a s):wpAny M A t Q' E s:=wpAny_mono h hQ fun _ _ x=>x
section
variable{X:Cx}
noncomputable def G6w (i:Nat):TE:=fun σ H Q=>∃v,σ[i]?=some (some v)/\Q v H
noncomputable def tC (v:V):TE:=fun _ H Q=>Q v H
theorem G1u{i:Nat}{x:Str}{pos:Pos}(hN:X.N[i]?=some x)(hv:Vis X.env.scope x)(hd:(x==("__debug__":Str))=false:=by decide)(hcd:(x==("__classdict__":Str))=false:=by decide):PE X (.Name x pos) (G6w i):=by
 intro pins s σ H Q I h
 obtain⟨v,e,h⟩:=h
 obtain⟨m,hn,hl⟩:=I.loc
 obtain⟨u,r,l⟩:=hl i x v hN e hv
 have fin:EP X pins σ Q u s:=⟨v,H,I,r,h⟩
 rcases l with⟨hk,hm⟩|⟨hk,c,hc,hcell⟩
 . exact wpAny_Name (wpAny_loadName_local I.ok.kind hk hn hm fin) hd
 rcases hk with hk|hk
 . exact wpAny_Name (wpAny_loadName_cell I.ok.kind hk hc hcell fin) hd
 exact wpAny_Name (wpAny_loadName_free I.ok.kind hk hc hcell fin hcd) hd
theorem A2{i j pos}:PE X (.Constant (.int i) j pos) (tC (.int i)):=fun _ _ _ H _ I h=>wpAny_Constant_int ⟨.int i,H,I.tok _,⟨_,rfl⟩,h⟩
theorem A0v{b j pos}:PE X (.Constant (.bool b) j pos) (tC (.bl b)):=fun _ _ _ H _ I h=>Constant_bool ⟨.bl b,H,I,rfl,h⟩
theorem C0f{j pos}:PE X (.Constant .none j pos) (tC .non):=fun _ _ _ H _ I h=>Constant_none ⟨.non,H,I,rfl,h⟩
theorem C7{x j pos}:PE X (.Constant (.str x) j pos) (tC (.str x)):=fun _ _ _ H _ I h=>Calls.Constant_str ⟨.str x,H,I.tok _,⟨_,rfl⟩,h⟩
noncomputable def Gl (X:Cx) (x:Str):Prop:=X.env.kindOf x=some .globalImplicit
theorem Z8{E:Value ->Shared ->Prop}{pins:List (Addr×Obj)}{s:Shared}{σ:St}{H:Hp}{x:Str}{u:Value}{pos:Pos}{Q:Value ->Shared ->Prop}(I:Inv X pins σ H s)(hg:Gl X x)(hm:X.mg x=some u)(h:Q u s)
   (hd:(x==("__debug__":Str))=false:=by decide):wpAny (model X.prog X.w) X.A (eval (.Name x pos) X.env) Q E s:=
 Calls.Name_function_global I.ok.kind hg (Calls.loadGlobal_global (by rw[I.ok.glob];exact I.mod.glob.keeps I.bk) hm h) hd
theorem A8m{E:Value ->Shared ->Prop}{pins:List (Addr×Obj)}{s:Shared}{σ:St}{H:Hp}{x:Str}{u:Value}{pos:Pos}{Q:Value ->Shared ->Prop}(I:Inv X pins σ H s)(hg:Gl X x)(hm:X.mg x=none)(hv:bootBuiltins x=some u)(h:Q u s)
   (hn:x≠"__name__":=by decide) (hd:(x==("__debug__":Str))=false:=by decide):wpAny (model X.prog X.w) X.A (eval (.Name x pos) X.env) Q E s:=by
 obtain⟨mb,h1,h2⟩:=I.mod.blt
 exact Calls.Name_function_global I.ok.kind hg (Calls.loadGlobal_builtin (by rw[I.ok.glob];exact I.mod.glob.keeps I.bk) hm (by rw[I.ok.blt];exact h1.keeps I.bk) ((h2 x hn).trans hv) h) hd
theorem D8g{x:Str}{v:V}{u:Value}{pos:Pos}(hg:Gl X x)(hm:X.mg x=some u)(r:U9 v u)(hd:(x==("__debug__":Str))=false:=by decide):PE X (.Name x pos) (tC v):=
 fun _ _ _ H _ I h=>Z8 I hg hm ⟨v,H,I,r,h⟩ hd
theorem D7f{x:Str}{v:V}{u:Value}{pos:Pos}(hg:Gl X x)(hm:X.mg x=none)(hv:bootBuiltins x=some u)(r:U9 v u)(hn:x≠"__name__":=by decide)(hd:(x==("__debug__":Str))=false:=by decide):PE X (.Name x pos) (tC v):=
 fun _ _ _ H _ I h=>A8m I hg hm hv ⟨v,H,I,r,h⟩ hn hd
variable{a b:Expr}{ta tb:TE}{pos:Pos}
noncomputable def PC (X:Cx) (op:CmpOp) (a b:Expr) (t:TE):Prop:=
 ∀ (pins:List (Addr×Obj)) (s:Shared) (σ:St) (H:Hp) (Q:VK),Inv X pins σ H s ->t σ H Q ->
   wpAny (model X.prog X.w) X.A (eval a X.env) (fun v s₁=>wpAny (model X.prog X.w) X.A (eval b X.env) (fun u s₂=>wpAny (model X.prog X.w) X.A (compareOp op v u) (EP X pins σ Q) X.xe s₂) X.xe s₁) X.xe s
noncomputable def tB (t:TE):TT:=fun σ H Q=>t σ H fun x H1=>∃c,x= .bl c/\Q c H1
theorem C7y{op:CmpOp}{t:TE}(h:PC X op a b t)(h1:behindInMarks op b=false:=by first|exact nobehind _ (by decide) (by decide)|rfl):PT X (.Compare a [op] [b] pos) (tB t):=by
 intro pins s σ H Q I hw
 refine wpAny_isTrue_Compare1 (thn (h pins s σ H _ I hw) fun v s1 h1=>thn h1 fun u s2 h2=>thn h2 fun c s3 hh_=>?_) h1
 obtain⟨x,H1,I1,r1,q1⟩:=hh_
 obtain⟨d,rfl,q⟩:=q1
 cases r1
 exact wpAny_truthy_bool ⟨H1,I1,q⟩
theorem Z5{e:Expr}{t:TE}(h:PE X e t)(he:∀whole,isTrue e X.env whole=(do let v<-whole;standAt e.pos;holding [v] (truthy v)):=by intro _;rfl):PT X e (tB t):=by
 intro pins s σ H Q I hw
 refine isTrue_plain (thn (h pins s σ H _ I hw) fun v s1 hh_=>?_) (he _)
 obtain⟨x,H1,I1,r1,q1⟩:=hh_
 obtain⟨d,rfl,q⟩:=q1
 cases r1
 exact wpAny_truthy_bool ⟨H1,I1,q⟩
variable{tA tB':TT}{rest:List Expr}
noncomputable def J1b (t u:TT):TT:=fun σ H Q=>t σ H fun c H1=>if c=true then u σ H1 Q else Q false H1
noncomputable def tOr (t u:TT):TT:=fun σ H Q=>t σ H fun c H1=>if c=true then Q true H1 else u σ H1 Q
noncomputable def J0t (t:TT):TT:=fun σ H Q=>t σ H fun c H1=>Q (!c) H1
theorem A1n(ha:PT X a tA):PW X (.BoolOp .And [a] pos) tA:=by
 intro wh pins s σ H Q I h
 refine isTrue_and (thn (ha pins s σ H Q I h) fun c s1 e=>?_)
 cases c with
 |true=>exact isTrue_and_nil e
 |false=>exact e
theorem A6b(ha:PT X a tA):PW X (.BoolOp .Or [a] pos) tA:=by
 intro wh pins s σ H Q I h
 refine isTrue_or (thn (ha pins s σ H Q I h) fun c s1 e=>?_)
 cases c with
 |false=>exact isTrue_or_nil e
 |true=>exact e
theorem A2y(ha:PT X a tA)(hb:PW X (.BoolOp .And (b::rest) pos) tB'):PW X (.BoolOp .And (a::b::rest) pos) (J1b tA tB'):=by
 intro wh pins s σ H Q I h
 refine isTrue_and (thn (ha pins s σ H _ I h) fun c s1 ⟨H1,I1,q1⟩=>?_)
 cases c with
 |true=>exact hb wh pins s1 σ H1 Q I1 q1
 |false=>exact⟨H1,I1,q1⟩
theorem A4n(ha:PT X a tA)(hb:PW X (.BoolOp .Or (b::rest) pos) tB'):PW X (.BoolOp .Or (a::b::rest) pos) (tOr tA tB'):=by
 intro wh pins s σ H Q I h
 refine isTrue_or (thn (ha pins s σ H _ I h) fun c s1 ⟨H1,I1,q1⟩=>?_)
 cases c with
 |true=>exact⟨H1,I1,q1⟩
 |false=>exact hb wh pins s1 σ H1 Q I1 q1
theorem A1a(ha:PT X a tA):PT X (.UnaryOp .Not a pos) (J0t tA):=by
 intro pins s σ H Q I h
 exact isTrue_not (ha pins s σ H (fun c H1=>Q (!c) H1) I h)
noncomputable def G6m (ta tb:TE):TE:=fun σ H Q=>ta σ H fun x H1=>∃c,x= .bl c/\if c=true then tb σ H1 Q else Q (.bl false) H1
noncomputable def J1z (ta tb:TE):TE:=fun σ H Q=>ta σ H fun x H1=>∃c,x= .bl c/\if c=true then Q (.bl true) H1 else tb σ H1 Q
noncomputable def G6k (ta:TE):TE:=fun σ H Q=>ta σ H fun x H1=>∃c,x= .bl c/\Q (.bl (!c)) H1
theorem Z6{op}{t:TE}(h:PE X a t):PE X (.BoolOp op [a] pos) t:=fun pins s σ H Q I hw=>BoolOp_one (h pins s σ H Q I hw)
theorem Z4(ha:PE X a ta)(hb:PE X (.BoolOp .And (b::rest) pos) tb):PE X (.BoolOp .And (a::b::rest) pos) (G6m ta tb):=by
 intro pins s σ H Q I h
 refine BoolOp_and (thn (ha pins s σ H _ I h) fun v s1 hh_=>?_)
 obtain⟨x,H1,I1,r1,q1⟩:=hh_
 obtain⟨c,rfl,q1⟩:=q1
 cases r1
 refine wpAny_truthy_bool ?_
 cases c with
 |true=>exact hb pins s1 σ H1 Q I1 q1
 |false=>exact⟨.bl false,H1,I1,rfl,q1⟩
theorem B3j(ha:PE X a ta)(hb:PE X (.BoolOp .Or (b::rest) pos) tb):PE X (.BoolOp .Or (a::b::rest) pos) (J1z ta tb):=by
 intro pins s σ H Q I h
 refine BoolOp_or (thn (ha pins s σ H _ I h) fun v s1 hh_=>?_)
 obtain⟨x,H1,I1,r1,q1⟩:=hh_
 obtain⟨c,rfl,q1⟩:=q1
 cases r1
 refine wpAny_truthy_bool ?_
 cases c with
 |false=>exact hb pins s1 σ H1 Q I1 q1
 |true=>exact⟨.bl true,H1,I1,rfl,q1⟩
theorem G2g(ha:PE X a ta):PE X (.UnaryOp .Not a pos) (G6k ta):=by
 intro pins s σ H Q I h
 refine UnaryOp_ (thn (ha pins s σ H _ I h) fun v s1 hh_=>?_)
 obtain⟨x,H1,I1,r1,q1⟩:=hh_
 obtain⟨c,rfl,q1⟩:=q1
 cases r1
 exact not_of (wpAny_truthy_bool ⟨.bl (!c),H1,I1,rfl,q1⟩)
noncomputable def tIf (t:TT) (ta tb:TE):TE:=fun σ H Q=>t σ H fun c H1=>if c=true then ta σ H1 Q else tb σ H1 Q
theorem A0h{c:Expr}(hc:PT X c tA)(ha:PE X a ta)(hb:PE X b tb):PE X (.IfExp c a b pos) (tIf tA ta tb):=by
 intro pins s σ H Q I h
 refine wpAny_IfExp (thn (hc pins s σ H _ I h) fun d s1 ⟨H1,I1,q1⟩=>?_)
 cases d with
 |true=>exact ha pins s1 σ H1 Q I1 q1
 |false=>exact hb pins s1 σ H1 Q I1 q1
end
noncomputable def SqL (K:PySem.W.Frag) (H:Hp) (a:Addr) (xs:List V):Prop:=
 Rd H a (.lst xs)\/
   ∃(o:Obj) (its:Array Value) (n:Nat),K.lookup a=some o/\o.cls= .type "list"/\o.dict=none/\o.data= .seq its n/\its.size<=sizeLine/\G7 xs its.toList
noncomputable def SqT (K:PySem.W.Frag) (H:Hp) (a:Addr) (xs:List V):Prop:=
 Rd H a (.tup xs)\/
   ∃(o:Obj) (its:Array Value) (n:Nat),K.lookup a=some o/\o.cls= .type "tuple"/\o.data= .seq its n/\its.size<=sizeLine/\G7 xs its.toList
noncomputable def J1j:Value ->Option V
 | .none=>some .non
 | .bool b=>some (.bl b)
 | .int i _=>some (.int i)
 | .str x _=>some (.str x)
 | .bytes b _=>some (.byt b)
 | .float b _=>some (.flt b)
 | .ref a=>some (.ref a)
 | .type n=>some (.ty n)
 |_=>none
theorem U9.abs{x:V}{u:Value}(r:U9 x u):J1j u=some x:=by
 cases x with
 |non=>cases r;rfl
 |bl _=>cases r;rfl
 |int _=>obtain⟨t,rfl⟩:=r;rfl
 |str _=>obtain⟨t,rfl⟩:=r;rfl
 |byt _=>obtain⟨t,rfl⟩:=r;rfl
 |flt _=>obtain⟨t,rfl⟩:=r;rfl
 |ref _=>cases r;rfl
 |ty _=>cases r;rfl
theorem U9.inj{x y:V}{u:Value}(r:U9 x u)(q:U9 y u):x=y:=Option.some.inj (r.abs.symm.trans q.abs)
theorem G7.inj:∀{xs ys:List V} {us:List Value},G7 xs us ->G7 ys us ->xs=ys
 |_,_,_,.nil,.nil=>rfl
 |_,_,_,.cons r t,.cons r' t'=>by rw[r.inj r',G7.inj t t']
section
variable{X:Cx}{pins:List (Addr×Obj)}{σ:St}{H:Hp}{s:Shared}{a:Addr}{xs ys:List V}
theorem SqL.of{K:PySem.W.Frag}(h:H a=some (.lst xs)):SqL K H a xs:= .inl (.inl h)
theorem SqT.of{K:PySem.W.Frag}(h:H a=some (.tup xs)):SqT K H a xs:= .inl (.inl h)
theorem Inv.list(I:Inv X pins σ H s)(h:SqL X.K H a xs):∃its:List Value,G7 xs its/\PlainL s.heap a its.toArray/\xs.length<=sizeLine:=by
 rcases h with h|⟨o,its,n,hk,hc,hd,hs,hz,r⟩
 . obtain⟨z,its,n,r,e⟩:=h.ok I.hok
   exact⟨its,r,⟨_,n,e,rfl,rfl,rfl⟩,z⟩
 refine⟨its.toList,r,⟨o,n,I.kIn a o hk,hc,hd,by simpa using hs⟩,?_⟩
 have e:=r.length
 simp only[Array.length_toList] at e
 omega
theorem Inv.tuple(I:Inv X pins σ H s)(h:SqT X.K H a xs):∃its:List Value,G7 xs its/\IsTup s.heap a its.toArray/\xs.length<=sizeLine:=by
 rcases h with h|⟨o,its,n,hk,hc,hs,hz,r⟩
 . obtain⟨z,its,r,p⟩:=h.ok I.hok
   exact⟨its,r,p,z⟩
 refine⟨its.toList,r,⟨o,I.kIn a o hk,hc,n,by simpa using hs⟩,?_⟩
 have e:=r.length
 simp only[Array.length_toList] at e
 omega
theorem Inv.list_inj(I:Inv X pins σ H s)(h:SqL X.K H a xs)(h':SqL X.K H a ys):xs=ys:=by
 obtain⟨its,r,⟨o,n,e,_,_,d⟩,_⟩:=I.list h
 obtain⟨its',r',⟨o',n',e',_,_,d'⟩,_⟩:=I.list h'
 rw[e] at e';cases e'
 rw[d] at d'
 injection d' with d1 _
 have:its=its':=by simpa using congrArg Array.toList d1
 subst this
 exact r.inj r'
theorem Inv.tuple_inj(I:Inv X pins σ H s)(h:SqT X.K H a xs)(h':SqT X.K H a ys):xs=ys:=by
 obtain⟨its,r,⟨o,e,_,n,d⟩,_⟩:=I.tuple h
 obtain⟨its',r',⟨o',e',_,n',d'⟩,_⟩:=I.tuple h'
 rw[e] at e';cases e'
 rw[d] at d'
 injection d' with d1 _
 have:its=its':=by simpa using congrArg Array.toList d1
 subst this
 exact r.inj r'
end
noncomputable abbrev Cx.wish (X:Cx) (E:Value ->Shared ->Prop):Cx:={X with xe:=E}
noncomputable abbrev Cx.nox (X:Cx):Cx:=X.wish fun _ _=>False
theorem Cx.Ok.wish{X:Cx}(ok:X.Ok)(E:Value ->Shared ->Prop):(X.wish E).Ok:=
 ⟨ok.mod,ok.kind,ok.glob,ok.blt,ok.above,ok.inj,ok.has,ok.cab,ok.hd,ok.frames,ok.stk,ok.exf,ok.bs,ok.bsz,ok.noex,ok.exfs,ok.funs,ok.frf⟩
theorem Cx.Ok.unwish{X:Cx}{E:Value ->Shared ->Prop}(ok:(X.wish E).Ok):X.Ok:=
 ⟨ok.mod,ok.kind,ok.glob,ok.blt,ok.above,ok.inj,ok.has,ok.cab,ok.hd,ok.frames,ok.stk,ok.exf,ok.bs,ok.bsz,ok.noex,ok.exfs,ok.funs,ok.frf⟩
section
variable{X:Cx}{pins:List (Addr×Obj)}{σ:St}{H:Hp}{s:Shared}{E:Value ->Shared ->Prop}
theorem Inv.wish(I:Inv X pins σ H s)(E:Value ->Shared ->Prop):Inv (X.wish E) pins σ H s:=⟨I.ok.wish E,I.os,I.bare,I.base,I.loc,I.cell,I.free,I.freeC,I.pin,I.hok,I.len⟩
theorem Inv.unwish(I:Inv (X.wish E) pins σ H s):Inv X pins σ H s:=⟨I.ok.unwish,I.os,I.bare,I.base,I.loc,I.cell,I.free,I.freeC,I.pin,I.hok,I.len⟩
theorem SP.unwish{D:B3c}{f:Flow}{s':Shared}(h:SP (X.wish E) pins D f s'):SP X pins D f s':=by
 cases f with
 |next=>obtain⟨σ',H',I,q⟩:=h;exact⟨σ',H',I.unwish,q⟩
 |brk=>obtain⟨σ',H',I,q⟩:=h;exact⟨σ',H',I.unwish,q⟩
 |cont=>obtain⟨σ',H',I,q⟩:=h;exact⟨σ',H',I.unwish,q⟩
 |ret u=>obtain⟨v,σ',H',I,r,q⟩:=h;exact⟨v,σ',H',I.unwish,r,q⟩
theorem PSs.nox{st:List Stmt}{t:TS}(h:PSs X.nox st t):PSs X st t:=fun pins s σ H D I hw=>
 wpAny_mono (h pins s σ H D (I.wish _) hw) (fun _ _ q=>q.unwish) fun _ _ z=>False.elim z
end
section
variable{X:Cx}{st:Stmt}{rest:List Stmt}{t u:TS}{e:Expr}{te:TE}{pos:Pos}
noncomputable def G8b:TS:=fun D σ H=>D.nx σ H
noncomputable def G7r (t u:TS):TS:=fun D σ H=>t {D with nx:=u D} σ H
theorem D7:PSs X [] G8b:=fun _ _ σ H _ I h=>wpAny_execs_nil ⟨σ,H,I,h⟩
theorem A4(h1:PS X st t)(h2:PSs X rest u):PSs X (st::rest) (G7r t u):=by
 intro pins s σ H D I h
 refine wpAny_execs_cons (thn (h1 pins s σ H {D with nx:=u D} I h) fun f s1 q=>?_)
 cases f with
 | next=>
   obtain⟨σ',H',I',q⟩:=q
   exact h2 pins s1 σ' H' D I' q
 |ret v=>exact q
 |brk=>exact q
 |cont=>exact q
theorem A7(h1:PS X st t):PSs X [st] t:=by
 intro pins s σ H D I h
 refine wpAny_execs_cons (thn (h1 pins s σ H D I h) fun f s1 q=>?_)
 cases f with
 |next=>exact wpAny_execs_nil q
 |ret v=>exact q
 |brk=>exact q
 |cont=>exact q
theorem Inv.quiet{pins:List (Addr×Obj)}{σ:St}{H:Hp}{s:Shared}(I:Inv X pins σ H s):interactive X.env=false:=by simp[interactive,I.ok.kind]
noncomputable def G5y (te:TE):TS:=fun D σ H=>te σ H fun _ H1=>D.nx σ H1
theorem Y6(he:PE X e te)(hs:swapsWith e none pos.line X.env=pure false:=by rfl):PS X (.Expr e pos) (G5y te):=by
 intro pins s σ H D I h
 exact wpAny_Expr_any (thn (he pins s σ H _ I h) fun v s1 ⟨x,H1,I1,r1,q1⟩=>⟨σ,H1,I1,q1⟩) I.quiet hs
noncomputable def J1x (te:TE):TS:=fun D σ H=>te σ H D.rt
theorem B7(he:PE X e te):PS X (.Return (some e) pos) (J1x te):=by
 intro pins s σ H D I h
 exact wpAny_Return_some (thn (he pins s σ H _ I h) fun v s1 ⟨x,H1,I1,r1,q1⟩=>⟨x,σ,H1,I1,r1,q1⟩)
noncomputable def J1e (c:TT) (t u:TS):TS:=fun D σ H=>c σ H fun b H1=>if b=true then t D σ H1 else u D σ H1
theorem U0{c:Expr}{a b:List Stmt}{tc:TT}(hc:PT X c tc)(ha:PSs X a t)(hb:PSs X b u):PS X (.If c a b pos) (J1e tc t u):=by
 intro pins s σ H D I h
 refine wpAny_If (thn (hc pins s σ H _ I h) fun d s1 ⟨H1,I1,q1⟩=>?_)
 cases d with
 |true=>exact ha pins s1 σ H1 D I1 q1
 |false=>exact hb pins s1 σ H1 D I1 q1
end
noncomputable abbrev TG:=V ->St ->Hp ->(St ->Hp ->Prop) ->Prop
noncomputable abbrev TGs:=List V ->St ->Hp ->(St ->Hp ->Prop) ->Prop
noncomputable def PG (X:Cx) (target:Expr) (t:TG):Prop:=
 ∀ (pins:List (Addr×Obj)) (s:Shared) (σ:St) (H:Hp) (v:V) (u:Value) (Q:St ->Hp ->Prop),Inv X pins σ H s ->U9 v u ->t v σ H Q ->
   wpAny (model X.prog X.w) X.A (assign target X.env u) (fun _ s'=>∃σ' H',Inv X pins σ' H' s'/\Q σ' H') X.xe s
noncomputable def PGs (X:Cx) (ts:List Expr) (t:TGs):Prop:=
 ∀ (pins:List (Addr×Obj)) (s:Shared) (σ:St) (H:Hp) (vs:List V) (us:List Value) (Q:St ->Hp ->Prop),Inv X pins σ H s ->G7 vs us ->t vs σ H Q ->
   wpAny (model X.prog X.w) X.A (assignInOrder ((assignEach ts X.env).map (·.2)) us) (fun _ s'=>∃σ' H',Inv X pins σ' H' s'/\Q σ' H') X.xe s
noncomputable abbrev TIp:=V ->V ->Hp ->VK ->Prop
noncomputable def PIp (X:Cx) (op:Operator) (t:TIp):Prop:=
 ∀ (pins:List (Addr×Obj)) (s:Shared) (σ:St) (H:Hp) (x y:V) (v u:Value) (Q:VK),Inv X pins σ H s ->U9 x v ->U9 y u ->t x y H Q ->
   wpAny (model X.prog X.w) X.A (inplaceOp op v u) (EP X pins σ Q) X.xe s
section
variable{X:Cx}{pos:Pos}
noncomputable def B8s (i:Nat):TG:=fun v σ H Q=>Q (σ.set i (some v)) H
theorem D0{i:Nat}{x:Str}(hN:X.N.Nodup)(hi:X.N[i]?=some x)(hx:Loc X.env.scope x)(hf:X.fn x=true\/X.env.scope.names.lookup x=some .local:=by first|exact .inl rfl|exact .inr rfl|assumption):PG X (.Name x pos) (B8s i):=by
 intro pins s σ H v u Q I r h
 exact wpAny_assign_Name (A2h I hN hi hx r (fun s' I'=>⟨_,H,I',h⟩) hf)
noncomputable def J0s:TGs:=fun vs σ H Q=>vs=[]/\Q σ H
noncomputable def G6p (t:TG) (u:TGs):TGs:=fun vs σ H Q=>∃v r,vs=v::r/\t v σ H fun σ' H'=>u r σ' H' Q
theorem Z0:PGs X [] J0s:=by
 intro pins s σ H vs us Q I r h
 obtain⟨e,h⟩:=h
 subst e
 cases r
 exact assignInOrder_nil ⟨σ,H,I,h⟩
theorem D4{e:Expr}{es:List Expr}{t:TG}{u:TGs}(h1:PG X e t)(h2:PGs X es u)
   (hs:(assignEach (e::es) X.env).map (·.2)=assign e X.env::(assignEach es X.env).map (·.2):=by rfl):PGs X (e::es) (G6p t u):=by
 intro pins s σ H vs us Q I r h
 obtain⟨v,vr,e1,h⟩:=h
 subst e1
 cases r with
 | cons r rr=>
   rw[hs]
   refine assignInOrder_cons (thn (h1 pins s σ H _ _ _ I r h) fun _ s1 hh_=>?_)
   obtain⟨σ1,H1,I1,q1⟩:=hh_
   exact h2 pins s1 σ1 H1 _ _ Q I1 rr q1
noncomputable def G1c (K:PySem.W.Frag) (n:Nat) (t:TGs):TG:=fun v σ H Q=>∃a xs,v= .ref a/\SqT K H a xs/\xs.length=n/\t xs σ H Q
theorem A0x{es:List Expr}{k:Nat}{t:TGs}{n:Nat}(hc:X.calm=true)(h:PGs X es t)
   (hn:(assignEach es X.env).length=n:=by rfl) (hst:(assignEach es X.env).findIdx? (·.1)=none:=by rfl):PG X (.Tuple es k pos) (G1c X.K n t):=by
 intro pins s σ H v u Q I r hw
 obtain⟨a,xs,e1,hq,hl,hw⟩:=hw
 subst e1
 cases r
 obtain⟨its,rv,ht,hz⟩:=I.tuple hq
 refine assign_Tuple_tuple (I.ok.hd hc) ht (by simp[hn, <-hl,rv.length]) hst fun h' hx=>?_
 have I1:Inv X pins σ H {s with heap:=h'}:=I.kept (t':=s.toks) fun b o e=>hx b o (Nat.ne_of_lt (Heap.lt_size e)) e
 exact h pins _ σ H xs _ Q I1 (by simpa using rv) hw
noncomputable def D9p (te:TE) (g:TG):TS:=fun D σ H=>te σ H fun x H1=>g x σ H1 D.nx
theorem A1e{tg e:Expr}{te:TE}{g:TG}(he:PE X e te)(hg:PG X tg g)(hs:swapsWithSole [tg] e pos.line X.env=pure false:=by rfl)(hw:swappedStores [tg] e X.env=pure none:=by rfl)
   (h1:(assignEach [tg] X.env).map (·.2)=[assign tg X.env]:=by rfl):PS X (.Assign [tg] e pos) (D9p te g):=by
 intro pins s σ H D I h
 refine wpAny_Assign_stores (thn (he pins s σ H _ I h) fun v s1 hh_=>?_) hs hw
 obtain⟨x,H1,I1,r1,q1⟩:=hh_
 rw[h1]
 exact thn (hg pins s1 σ H1 x v _ I1 r1 q1) fun _ s2 q=>q
theorem D5{i:Nat}{x:Str}{e:Expr}{te:TE}{pos':Pos}(hN:X.N.Nodup)(hi:X.N[i]?=some x)(hx:Loc X.env.scope x)(he:PE X e te)(hs:swapsWith e (some (.Name x pos')) pos.line X.env=pure false:=by rfl)(hf:X.fn x=true\/X.env.scope.names.lookup x=some .local:=by first|exact .inl rfl|exact .inr rfl|assumption):
   PS X (.Assign [.Name x pos'] e pos) (D9p te (B8s i)):=by
 intro pins s σ H D I h
 refine wpAny_Assign_Name (thn (he pins s σ H _ I h) fun v s1 hh_=>?_) hs
 obtain⟨y,H1,I1,r1,q1⟩:=hh_
 exact A2h I1 hN hi hx r1 (fun s2 I2=>⟨_,H1,I2,q1⟩) hf
noncomputable def J2e (i:Nat) (te:TE) (ti:TIp):TS:=fun D σ H=>∃x,σ[i]?=some (some x)/\te σ H fun y H1=>ti x y H1 fun z H2=>D.nx (σ.set i (some z)) H2
theorem G3p{i:Nat}{x:Str}{e:Expr}{te:TE}{op:Operator}{ti:TIp}{pos':Pos}(hN:X.N.Nodup)(hi:X.N[i]?=some x)(hx:Loc X.env.scope x)(he:PE X e te)(ho:PIp X op ti)(hf:X.fn x=true\/X.env.scope.names.lookup x=some .local:=by first|exact .inl rfl|exact .inr rfl|assumption):
   PS X (.AugAssign (.Name x pos') op e pos) (J2e i te ti):=by
 intro pins s σ H D I h
 obtain⟨v,e1,h⟩:=h
 obtain⟨m,hn,hl⟩:=I.loc
 have vis:Vis X.env.scope x:=by rcases hx with k|k;exact .inl k;exact .inr (.inl k)
 obtain⟨u,r,l⟩:=hl i x v hi e1 vis
 refine wpAny_AugAssign_Name ?_
 have go:wpAny (model X.prog X.w) X.A (eval e X.env) (fun w s₂=>wpAny (model X.prog X.w) X.A (inplaceOp op u w) (fun r s₃=>wpAny (model X.prog X.w) X.A (storeName X.env x r) (fun _=>SP X pins D .next) X.xe s₃) X.xe s₂) X.xe s:=by
   refine thn (he pins s σ H _ I h) fun w s1 hh_=>?_
   obtain⟨y,H1,I1,r1,q1⟩:=hh_
   refine thn (ho pins s1 σ H1 v y u w _ I1 r r1 q1) fun z s2 hh_=>?_
   obtain⟨zv,H2,I2,r2,q2⟩:=hh_
   exact A2h I2 hN hi hx r2 (fun s3 I3=>⟨_,H2,I3,q2⟩) hf
 rcases l with⟨hk,hm⟩|⟨hk,c,hc,hcell⟩
 . exact wpAny_loadName_local I.ok.kind hk hn hm go
 rcases hk with hk|hk
 . exact wpAny_loadName_cell I.ok.kind hk hc hcell go
 rcases hx with k|k
 . have:X.env.scope.names.lookup x=some .free:=hk
   rw[k] at this;cases this
 have:X.env.scope.names.lookup x=some .free:=hk
 rw[k] at this;cases this
noncomputable def ipI (f:Int ->Int ->Int):TIp:=fun x y H Q=>∃i j,x= .int i/\y= .int j/\Q (.int (f i j)) H
theorem G3c:PIp X .Add (ipI fun i j=>i+j):=by
 intro pins s σ H x y v u Q I r1 r2 h
 obtain⟨i,j,e1,e2,q⟩:=h
 subst e1;subst e2
 obtain⟨t,rfl⟩:=r1
 obtain⟨t',rfl⟩:=r2
 exact iadd_int ⟨.int _,H,I.tok _,⟨_,rfl⟩,q⟩
end
section
variable{X:Cx}{pos:Pos}
noncomputable def C9t (c:TT) (tb:TS):TS:=fun D σ H=>∃W:Nat ->St ->Hp ->Prop,(∃m,W m σ H)/\∀m σ H,W m σ H ->
 c σ H fun b H1=>if b=true then∃N:St ->Hp ->Prop,(∀σ' H',N σ' H' ->∃m',m'<m/\W m' σ' H')/\tb {D with nx:=N,ct:=N,bk:=D.nx} σ H1 else D.nx σ H1
theorem A7f{c:Expr}{body:List Stmt}{tc:TT}{tb:TS}(hp:PassesOwn (model X.prog X.w) X.A X.env X.xe)(hc:PT X c tc)(hb:PSs X body tb):PS X (.While c body [] pos) (C9t tc tb):=by
 intro pins s σ H D I h
 obtain⟨W,⟨m0,w0⟩,turn⟩:=h
 refine wpAny_While (codeAny_whileLoop (fun n s'=>∃σ' H',Inv X pins σ' H' s'/\W n σ' H') ?_ m0 ⟨σ,H,I,w0⟩)
 rintro n s1 ⟨σ1,H1,I1,w1⟩
 refine wpAny_passesOwn hp (thn (hc pins s1 σ1 H1 _ I1 (turn n σ1 H1 w1)) fun b s2 ⟨H2,I2,q2⟩=>?_)
 cases b with
 | true=>
   obtain⟨N,hN,q2⟩:=q2
   rw[if_pos rfl]
   refine wpAny_passesOwn hp (thn (hb pins s2 σ1 H2 _ I2 q2) fun f s3 q3=>?_)
   cases f with
   | next=>
     obtain⟨σ3,H3,I3,n3⟩:=q3
     obtain⟨m',hm,w3⟩:=hN σ3 H3 n3
     exact⟨m',hm,σ3,H3,I3,w3⟩
   | cont=>
     obtain⟨σ3,H3,I3,n3⟩:=q3
     obtain⟨m',hm,w3⟩:=hN σ3 H3 n3
     exact⟨m',hm,σ3,H3,I3,w3⟩
   |brk=>exact q3
   |ret v=>exact q3
 | false=>
   rw[if_neg Bool.false_ne_true]
   exact wpAny_execs_nil ⟨σ1,H2,I2,q2⟩
end
structure It where
 go:Nat ->Hp ->Prop
 yld:Nat ->Hp ->V ->Hp ->Prop
 stop:Nat ->Hp ->Prop
noncomputable def A0w (X:Cx) (pins:List (Addr×Obj)) (H:Hp) (b:Addr):Prop:=
 H b=none/\b≠X.env.locals/\b ∉ X.fs/\(b∈X.ex\/X.s₀.heap.objs.size<=b)/\(∀x c,X.env.cells.lookup x=some c ->c≠b)/\∀p∈X.pn++pins,p.1≠b
theorem Inv.fpOk{X:Cx}{pins:List (Addr×Obj)}{σ:St}{H H':Hp}{s:Shared}{b:Addr}(I:Inv X pins σ H s)(hb:s.heap.objs.size<=b)(hn:H' b=none):A0w X pins H' b:=by
 refine⟨hn,Nat.ne_of_gt (Nat.lt_of_lt_of_le I.lt hb),I.nofs hb,.inr (Nat.le_trans I.sz hb),fun x c e z=>?_,fun p hp z=>?_⟩
 . obtain⟨v,q⟩:=I.cell x c e
   exact absurd (Nat.lt_of_lt_of_le q.lt (by rw[z];exact hb)) (Nat.lt_irrefl _)
 exact absurd (Nat.lt_of_lt_of_le (Heap.lt_size (I.pin p hp).1) (by rw[z];exact hb)) (Nat.lt_irrefl _)
structure C7a(P:Program)(w:World)(K:PySem.W.Frag)(tg:Expr)(J:It)(fp:List Addr)(it:Addr)(tn:Nat ->Heap ->Prop):Prop where
 mem:it∈fp
 obj:∀i h,tn i h ->∀b∈fp,∃o,h.get? b=some o/\∀v,o.data≠ .cell v
 keep:∀i h h',tn i h ->(∀b∈fp,∀o,h.get? b=some o ->h'.get? b=some o) ->tn i h'
 item:∀(X:Cx),X.prog=P ->X.w=w ->X.K=K ->X.calm=true ->∀(i:Nat) (pins:List (Addr×Obj)) (s:Shared) (σ:St) (H:Hp) (E:Value ->Shared ->Prop),Inv X pins σ H s ->(∀b∈fp,A0w X pins H b) ->tn i s.heap ->J.go i H ->
   wpAny (model P w) X.A (pyNext (.ref it)) (fun r s1=>∃u,r=some u/\
     wpAny (model P w) X.A (letOwnedTupleGo tg (.ref it) u) (fun _ s2=>∃x H',Inv X pins σ H' s2/\U9 x u/\J.yld i H x H'/\tn (i+1) s2.heap/\∀b∈fp,H' b=none) E s1) E s
 done:∀(X:Cx),X.prog=P ->X.w=w ->X.K=K ->X.calm=true ->∀(i:Nat) (pins:List (Addr×Obj)) (s:Shared) (σ:St) (H:Hp) (E:Value ->Shared ->Prop),Inv X pins σ H s ->(∀b∈fp,A0w X pins H b) ->tn i s.heap ->J.stop i H ->
   wpAny (model P w) X.A (pyNext (.ref it)) (fun r s1=>r=none/\Inv X pins σ H s1) E s
 self:∀(A:Around) (i:Nat) (s:Shared) (Q:Value ->Shared ->Prop) (E:Value ->Shared ->Prop),tn i s.heap ->Q (.ref it) s ->wpAny (model P w) A (pyIter (.ref it)) Q E s
noncomputable abbrev TI:=St ->Hp ->(It ->Hp ->Prop) ->Prop
noncomputable def PIE (X:Cx) (pins:List (Addr×Obj)) (σ:St) (tg:Expr) (R:It ->Hp ->Prop) (itv:Value) (s2:Shared):Prop:=
 ∃(it:Addr) (fp:List Addr) (tn:Nat ->Heap ->Prop) (J:It) (H':Hp),itv= .ref it/\Inv X pins σ H' s2/\C7a X.prog X.w X.K tg J fp it tn/\tn 0 s2.heap/\(∀b∈fp,A0w X pins H' b)/\R J H'
noncomputable def PI (X:Cx) (tg iter:Expr) (wi:TI):Prop:=
 ∀ (pins:List (Addr×Obj)) (s:Shared) (σ:St) (H:Hp) (R:It ->Hp ->Prop),Inv X pins σ H s ->wi σ H R ->
   wpAny (model X.prog X.w) X.A (eval iter X.env) (fun v s1=>wpAny (model X.prog X.w) X.A (pyIter v) (PIE X pins σ tg R) X.xe s1) X.xe s
theorem B7s{M:Model}{A:Around}{E:Value ->Shared ->Prop}{s:Shared}{tg:Expr}{it:Addr}{u:Value}{o:Obj}{n:String}{vs:Array Value}{Q:Unit ->Shared ->Prop}(ho:s.heap.get? it=some o)(hc:o.cls= .type n)(hd:o.data= .fields vs)
   (hn: ["enumerate","zip","dict_itemiterator","dict_reverseitemiterator","odict_iterator","itertools.zip_longest","itertools.pairwise"].contains n=false) (hQ:Q () s):wpAny M A (letOwnedTupleGo tg (.ref it) u) Q E s:=by
 unfold letOwnedTupleGo
 cases tg <;>first
   |exact wpAny_pure hQ
   |(cases u<;>first
       |exact wpAny_pure hQ
       | (refine wpAny_bind (wpAny_load ho ?_)
          rw[hc,hd]
          show wpAny M A (if(["enumerate","zip","dict_itemiterator","dict_reverseitemiterator","odict_iterator","itertools.zip_longest","itertools.pairwise"].contains n&&vs[0]?==some (rawInt _))=true then _ else _) Q E s
          rw[if_neg (by intro h;rw[hn,Bool.false_and] at h;cases h)]
          exact wpAny_pure hQ))
noncomputable def Itl (K:PySem.W.Frag) (a:Addr):It:=
 ⟨fun i H=>∃xs x,SqL K H a xs/\xs[i]?=some x,fun i H x H'=>H'=H/\∀xs,SqL K H a xs ->xs[i]?=some x,fun i H=>∃xs,SqL K H a xs/\xs.length<=i⟩
noncomputable def Itt (K:PySem.W.Frag) (a:Addr):It:=
 ⟨fun i H=>∃xs x,SqT K H a xs/\xs[i]?=some x,fun i H x H'=>H'=H/\∀xs,SqT K H a xs ->xs[i]?=some x,fun i H=>∃xs,SqT K H a xs/\xs.length<=i⟩
noncomputable def Itr (lo:Int) (n:Nat):It:=⟨fun i _=>i<n,fun i H x H'=>H'=H/\x= .int (lo+i),fun i _=>n<=i⟩
theorem C4p{P:Program}{w:World}{K:PySem.W.Frag}{tg:Expr}(a it:Addr):C7a P w K tg (Itl K a) [it] it (fun i h=>h.IsListIter it a i) where
 mem:=by simp
 obj:=fun i h st b hb=>by
   have e:b=it:=by simpa using hb
   subst e
   obtain⟨o,e,c,d⟩:=st
   exact⟨o,e,fun v z=>by rw[d] at z;cases z⟩
 keep:=fun i h h' st k=>st.at fun o e=>k it (by simp) o e
 item:=by
   intro X hP hw hK hc i pins s σ H E I hf st hg
   subst hP hw hK
   obtain⟨xs,x,hq,hx⟩:=hg
   obtain⟨its,rv,p,hz⟩:=I.list hq
   obtain⟨u,hu,ru⟩:=rv.get hx
   obtain⟨f0,f1,f2,f3,f4,f5⟩:=hf it (by simp)
   refine wpAny_pyNext_list_item st p.isList (x:=u) (by simpa using hu) fun h' st' sb=>?_
   have I1:Inv X pins σ H {s with heap:=h'}:=I.turned (t':=s.toks) (fun b o hb e=>(sb.2 b hb).trans e) f0 f1 f3 f4 f5
   obtain⟨o,e,c,d⟩:=id st'
   exact⟨u,rfl,B7s (s:={s with heap:=h'}) e c d (by decide) ⟨x,H,I1,ru,⟨rfl,fun ys hy=>by rw[I.list_inj hy hq];exact hx⟩,st',fun b hb=>(hf b hb).1⟩⟩
 done:=by
   intro X hP hw hK hc i pins s σ H E I hf st hg
   subst hP hw hK
   obtain⟨xs,hq,hx⟩:=hg
   obtain⟨its,rv,p,hz⟩:=I.list hq
   obtain⟨f0,f1,f2,f3,f4,f5⟩:=hf it (by simp)
   have hl:=rv.length
   exact wpAny_pyNext_list_end (I.ok.hd hc) st p.isList (by simp;omega) fun h' eb=>⟨rfl,I.turned (t':=s.toks) (fun b o hb e=>eb b o hb e) f0 f1 f3 f4 f5⟩
 self:=fun _ _ _ _ _ st h=>wpAny_pyIter_listiter st h
theorem C0p{P:Program}{w:World}{K:PySem.W.Frag}{tg:Expr}(a it:Addr):C7a P w K tg (Itt K a) [it] it (fun i h=>h.IsTupleIter it a i) where
 mem:=by simp
 obj:=fun i h st b hb=>by
   have e:b=it:=by simpa using hb
   subst e
   obtain⟨o,e,c,d⟩:=st
   exact⟨o,e,fun v z=>by rw[d] at z;cases z⟩
 keep:=fun i h h' st k=>st.at fun o e=>k it (by simp) o e
 item:=by
   intro X hP hw hK hc i pins s σ H E I hf st hg
   subst hP hw hK
   obtain⟨xs,x,hq,hx⟩:=hg
   obtain⟨its,rv,p,hz⟩:=I.tuple hq
   obtain⟨u,hu,ru⟩:=rv.get hx
   obtain⟨f0,f1,f2,f3,f4,f5⟩:=hf it (by simp)
   refine wpAny_pyNext_tuple_item st (show s.heap.IsTuple a its.toArray from p) (x:=u) (by simpa using hu) fun h' st' sb=>?_
   have I1:Inv X pins σ H {s with heap:=h'}:=I.turned (t':=s.toks) (fun b o hb e=>(sb.2 b hb).trans e) f0 f1 f3 f4 f5
   obtain⟨o,e,c,d⟩:=id st'
   exact⟨u,rfl,B7s (s:={s with heap:=h'}) e c d (by decide) ⟨x,H,I1,ru,⟨rfl,fun ys hy=>by rw[I.tuple_inj hy hq];exact hx⟩,st',fun b hb=>(hf b hb).1⟩⟩
 done:=by
   intro X hP hw hK hc i pins s σ H E I hf st hg
   subst hP hw hK
   obtain⟨xs,hq,hx⟩:=hg
   obtain⟨its,rv,p,hz⟩:=I.tuple hq
   obtain⟨f0,f1,f2,f3,f4,f5⟩:=hf it (by simp)
   have hl:=rv.length
   exact wpAny_pyNext_tuple_end (I.ok.hd hc) st (show s.heap.IsTuple a its.toArray from p) (by simp;omega) fun h' eb=>⟨rfl,I.turned (t':=s.toks) (fun b o hb e=>eb b o hb e) f0 f1 f3 f4 f5⟩
 self:=fun _ _ _ _ _ st h=>wpAny_pyIter_tupleiter st h
theorem B9w{P:Program}{w:World}{K:PySem.W.Frag}{tg:Expr}(it:Addr)(lo:Int)(n:Nat):C7a P w K tg (Itr lo n) [it] it (fun i h=>IsRangeIter h it (lo+(i:Nat)*1) ((n:Int)- (i:Nat)) 1) where
 mem:=by simp
 obj :=fun i h st b hb=>by
   have e:b=it:=by simpa using hb
   subst e
   exact⟨_,st,fun v z=>by
     have z':Data.fields _=Data.cell v:=z
     cases z'⟩
 keep:=fun i h h' st k=>k it (by simp) _ st
 item:=by
   intro X hP hw hK hc i pins s σ H E I hf st hg
   subst hP hw hK
   obtain⟨f0,f1,f2,f3,f4,f5⟩:=hf it (by simp)
   have W:=Walks.range (prog:=X.prog) (w:=X.w) (I.ok.hd hc) it lo 1 n
   refine W.item i s _ _ hg st fun v h' tk hv st' kk=>?_
   obtain⟨t,rfl⟩:=hv
   have I1:Inv X pins σ H {s with heap:=h',toks:=tk}:=I.turned (fun b o hb e=>kk b o (by simpa using hb) e) f0 f1 f3 f4 f5
   refine⟨_,rfl,B7s (s:={s with heap:=h',toks:=tk}) (n:="range_iterator") st' rfl rfl (by decide) ⟨.int (lo+i),H,I1,⟨t,?_⟩,⟨rfl,rfl⟩,st',fun b hb=>(hf b hb).1⟩⟩
   rw[Int.mul_one]
 done:=by
   intro X hP hw hK hc i pins s σ H E I hf st hg
   subst hP hw hK
   obtain⟨f0,f1,f2,f3,f4,f5⟩:=hf it (by simp)
   exact wpAny_pyNext_range_end (I.ok.hd hc) st (by have:n<=i:=hg;omega) fun h' eb=>⟨rfl,I.turned (t':=s.toks) (fun b o hb e=>eb b o hb e) f0 f1 f3 f4 f5⟩
 self:=fun _ _ _ _ _ st h=>wpAny_pyIter_rangeiter st h
section
variable{X:Cx}{tg:Expr}
noncomputable def G0g (K:PySem.W.Frag) (tl:TE):TI:=fun σ H R=>tl σ H fun x H1=>∃a,x= .ref a/\(∃xs,SqL K H1 a xs)/\R (Itl K a) H1
noncomputable def G2m (K:PySem.W.Frag) (tl:TE):TI:=fun σ H R=>tl σ H fun x H1=>∃a,x= .ref a/\(∃xs,SqT K H1 a xs)/\R (Itt K a) H1
theorem B6b{l:Expr}{tl:TE}(hl:PE X l tl):PI X tg l (G0g X.K tl):=by
 intro pins s σ H R I h
 refine thn (hl pins s σ H _ I h) fun v s1 hh_=>?_
 obtain⟨x,H1,I1,r1,q1⟩:=hh_
 obtain⟨a,e,⟨xs,hq⟩,q⟩:=q1
 subst e
 cases r1
 obtain⟨its,rv,p,hz⟩:=I1.list hq
 refine wpAny_pyIter_list p.isList ?_
 refine⟨s1.heap.objs.size,[s1.heap.objs.size],_,_,H1,rfl,I1.kept (t':=s1.toks) fun b o e=>Heap.get?_push_of_some _ e,C4p a _,⟨_,Heap.get?_push_size _ rfl,rfl,rfl⟩,fun b hb=>?_,q⟩
 have e:b=s1.heap.objs.size:=by simpa using hb
 subst e
 exact I1.fpOk (Nat.le_refl _) (I1.hok.fresh (Nat.le_refl _))
theorem G3n{l:Expr}{tl:TE}(hl:PE X l tl):PI X tg l (G2m X.K tl):=by
 intro pins s σ H R I h
 refine thn (hl pins s σ H _ I h) fun v s1 hh_=>?_
 obtain⟨x,H1,I1,r1,q1⟩:=hh_
 obtain⟨a,e,⟨xs,hq⟩,q⟩:=q1
 subst e
 cases r1
 obtain⟨its,rv,p,hz⟩:=I1.tuple hq
 refine wpAny_pyIter_tuple (show s1.heap.IsTuple a its.toArray from p) ?_
 refine⟨s1.heap.objs.size,[s1.heap.objs.size],_,_,H1,rfl,I1.kept (t':=s1.toks) fun b o e=>Heap.get?_push_of_some _ e,C0p a _,⟨_,Heap.get?_push_size _ rfl,rfl,rfl⟩,fun b hb=>?_,q⟩
 have e:b=s1.heap.objs.size:=by simpa using hb
 subst e
 exact I1.fpOk (Nat.le_refl _) (I1.hok.fresh (Nat.le_refl _))
theorem D0q{pins:List (Addr×Obj)}{σ:St}{H:Hp}{s:Shared}{R:It ->Hp ->Prop}{E:Value ->Shared ->Prop}{lo hi:Int}{t u v:Tok}{tk:Nat}(I:Inv X pins σ H s)(h1: -(2^62)<=lo)(h2:lo<2^62)(h3: -(2^62)<=hi)(h4:hi<2^62)
   (q:R (Itr lo (hi-lo).toNat) H):wpAny (model X.prog X.w) X.A (pyIter (.ref s.heap.objs.size)) (PIE X pins σ tg R) E {s with heap:=s.heap.push {cls:= .type "range",data:= .fields #[.int lo t,.int hi u,.int 1 v]},toks:=tk}:=by
 refine wpAny_pyIter_range (IsRange.new ..) (small_one h1 h2 h3 h4) ?_
 have I1:Inv X pins σ H {s with heap:=s.heap.push {cls:= .type "range",data:= .fields #[.int lo t,.int hi u,.int 1 v]},toks:=tk}:=I.kept fun b o e=>Heap.get?_push_of_some _ e
 refine⟨(s.heap.push {cls:= .type "range",data:= .fields #[.int lo t,.int hi u,.int 1 v]}).objs.size,[(s.heap.push {cls:= .type "range",data:= .fields #[.int lo t,.int hi u,.int 1 v]}).objs.size],_,_,H,rfl,
   I1.kept (t':=tk) fun b o e=>Heap.get?_push_of_some _ e,B9w _ lo (hi-lo).toNat,?_,fun b hb=>?_,q⟩
 . have e1:lo+((0:Nat):Int)*1=lo:=by simp
   have e2:(((hi-lo).toNat:Nat):Int)- ((0:Nat):Int)=Builtin.Range.rangeSize lo hi 1:=by rw[rangeSize_one];split<;>omega
   show IsRangeIter _ _ (lo+((0:Nat):Int)*1) ((((hi-lo).toNat:Nat):Int)- ((0:Nat):Int)) 1
   rw[e1,e2]
   exact Heap.get?_push_size _ rfl
 have e:b=(s.heap.push {cls:= .type "range",data:= .fields #[.int lo t,.int hi u,.int 1 v]}).objs.size:=by simpa using hb
 subst e
 exact I1.fpOk (Nat.le_refl _) (I1.hok.fresh (Nat.le_refl _))
noncomputable def G7z (ta:TA):TI:=fun σ H R=>ta σ H fun vs H1=>∃j:Int,vs=[.int j]/\ -(2^62)<=j/\j<2^62/\R (Itr 0 j.toNat) H1
theorem A2b{a:Expr}{ta:TA}{p pos:Pos}(hg:Gl X "range")(hm:X.mg "range"=none)(ha:PA X [a] ta)(hs:starEach [a] X.env=[(false,eval a X.env)]:=by rfl):PI X tg (.Call (.Name "range" p) [a] [] pos) (G7z ta):=by
 intro pins s σ H R I h
 refine Call_ (A8m I hg hm boot_range (PyProof.Rows.callWith_type1 (thn (ha pos pins s σ H _ I h) fun us s1 hh_=>?_) hs rfl))
 obtain⟨vs,H1,I1,r1,q1⟩:=hh_
 obtain⟨j,e,q1,q2,q⟩:=q1
 subst e
 cases r1 with
 | cons r rr=>
   cases rr
   obtain⟨t,rfl⟩:=r
   exact call_range_1 (D0q I1 (by omega) (by omega) q1 q2 (by simpa using q))
noncomputable def G7j (wi:TI) (g:TG) (tb:TS):TS:=fun D σ H=>wi σ H fun J H1=>∃W:Nat ->Nat ->St ->Hp ->Prop,(∃m,W 0 m σ H1)/\∀i m σ H,W i m σ H ->
 (J.stop i H/\D.nx σ H)\/(J.go i H/\∃N:St ->Hp ->Prop,(∀σ' H',N σ' H' ->∃m',m'<m/\W (i+1) m' σ' H')/\∀x H',J.yld i H x H' ->g x σ H' fun σ2 H2=>tb {D with nx:=N,ct:=N,bk:=D.nx} σ2 H2)
noncomputable def A0t (fp:List Addr) (h:Heap):List (Addr×Obj):=fp.filterMap fun b=>(h.get? b).map fun o=>(b,o)
theorem A0j{fp:List Addr}{h:Heap}{b:Addr}{o:Obj}(hb:b∈fp)(e:h.get? b=some o):(b,o)∈A0t fp h:=List.mem_filterMap.mpr ⟨b,hb,by rw[e];rfl⟩
theorem C6n{fp:List Addr}{h:Heap}{p:Addr×Obj}(hp:p∈A0t fp h):p.1∈fp/\h.get? p.1=some p.2:=by
 obtain⟨b,hb,e⟩:=List.mem_filterMap.mp hp
 cases q:h.get? b with
 |none=>rw[q] at e;cases e
 | some o=>
   rw[q] at e
   have e':(b,o)=p:=Option.some.inj e
   subst e'
   exact⟨hb,q⟩
theorem Inv.pinned{pins:List (Addr×Obj)}{σ:St}{H:Hp}{s:Shared}{fp:List Addr}(I:Inv X pins σ H s)(hf:∀b∈fp,A0w X pins H b)(ho:∀b∈fp,∃o,s.heap.get? b=some o/\∀v,o.data≠ .cell v):Inv X (pins++A0t fp s.heap) σ H s:=
 I.pins_of fun p hp=>(List.mem_append.mp hp).elim (fun z=>I.pin p (List.mem_append_right _ z)) fun z=>by
   obtain⟨hb,e⟩:=C6n z
   obtain⟨f0,f1,f2,_⟩:=hf p.1 hb
   obtain⟨o,e',d⟩:=ho p.1 hb
   rw[e] at e';cases e'
   exact⟨e,f0,f1,f2,d⟩
theorem Inv.unpinned{pins pl:List (Addr×Obj)}{σ:St}{H:Hp}{s:Shared}(I:Inv X (pins++pl) σ H s):Inv X pins σ H s:=I.pins_of fun p hp=>I.pin p (List.mem_append_right _ (List.mem_append_left _ hp))
theorem B0s{iter:Expr}{body:List Stmt}{wi:TI}{g:TG}{tb:TS}{pos:Pos}(hp:PassesOwn (model X.prog X.w) X.A X.env X.xe)(hc:X.calm=true)(hi:PI X tg iter wi)(hg:PG X tg g)(hb:PSs X body tb)
   (hs:∀x,foldedSetIterable iter X.env x=pure x:=by intro _;rfl):PS X (.For tg iter body [] pos) (G7j wi g tb):=by
 intro pins s σ H D I h
 refine wpAny_For (thn (hi pins s σ H _ I h) fun v s1 h1=>thn h1 fun itv s2 h2=>?_) hs
 obtain⟨it,fp,tn,J,H2,e,I2,T,st2,f2,W,⟨m0,w0⟩,turn⟩:=h2
 subst e
 have stat:∀{H':Hp},(∀b∈fp,H' b=none) ->∀b∈fp,A0w X pins H' b:=fun hn b hb=>⟨hn b hb,(f2 b hb).2⟩
 refine codeAny_forLoop_any (fun n s'=>∃i σ' H',Inv X pins σ' H' s'/\tn i s'.heap/\(∀b∈fp,H' b=none)/\W i n σ' H') ?_ m0 ⟨0,σ,H2,I2,st2,fun b hb=>(f2 b hb).1,w0⟩
 rintro n s3 ⟨i,σ3,H3,I3,st3,fr3,w3⟩
 rcases turn i n σ3 H3 w3 with⟨stop,qn⟩|⟨go,N,hN,step⟩
 . refine wpAny_passesOwn hp (thn (T.done X rfl rfl rfl hc i pins s3 σ3 H3 X.xe I3 (stat fr3) st3 stop) fun r s4 ⟨hr,I4⟩=>?_)
   subst hr
   exact wpAny_execs_nil ⟨σ3,H3,I4,qn⟩
 refine wpAny_passesOwn hp (thn (T.item X rfl rfl rfl hc i pins s3 σ3 H3 X.xe I3 (stat fr3) st3 go) fun r s4 ⟨u,hr,h4⟩=>?_)
 subst hr
 refine wpAny_passesOwn hp (thn h4 fun _ s5 hh_=>?_)
 obtain⟨x,H5,I5,r5,y5,st5,fr5⟩:=hh_
 have I5':=I5.pinned (stat fr5) (T.obj _ _ st5)
 refine wpAny_passesOwn hp (thn (hg _ s5 σ3 H5 x u _ I5' r5 (step x H5 y5)) fun _ s6 hh_=>?_)
 obtain⟨σ6,H6,I6,q6⟩:=hh_
 refine wpAny_passesOwn hp (thn (hb _ s6 σ6 H6 _ I6 q6) fun f s7 q7=>?_)
 have again:∀{σ7:St} {H7:Hp},Inv X (pins++A0t fp s5.heap) σ7 H7 s7 ->N σ7 H7 ->∃m,m<n/\∃i σ' H',Inv X pins σ' H' s7/\tn i s7.heap/\(∀b∈fp,H' b=none)/\W i m σ' H':=fun{σ7 H7} I7 n7=>by
   obtain⟨m',hm,w7⟩:=hN σ7 H7 n7
   refine⟨m',hm,i+1,σ7,H7,I7.unpinned,T.keep _ _ _ st5 fun b hb o e=>(I7.pin (b,o) (List.mem_append_right _ (List.mem_append_right _ (A0j hb e)))).1,fun b hb=>?_,w7⟩
   obtain⟨o,e,d⟩:=T.obj _ _ st5 b hb
   exact(I7.pin (b,o) (List.mem_append_right _ (List.mem_append_right _ (A0j hb e)))).2.1
 cases f with
 |next=>obtain⟨σ7,H7,I7,n7⟩:=q7;exact again I7 n7
 |cont=>obtain⟨σ7,H7,I7,n7⟩:=q7;exact again I7 n7
 |brk=>obtain⟨σ7,H7,I7,q7⟩:=q7;exact⟨σ7,H7,I7.unpinned,q7⟩
 |ret v=>obtain⟨x7,σ7,H7,I7,r7,q7⟩:=q7;exact⟨x7,σ7,H7,I7.unpinned,r7,q7⟩
end
theorem A7h{K:PySem.W.Frag}{a:Addr}{xs:List V}{g:TG}{tb:TS}{D:B3c}{σ:St}{H:Hp}(Pv:Nat ->St ->Hp ->Prop)(h0:Pv 0 σ H)(hl:∀i σ H,i<=xs.length ->Pv i σ H ->SqL K H a xs)
   (hs:∀i x σ H,xs[i]?=some x ->Pv i σ H ->g x σ H fun σ2 H2=>tb {D with nx:=Pv (i+1),ct:=Pv (i+1),bk:=D.nx} σ2 H2) (hd:∀σ H,Pv xs.length σ H ->D.nx σ H):
   ∃ W:Nat ->Nat ->St ->Hp ->Prop,(∃m,W 0 m σ H)/\∀i m σ H,W i m σ H ->
     ((Itl K a).stop i H/\D.nx σ H)\/((Itl K a).go i H/\∃N:St ->Hp ->Prop,(∀σ' H',N σ' H' ->∃m',m'<m/\W (i+1) m' σ' H')/\∀x H',(Itl K a).yld i H x H' ->g x σ H' fun σ2 H2=>tb {D with nx:=N,ct:=N,bk:=D.nx} σ2 H2):=by
 refine⟨fun i m σ H=>m=xs.length-i/\i<=xs.length/\Pv i σ H,⟨xs.length,by simp,Nat.zero_le _,h0⟩,?_⟩
 rintro i m σ H ⟨rfl,hi,p⟩
 have q:=hl i σ H hi p
 by_cases hlt:i<xs.length
 . refine .inr ⟨⟨xs,xs[i],q,by simp[hlt]⟩,Pv (i+1),fun σ' H' p'=>⟨xs.length-(i+1),by omega,rfl,hlt,p'⟩,fun x H' y=>?_⟩
   obtain⟨e,y⟩:=y
   subst e
   exact hs i x σ _ (y xs q) p
 have e:i=xs.length:=by omega
 subst e
 exact .inl ⟨⟨xs,q,Nat.le_refl _⟩,hd σ H p⟩
theorem A8j{lo:Int}{n:Nat}{g:TG}{tb:TS}{D:B3c}{σ:St}{H:Hp}(Pv:Nat ->St ->Hp ->Prop)(h0:Pv 0 σ H)
   (hs:∀i σ H,i<n ->Pv i σ H ->g (.int (lo+i)) σ H fun σ2 H2=>tb {D with nx:=Pv (i+1),ct:=Pv (i+1),bk:=D.nx} σ2 H2) (hd:∀σ H,Pv n σ H ->D.nx σ H):
   ∃ W:Nat ->Nat ->St ->Hp ->Prop,(∃m,W 0 m σ H)/\∀i m σ H,W i m σ H ->
     ((Itr lo n).stop i H/\D.nx σ H)\/((Itr lo n).go i H/\∃N:St ->Hp ->Prop,(∀σ' H',N σ' H' ->∃m',m'<m/\W (i+1) m' σ' H')/\∀x H',(Itr lo n).yld i H x H' ->g x σ H' fun σ2 H2=>tb {D with nx:=N,ct:=N,bk:=D.nx} σ2 H2):=by
 refine⟨fun i m σ H=>m=n-i/\i<=n/\Pv i σ H,⟨n,by simp,Nat.zero_le _,h0⟩,?_⟩
 rintro i m σ H ⟨rfl,hi,p⟩
 by_cases hlt:i<n
 . refine .inr ⟨hlt,Pv (i+1),fun σ' H' p'=>⟨n-(i+1),by omega,rfl,hlt,p'⟩,fun x H' y=>?_⟩
   obtain⟨e,y⟩:=y
   subst e y
   exact hs i σ _ hlt p
 have e:i=n:=by omega
 subst e
 exact .inl ⟨Nat.le_refl _,hd σ H p⟩
theorem A6y{c:TT}{tb:TS}{D:B3c}{σ:St}{H:Hp}(Pv:St ->Hp ->Prop)(μ:St ->Hp ->Nat)(h0:Pv σ H)
   (hs:∀σ H,Pv σ H ->c σ H fun b H1=>if b=true then tb {D with nx:=fun σ' H'=>Pv σ' H'/\μ σ' H'<μ σ H,ct:=fun σ' H'=>Pv σ' H'/\μ σ' H'<μ σ H,bk:=D.nx} σ H1 else D.nx σ H1)
   (mono:∀σ H Q Q',(∀b H1,Q b H1 ->Q' b H1) ->c σ H Q ->c σ H Q'):C9t c tb D σ H:=by
 refine⟨fun m σ H=>m=μ σ H/\Pv σ H,⟨_,rfl,h0⟩,?_⟩
 rintro m σ H ⟨rfl,p⟩
 refine mono σ H _ _ (fun b H1 q=>?_) (hs σ H p)
 cases b with
 |true=>exact⟨_,fun σ' H' ⟨p',l⟩=>⟨_,l,rfl,p'⟩,q⟩
 |false=>exact q
noncomputable abbrev R2:=V ->V ->Hp ->VK ->Prop
noncomputable def OpR (X:Cx) (f:Value ->Value ->Sem Value) (r:R2):Prop:=
 ∀ (pins:List (Addr×Obj)) (s:Shared) (σ:St) (H:Hp) (x y:V) (v u:Value) (Q:VK),Inv X pins σ H s ->U9 x v ->U9 y u ->r x y H Q ->
   wpAny (model X.prog X.w) X.A (f v u) (EP X pins σ Q) X.xe s
noncomputable def UnR (X:Cx) (f:Value ->Sem Value) (r:V ->Hp ->VK ->Prop):Prop:=
 ∀ (pins:List (Addr×Obj)) (s:Shared) (σ:St) (H:Hp) (x:V) (v:Value) (Q:VK),Inv X pins σ H s ->U9 x v ->r x H Q ->
   wpAny (model X.prog X.w) X.A (f v) (EP X pins σ Q) X.xe s
noncomputable def A1b (X:Cx) (f:Value) (r:List V ->Hp ->VK ->Prop):Prop:=
 ∀ (pins:List (Addr×Obj)) (s:Shared) (σ:St) (H:Hp) (xs:List V) (us:List Value) (Q:VK),Inv X pins σ H s ->G7 xs us ->r xs H Q ->
   wpAny (model X.prog X.w) X.A (call f us) (EP X pins σ Q) X.xe s
noncomputable def tOp (r:R2) (ta tb:TE):TE:=fun σ H Q=>ta σ H fun x H1=>tb σ H1 fun y H2=>r x y H2 Q
noncomputable def tUn (r:V ->Hp ->VK ->Prop) (ta:TE):TE:=fun σ H Q=>ta σ H fun x H1=>r x H1 Q
noncomputable def rI (C:Int ->Int ->Prop) (g:Int ->Int ->V):R2:=fun x y H Q=>∃i j,x= .int i/\y= .int j/\C i j/\Q (g i j) H
noncomputable def rI0 (g:Int ->Int ->V):R2:=fun x y H Q=>∃i j,x= .int i/\y= .int j/\Q (g i j) H
noncomputable def rU (g:Int ->V):V ->Hp ->VK ->Prop:=fun x H Q=>∃i,x= .int i/\Q (g i) H
section
variable{X:Cx}{a b c:Expr}{ta tb tc:TE}{pos:Pos}
theorem G0y(ha:PE X a ta)(hb:PE X b tb){pins:List (Addr×Obj)}{s:Shared}{σ:St}{H:Hp}{R:V ->V ->Hp ->Prop}(I:Inv X pins σ H s)
   (h:ta σ H fun x H1=>tb σ H1 fun y H2=>R x y H2) {Q:Value ->Shared ->Prop} {f:Value ->Value ->Sem Value}
   (hf:∀v u s2 x y H2,Inv X pins σ H2 s2 ->U9 x v ->U9 y u ->R x y H2 ->wpAny (model X.prog X.w) X.A (f v u) Q X.xe s2):
   wpAny (model X.prog X.w) X.A (eval a X.env) (fun v s₁=>wpAny (model X.prog X.w) X.A (eval b X.env) (fun u s₂=>wpAny (model X.prog X.w) X.A (f v u) Q X.xe s₂) X.xe s₁) X.xe s:=by
 refine thn (ha pins s σ H _ I h) fun v s1 hh_=>?_
 obtain⟨x,H1,I1,r1,q1⟩:=hh_
 refine thn (hb pins s1 σ H1 _ I1 q1) fun u s2 hh_=>?_
 obtain⟨y,H2,I2,r2,q2⟩:=hh_
 exact hf v u s2 x y H2 I2 r1 r2 q2
theorem A9{op:Operator}{r:R2}(ho:OpR X (binaryOp op) r)(ha:PE X a ta)(hb:PE X b tb):PE X (.BinOp a op b pos) (tOp r ta tb):=by
 intro pins s σ H Q I h
 exact wpAny_BinOp (G0y ha hb I h fun v u s2 x y H2 I2 rx ry q=>ho pins s2 σ H2 x y v u Q I2 rx ry q)
theorem A1q{op:UnaryOp}{r:V ->Hp ->VK ->Prop}(ho:UnR X (unaryOp op) r)(ha:PE X a ta):PE X (.UnaryOp op a pos) (tUn r ta):=by
 intro pins s σ H Q I h
 exact UnaryOp_ (thn (ha pins s σ H _ I h) fun v s1 ⟨x,H1,I1,r1,q1⟩=>ho pins s1 σ H1 x v Q I1 r1 q1)
theorem opI{f:Value ->Value ->Sem Value}{C:Int ->Int ->Prop}{g:Int ->Int ->Int}
   (rule:∀(i j:Int) (t u:Tok) (s:Shared) (Q:Value ->Shared ->Prop) (E:Value ->Shared ->Prop),C i j ->Q (.int (g i j) s.toks) {s with toks:=s.toks+1} ->wpAny (model X.prog X.w) X.A (f (.int i t) (.int j u)) Q E s):
   OpR X f (rI C fun i j=> .int (g i j)):=by
 intro pins s σ H x y v u Q I rx ry h
 obtain⟨i,j,rfl,rfl,hc,q⟩:=h
 obtain⟨t,rfl⟩:=rx
 obtain⟨t',rfl⟩:=ry
 exact rule i j t t' s _ _ hc ⟨.int (g i j),H,I.tok _,⟨_,rfl⟩,q⟩
theorem G6y{f:Value ->Value ->Sem Value}{g:Int ->Int ->Int}
   (rule:∀(i j:Int) (t u:Tok) (s:Shared) (Q:Value ->Shared ->Prop) (E:Value ->Shared ->Prop),Q (.int (g i j) s.toks) {s with toks:=s.toks+1} ->wpAny (model X.prog X.w) X.A (f (.int i t) (.int j u)) Q E s):
   OpR X f (rI0 fun i j=> .int (g i j)):=by
 intro pins s σ H x y v u Q I rx ry h
 obtain⟨i,j,rfl,rfl,q⟩:=h
 obtain⟨t,rfl⟩:=rx
 obtain⟨t',rfl⟩:=ry
 exact rule i j t t' s _ _ ⟨.int (g i j),H,I.tok _,⟨_,rfl⟩,q⟩
theorem D7z{f:Value ->Value ->Sem Value}{g:Int ->Int ->Bool}
   (rule:∀(i j:Int) (t u:Tok) (s:Shared) (Q:Value ->Shared ->Prop) (E:Value ->Shared ->Prop),Q (.bool (g i j)) s ->wpAny (model X.prog X.w) X.A (f (.int i t) (.int j u)) Q E s):
   OpR X f (rI0 fun i j=> .bl (g i j)):=by
 intro pins s σ H x y v u Q I rx ry h
 obtain⟨i,j,rfl,rfl,q⟩:=h
 obtain⟨t,rfl⟩:=rx
 obtain⟨t',rfl⟩:=ry
 exact rule i j t t' s _ _ ⟨.bl (g i j),H,I,rfl,q⟩
noncomputable def D6z (i j:Int):Prop:=0<=j/\j<=1000000/\i.natAbs<2^64
noncomputable def A2a (i j:Int):Prop:=(-(2^64)<i/\i<2^64)\/(-(2^64)<j/\j<2^64)
theorem A2a.ok{i j:Int}(h:A2a i j):IntMulOk i j:=by
 rcases h with⟨h1,h2⟩|⟨h1,h2⟩
 . exact .of_left (intBits_le_64 h1 h2)
 exact .of_right (intBits_le_64 h1 h2)
theorem U7:OpR X (binaryOp .Add) (rI0 fun i j=> .int (i+j)):=G6y fun _ _ _ _ _ _ _ q=>add_int q
theorem V3:OpR X (binaryOp .Sub) (rI0 fun i j=> .int (i-j)):=G6y fun _ _ _ _ _ _ _ q=>sub_int q
theorem U3:OpR X (binaryOp .Mod) (rI (fun _ j=>0<j) fun i j=> .int (i % j)):=opI fun i j _ _ _ _ _ hc q=>by
 have h1:(0:Int)<j:=hc
 exact mod_int' (by omega) (by rw[Int.fmod_eq_emod_of_nonneg i (by omega)];exact q)
theorem B6d:OpR X (binaryOp .Pow) (rI D6z fun i j=> .int (i^j.toNat)):=opI fun _ _ _ _ _ _ _ hc q=>pow_int_small hc.1 hc.2.1 hc.2.2 q
theorem unI{f:Value ->Sem Value}{g:Int ->Int}
   (rule:∀(i:Int) (t:Tok) (s:Shared) (Q:Value ->Shared ->Prop) (E:Value ->Shared ->Prop),Q (.int (g i) s.toks) {s with toks:=s.toks+1} ->wpAny (model X.prog X.w) X.A (f (.int i t)) Q E s):
   UnR X f (rU fun i=> .int (g i)):=by
 intro pins s σ H x v Q I rx h
 obtain⟨i,rfl,q⟩:=h
 obtain⟨t,rfl⟩:=rx
 exact rule i t s _ _ ⟨.int (g i),H,I.tok _,⟨_,rfl⟩,q⟩
theorem A0m:UnR X (unaryOp .USub) (rU fun i=> .int (-i)):=unI fun _ _ _ _ _ q=>neg_int q
end
noncomputable def G8n:V ->V ->Bool
 | .non,.non=>true| .non,.int _=>true| .int _,.non=>true| .non,.bl _=>true| .bl _,.non=>true| .non,.str _=>true| .str _,.non=>true
 | .int _,.int _=>true| .bl _,.bl _=>true| .str _,.str _=>true| .byt _,.byt _=>true
 | .int _,.str _=>true| .str _,.int _=>true| .bl _,.str _=>true| .str _,.bl _=>true
 |_,_=>false
noncomputable def rEq:R2:=fun x y H Q=>G8n x y=true/\Q (.bl (decide (x=y))) H
noncomputable def rNe:R2:=fun x y H Q=>G8n x y=true/\Q (.bl (!decide (x=y))) H
theorem C4b{i j:Int}:decide (V.int i=V.int j)=(i==j):=by
 rw[Bool.eq_iff_iff]
 simp
theorem D1c{i j:Bool}:decide (V.bl i=V.bl j)=(i==j):=by
 rw[Bool.eq_iff_iff]
 simp
theorem C2g{i j:Str}:decide (V.str i=V.str j)=(i==j):=by
 rw[Bool.eq_iff_iff]
 simp
theorem C2d{i j:Array UInt8}:decide (V.byt i=V.byt j)=(i.toList==j.toList):=by
 rw[Bool.eq_iff_iff]
 cases i
 cases j
 simp
section
variable{X:Cx}{a b c:Expr}{ta tb tc:TE}{pos:Pos}
theorem V4{pins:List (Addr×Obj)}{σ:St}{H:Hp}{s:Shared}{Q:VK}{k k':Bool}(I:Inv X pins σ H s)(q:Q (.bl k) H)(e:k=k'):EP X pins σ Q (.bool k') s:=by
 subst e
 exact⟨.bl k,H,I,rfl,q⟩
theorem G4:OpR X (compareOp .Eq) rEq:=by
 intro pins s σ H x y v u Q I rx ry h
 obtain⟨hs,q⟩:=h
 cases x with
 | non=>
   cases rx
   cases y with
   |non=>cases ry;exact PySem.EqNone.eq_none_none (V4 I q (by simp))
   |bl j=>cases ry;exact PySem.EqNone.eq_none_bool (V4 I q (by simp))
   |int j=>obtain⟨t',rfl⟩:=ry;exact PySem.EqNone.eq_none_int (V4 I q (by simp))
   |str j=>obtain⟨t',rfl⟩:=ry;exact PySem.EqNone.eq_none_str (V4 I q (by simp))
   |_=>exact absurd (show false=true from hs) Bool.false_ne_true
 | bl i=>
   cases rx
   cases y with
   |non=>cases ry;exact PySem.EqNone.eq_bool_none (V4 I q (by simp))
   |bl j=>cases ry;exact eq_bool (V4 I q D1c)
   |str j=>obtain⟨t',rfl⟩:=ry;exact PySem.EqMixed.eq_bool_str (V4 I q (by simp))
   |_=>exact absurd (show false=true from hs) Bool.false_ne_true
 | int i=>
   obtain⟨t,rfl⟩:=rx
   cases y with
   |non=>cases ry;exact PySem.EqNone.eq_int_none (V4 I q (by simp))
   |int j=>obtain⟨t',rfl⟩:=ry;exact eq_int (V4 I q C4b)
   |str j=>obtain⟨t',rfl⟩:=ry;exact PySem.EqMixed.eq_int_str (V4 I q (by simp))
   |_=>exact absurd (show false=true from hs) Bool.false_ne_true
 | str i=>
   obtain⟨t,rfl⟩:=rx
   cases y with
   |non=>cases ry;exact PySem.EqNone.eq_str_none (V4 I q (by simp))
   |bl j=>cases ry;exact PySem.EqMixed.eq_str_bool (V4 I q (by simp))
   |int j=>obtain⟨t',rfl⟩:=ry;exact PySem.EqMixed.eq_str_int (V4 I q (by simp))
   |str j=>obtain⟨t',rfl⟩:=ry;exact eq_str (V4 I q C2g)
   |_=>exact absurd (show false=true from hs) Bool.false_ne_true
 | byt i=>
   obtain⟨t,rfl⟩:=rx
   cases y with
   |byt j=>obtain⟨t',rfl⟩:=ry;exact PySem.W.eq_bytes (V4 I q C2d)
   |_=>exact absurd (show false=true from hs) Bool.false_ne_true
 |_=>cases y<;>exact absurd (show false=true from hs) Bool.false_ne_true
theorem C3a:OpR X (compareOp .NotEq) rNe:=by
 intro pins s σ H x y v u Q I rx ry h
 obtain⟨hs,q⟩:=h
 cases x with
 | non=>
   cases rx
   cases y with
   |non=>cases ry;exact PySem.EqNone.ne_none_none (V4 I q (by simp))
   |bl j=>cases ry;exact PySem.EqNone.ne_none_bool (V4 I q (by simp))
   |int j=>obtain⟨t',rfl⟩:=ry;exact PySem.EqNone.ne_none_int (V4 I q (by simp))
   |str j=>obtain⟨t',rfl⟩:=ry;exact PySem.EqNone.ne_none_str (V4 I q (by simp))
   |_=>exact absurd (show false=true from hs) Bool.false_ne_true
 | bl i=>
   cases rx
   cases y with
   |non=>cases ry;exact PySem.EqNone.ne_bool_none (V4 I q (by simp))
   |bl j=>cases ry;exact ne_bool (V4 I q (congrArg not D1c))
   |str j=>obtain⟨t',rfl⟩:=ry;exact PySem.EqMixed.ne_bool_str (V4 I q (by simp))
   |_=>exact absurd (show false=true from hs) Bool.false_ne_true
 | int i=>
   obtain⟨t,rfl⟩:=rx
   cases y with
   |non=>cases ry;exact PySem.EqNone.ne_int_none (V4 I q (by simp))
   |int j=>obtain⟨t',rfl⟩:=ry;exact ne_int (V4 I q (congrArg not C4b))
   |str j=>obtain⟨t',rfl⟩:=ry;exact PySem.EqMixed.ne_int_str (V4 I q (by simp))
   |_=>exact absurd (show false=true from hs) Bool.false_ne_true
 | str i=>
   obtain⟨t,rfl⟩:=rx
   cases y with
   |non=>cases ry;exact PySem.EqNone.ne_str_none (V4 I q (by simp))
   |bl j=>cases ry;exact PySem.EqMixed.ne_str_bool (V4 I q (by simp))
   |int j=>obtain⟨t',rfl⟩:=ry;exact PySem.EqMixed.ne_str_int (V4 I q (by simp))
   |str j=>obtain⟨t',rfl⟩:=ry;exact ne_str (V4 I q (congrArg not C2g))
   |_=>exact absurd (show false=true from hs) Bool.false_ne_true
 | byt i=>
   obtain⟨t,rfl⟩:=rx
   cases y with
   |byt j=>obtain⟨t',rfl⟩:=ry;exact PySem.W.ne_bytes (V4 I q (congrArg not C2d))
   |_=>exact absurd (show false=true from hs) Bool.false_ne_true
 |_=>cases y<;>exact absurd (show false=true from hs) Bool.false_ne_true
theorem A3y:OpR X (compareOp .Lt) (rI0 fun i j=> .bl (decide (i<j))):=D7z fun _ _ _ _ _ _ _ q=>lt_int q
theorem G0q:OpR X (compareOp .LtE) (rI0 fun i j=> .bl (decide (i<=j))):=D7z fun _ _ _ _ _ _ _ q=>le_int q
theorem A2f:OpR X (compareOp .Gt) (rI0 fun i j=> .bl (decide (j<i))):=D7z fun _ _ _ _ _ _ _ q=>gt_int q
theorem C3q:OpR X (compareOp .GtE) (rI0 fun i j=> .bl (decide (j<=i))):=D7z fun _ _ _ _ _ _ _ q=>ge_int q
theorem G2n:OpR X (compareOp .Is) (fun x y H Q=>y= .non/\Q (.bl (decide (x= .non))) H):=by
 intro pins s σ H x y v u Q I rx ry h
 obtain⟨rfl,q⟩:=h
 cases ry
 refine is_none_gen (V4 I q ?_)
 cases x<;>first
   |(cases rx;rfl)
   |(obtain⟨t,rfl⟩:=rx;rfl)
theorem B9(b:Expr){op:CmpOp}(h:op≠ .In:=by decide)(h2:op≠ .NotIn:=by decide):behindInMarks op b=false:=by
 have e1:(op==CmpOp.In)=false:=by cases op<;>first|rfl|exact absurd rfl h
 have e2:(op==CmpOp.NotIn)=false:=by cases op<;>first|rfl|exact absurd rfl h2
 cases b<;>simp[behindInMarks,e1,e2]
theorem D9{op:CmpOp}{r:R2}(ho:OpR X (compareOp op) r)(ha:PE X a ta)(hb:PE X b tb)(hm:behindInMarks op b=false):PE X (.Compare a [op] [b] pos) (tOp r ta tb):=by
 intro pins s σ H Q I h
 exact wpAny_Compare1 (G0y ha hb I h fun v u s2 x y H2 I2 rx ry q=>ho pins s2 σ H2 x y v u Q I2 rx ry q) hm
noncomputable def G6q (t:TE):TT:=fun σ H Q=>t σ H fun x H'=>∃k,x= .bl k/\Q k H'
theorem C8{op:CmpOp}{r:R2}(ho:OpR X (compareOp op) r)(ha:PE X a ta)(hb:PE X b tb)(hm:behindInMarks op b=false):PT X (.Compare a [op] [b] pos) (G6q (tOp r ta tb)):=by
 intro pins s σ H Q I h
 refine wpAny_isTrue_Compare1 (thn (ha pins s σ H _ I h) fun v s1 ⟨x,H1,I1,r1,q1⟩=>thn (hb pins s1 σ H1 _ I1 q1) fun u s2 ⟨y,H2,I2,r2,q2⟩=>
   thn (ho pins s2 σ H2 x y v u _ I2 r1 r2 q2) fun c s3 ⟨z,H3,I3,r3,k,e,q3⟩=>?_) hm
 subst e
 cases r3
 exact wpAny_truthy_bool ⟨H3,I3,q3⟩
theorem B6e:(sizeLine:Nat)<2^63:=by rw[sizeLine_eq];decide
theorem C0j:OpR X (binaryOp .Add) (fun x y H Q=>∃i j,x= .str i/\y= .str j/\i.length+j.length<=sizeLine/\Q (.str (i++j)) H):=by
 intro pins s σ H x y v u Q I rx ry h
 obtain⟨i,j,rfl,rfl,hz,q⟩:=h
 obtain⟨t,rfl⟩:=rx
 obtain⟨t',rfl⟩:=ry
 exact add_str (fun t' tk=>⟨.str (i++j),H,I.tok _,⟨_,rfl⟩,q⟩) hz
theorem A7g{x:V}{us:List Value}(r:G7 [x] us):∃u,us=[u]/\U9 x u:=by
 cases r with
 |cons r1 r2=>cases r2;exact⟨_,rfl,r1⟩
theorem B8x{x y:V}{us:List Value}(r:G7 [x,y] us):∃u w',us=[u,w']/\U9 x u/\U9 y w':=by
 cases r with
 | cons r1 r2=>
   cases r2 with
   |cons r3 r4=>cases r4;exact⟨_,_,rfl,r1,r3⟩
theorem B2h:A1b X (.builtin "abs") (fun xs H Q=>∃i,xs=[.int i]/\Q (.int (if i<0 then -i else i)) H):=by
 intro pins s σ H xs us Q I r h
 obtain⟨i,rfl,q⟩:=h
 obtain⟨u,rfl,t,rfl⟩:=A7g r
 exact call_abs_int fun u tk=>⟨.int (if i<0 then -i else i),H,I.tok _,⟨_,rfl⟩,q⟩
theorem A7z(hc:X.calm=true):A1b X (.builtin "max") (fun xs H Q=>∃i j,xs=[.int i,.int j]/\Q (.int (if j>i then j else i)) H):=by
 intro pins s σ H xs us Q I r h
 obtain⟨i,j,rfl,q⟩:=h
 obtain⟨u,w',rfl,⟨t,rfl⟩,⟨t',rfl⟩⟩:=B8x r
 refine max_two_ints (I.ok.hd hc) fun h' tk k=>⟨_,H,I.kept k,?_,q⟩
 by_cases hj:j>i
 . rw[if_pos hj,if_pos hj];exact⟨_,rfl⟩
 rw[if_neg hj,if_neg hj];exact⟨_,rfl⟩
theorem B3n(hc:X.calm=true):A1b X (.builtin "min") (fun xs H Q=>∃i j,xs=[.int i,.int j]/\Q (.int (if j<i then j else i)) H):=by
 intro pins s σ H xs us Q I r h
 obtain⟨i,j,rfl,q⟩:=h
 obtain⟨u,w',rfl,⟨t,rfl⟩,⟨t',rfl⟩⟩:=B8x r
 refine min_two_ints (I.ok.hd hc) fun h' tk k=>⟨_,H,I.kept k,?_,q⟩
 by_cases hj:j<i
 . rw[if_pos hj,if_pos hj];exact⟨_,rfl⟩
 rw[if_neg hj,if_neg hj];exact⟨_,rfl⟩
theorem A0q:A1b X (.type "int") (fun xs H Q=>(∃i,xs=[.int i]/\Q (.int i) H)\/∃k,xs=[.bl k]/\Q (.int (if k then 1 else 0)) H):=by
 intro pins s σ H xs us Q I r h
 rcases h with⟨i,rfl,q⟩|⟨k,rfl,q⟩
 . obtain⟨u,rfl,t,rfl⟩:=A7g r
   exact call_int_int ⟨.int i,H,I,⟨_,rfl⟩,q⟩
 obtain⟨u,rfl,r1⟩:=A7g r
 cases r1
 exact call_int_bool ⟨.int (if k then 1 else 0),H,I.tok _,⟨_,rfl⟩,q⟩
theorem A6n:A1b X (.type "str") (fun xs H Q=>∃i,xs=[.int i]/\i.natAbs.log2<1920/\Q (.str (toString i)) H):=by
 intro pins s σ H xs us Q I r h
 obtain⟨i,rfl,hz,q⟩:=h
 obtain⟨u,rfl,t,rfl⟩:=A7g r
 exact PySem.P.str_of_int hz ⟨.str _,H,I.tok _,⟨_,rfl⟩,q⟩
end
structure C1s(h:Heap)(x dx C:Addr)(mA:Str ->Option Value):Prop where
 obj:h.get? x=some (PySem.W.instObj C dx)
 ns:h.Ns1 dx mA
 ne:dx≠x
theorem A7w{h:Heap}{dx:Addr}{mA:Str ->Option Value}(n:h.Ns1 dx mA):∃od,h.get? dx=some od/\∀name,PySem.W.lookIn name od=some (mA name):=by
 obtain⟨o,es,ep,ho,hd,hk,_,hm⟩:=n
 refine⟨o,ho,fun name=>?_⟩
 have e:=hm name
 unfold nsFind findBy at e
 rw[<-Array.find?_toList] at e
 unfold PySem.W.lookIn
 rw[hd]
 dsimp only
 split
 . rename_i y q
   rw[q] at e
   exact congrArg some e
 rename_i q
 rw[q] at e
 have a:es.toList.any (·.refKey)=false:=by
   rw[List.any_eq_false]
   intro y hy
   obtain⟨z,t,hkey⟩:=hk y (Array.mem_toList_iff.mp hy)
   simp[DictEntry.refKey,hkey]
 have a':¬es.toList.any (·.refKey)=true:=by rw[a];exact Bool.false_ne_true
 rw[if_neg a']
 exact congrArg some e
theorem C1s.look{h:Heap}{x dx C:Addr}{mA:Str ->Option Value}(I:C1s h x dx C mA):∃od,PySem.W.InstAt h x (PySem.W.instObj C dx) C (some od)/\∀name,PySem.W.lookIn name od=some (mA name):=
 let⟨od,ho,hl⟩:=A7w I.ns
 ⟨od,⟨I.obj,rfl,rfl,ho⟩,hl⟩
section
variable{prog:Program}{w:World}{A:Around}{E:Value ->Shared ->Prop}{s:Shared}{K:PySem.W.Frag}{x dx C f:Addr}{mA:Str ->Option Value}{name:Str}{v:Value}
theorem D8b{expr:Bool}{Q:Value ->Shared ->Prop}(X:K.In s.heap)(I:C1s s.heap x dx C mA)(hg:PySem.W.plainGet K C name=true)(hh:PySem.W.hasDictIn K C=true)
   (ha:PySem.W.findIn K (.ref C) name=some none) (hv:mA name=some v) (hv':PySem.W.handedIn v=true) (h:Q v {s with toks:=s.toks+1}):
   wpAny (model prog w) A (getAttr (.ref x) name expr) Q E s:=by
 obtain⟨od,J,hl⟩:=I.look
 exact PySem.W.get_value X J (PySem.W.plainGet_of hg).1 (PySem.W.findObj_own hh ha rfl (by rw[hl,hv])) hv' h
theorem D0w{pl:Sem Bool}{Q:Value×List Value ->Shared ->Prop}(X:K.In s.heap)(I:C1s s.heap x dx C mA)(hg:PySem.W.plainGet K C name=true)
   (hf:PySem.W.findIn K (.ref C) name=some (some (.ref f))) (ht:PySem.W.isFn K (.ref f)=true) (hv:mA name=none) (h:Q (.ref f,[.ref x]) s):
   wpAny (model prog w) A (getMethod (.ref x) name pl) Q E s:=by
 obtain⟨od,J,hl⟩:=I.look
 exact PySem.W.method_fn X J (PySem.W.plainGet_of hg).1 (PySem.W.plainGet_of hg).2 hf (beq_iff_eq.mp ht) (by show(PySem.W.lookIn name od).map (·.isSome)=some false;rw[hl,hv];rfl) h
theorem D8q{ns:List Str}{Q:Unit ->Shared ->Prop}(X:K.In s.heap)(I:C1s s.heap x dx C mA)
   (hs:PySem.W.findIn K (.ref C) "__setattr__"=some (some (.builtin "object.__setattr__"))) (hp:PySem.W.plainOver K C=true) (ht:PySem.W.takerIn K C name=some none) (hh:PySem.W.hasDictIn K C=true)
   (hw:PySem.Within mA ns) (hsz:ns.length<=sizeLine)
   (h:∀h',C1s h' x dx C (fun y=>if y=name then some v else mA y) ->Heap.SameBut dx s.heap h' ->Q () {s with heap:=h',toks:=s.toks+2}):
   wpAny (model prog w) A (setAttr (.ref x) name v) Q E s:=by
 obtain⟨od,J,hl⟩:=I.look
 refine PySem.W.set_plain X J hs (PySem.W.osa_open (s:={s with toks:=s.toks+1}) (r:=none) X J hp ht fun b=>?_)
 obtain⟨cd,hc,hd'⟩:=PySem.W.any_some hh
 have hx:s.heap.get? x=some ⟨.ref C,some dx,.plain, #[]⟩:=I.obj
 refine wpAny_bind (wpAny_pure (wpAny_bind (wpAny_bind (wpAny_loadPart hx (wpAny_bind (PySem.W.Looks.here (s:={s with toks:=s.toks+1}) (PySem.W.looks_clsIn X hc) ?_))))))
 rw[hd']
 refine wpAny_pure (a:=some dx) (wpAny_bind (wpAny_pure (wpAny_bind ?_)))
 refine wpAny_nsSet1 (s:={s with toks:=s.toks+1}) I.ns fun h' hn2 hs2=>?_
 obtain⟨oD,esD,epD,hoD,hdD,hcD⟩:=hn2.count (PySem.Within.cons name v hw)
 refine wpAny_bind (wpAny_lookBehind hoD (by rw[hdD];exact pastItsLine_dict (Nat.le_trans hcD (by rw[List.length_cons];omega))) ?_)
 exact wpAny_pure (h _ ⟨(hs2.2 _ (Ne.symm I.ne)).trans I.obj,hn2,I.ne⟩ hs2)
theorem B8v{R:Result ->Shared ->Prop}{vs:List Value}{kw:List (Str×Value)}(X:K.In s.heap)(hm:PySem.W.makesIn K C=true)
   (hi:PySem.W.findIn K (.ref C) "__init__"=some (some (.ref f))) (hf:PySem.W.typeIn K (.ref f)=some (.type "function"))
   (h:codeAny (model prog w) (A.under (.builtin "type.__call__" ⟨.ref C::vs,kw⟩)) (.call (.ref f) ⟨.ref (s.heap.objs.size+1)::vs,kw⟩) (PySem.W.InitBack (s.heap.objs.size+1) R)
     {s with heap:=(s.heap.push PySem.W.emptyDict).push (PySem.W.instObj C s.heap.objs.size)}):
   codeAny (model prog w) A (.call (.ref C) ⟨vs,kw⟩) R s:=by
 obtain⟨hh,g,d,t,os⟩:=s
 exact PySem.W.make_core (PySem.W.makes_of X hm) (PySem.W.looks_findIn X hi) (fun self=>PySem.W.bind_fn X self hf) (.inl rfl) h
theorem C5h{R:Result ->Shared ->Prop}(X:K.In s.heap)(hm:PySem.W.makesIn K C=true)
   (hi:PySem.W.findIn K (.ref C) "__init__"=some (some (.builtin "object.__init__")))
   (hb:∀self,PySem.W.Looks (model prog w) s.heap (bindSpecial (.builtin "object.__init__") self) (.builtin "object.__init__",[self]))
   (h:codeAny (model prog w) (A.under (.builtin "type.__call__" ⟨[.ref C],[]⟩)) (.call (.builtin "object.__init__") ⟨[.ref (s.heap.objs.size+1)],[]⟩) (PySem.W.InitBack (s.heap.objs.size+1) R)
     {s with heap:=(s.heap.push PySem.W.emptyDict).push (PySem.W.instObj C s.heap.objs.size)}):
   codeAny (model prog w) A (.call (.ref C) ⟨[],[]⟩) R s:=by
 obtain⟨hh,g,d,t,os⟩:=s
 exact PySem.W.make_core (PySem.W.makes_of X hm) (PySem.W.looks_findIn X hi) hb (.inr ⟨rfl,rfl⟩) h
end
noncomputable def Y7 (f:Str) (v:V):List (Str×V) ->List (Str×V)
 | []=>[(f,v)]
 |(g,x)::r=>if g=f then(g,v)::r else(g,x)::Y7 f v r
theorem G8(f g:Str)(v:V):∀fs:List (Str×V),(Y7 f v fs).lookup g=if g=f then some v else fs.lookup g
 | []=>by
   show List.lookup g [(f,v)]=_
   by_cases h:g=f
   . have hb:(g==f)=true:=beq_iff_eq.mpr h
     simp only[List.lookup,hb,if_pos h]
   . have hb:(g==f)=false:=beq_eq_false_iff_ne.mpr h
     simp only[List.lookup,hb,if_neg h]
 | (k, x)::r=>by
   have ih:=G8 f g v r
   rw[show Y7 f v ((k,x)::r)=(if k=f then(k,v)::r else(k,x)::Y7 f v r) from rfl]
   by_cases hk:k=f
   . rw[if_pos hk]
     by_cases h:g=k
     . have hb:(g==k)=true:=beq_iff_eq.mpr h
       simp only[List.lookup,hb,if_pos (h.trans hk)]
     . have hb:(g==k)=false:=beq_eq_false_iff_ne.mpr h
       simp only[List.lookup,hb,if_neg (fun e:g=f=>h (e.trans hk.symm))]
   . rw[if_neg hk]
     by_cases h:g=k
     . have hb:(g==k)=true:=beq_iff_eq.mpr h
       simp only[List.lookup,hb,if_neg (fun e:g=f=>hk (h.symm.trans e))]
     . have hb:(g==k)=false:=beq_eq_false_iff_ne.mpr h
       simp only[List.lookup,hb]
       exact ih
theorem A7u(f:Str)(v:V):∀fs:List (Str×V),f∈(Y7 f v fs).map (·.1)/\∀g,g∈fs.map (·.1) ->g∈(Y7 f v fs).map (·.1)
 | []=>⟨by simp[Y7],fun g h=>by simp at h⟩
 | (k, x)::r=>by
   obtain⟨i1,i2⟩:=A7u f v r
   rw[show Y7 f v ((k,x)::r)=(if k=f then(k,v)::r else(k,x)::Y7 f v r) from rfl]
   by_cases hk:k=f
   . rw[if_pos hk]
     subst hk
     exact⟨by simp,fun g h=>by simpa using h⟩
   . rw[if_neg hk]
     refine⟨?_,fun g h=>?_⟩
     . rw[List.map_cons]
       exact List.mem_cons_of_mem _ i1
     . rw[List.map_cons] at h ⊢
       rcases List.mem_cons.mp h with e|e
       . exact List.mem_cons.mpr (.inl e)
       . exact List.mem_cons_of_mem _ (i2 g e)
theorem A1t(f:Str)(v:V):∀fs:List (Str×V),(Y7 f v fs).length<=fs.length+1
 | []=>by simp[Y7]
 | (k,x)::r=>by
   have ih:=A1t f v r
   rw[show Y7 f v ((k,x)::r)=(if k=f then(k,v)::r else(k,x)::Y7 f v r) from rfl]
   by_cases hk:k=f
   . rw[if_pos hk,List.length_cons,List.length_cons];omega
   . rw[if_neg hk,List.length_cons,List.length_cons];omega
theorem A4g.some_of{v:V}{o:Option Value}(r:A4g (some v) o):∃u,o=some u/\U9 v u:=by
 cases o with
 |none=>exact(show False from r).elim
 |some u=>exact⟨u,rfl,r⟩
theorem A4g.none_of{o:Option Value}(r:A4g none o):o=none:=by
 cases o with
 |none=>rfl
 |some u=>exact(show False from r).elim
theorem B3w{v:V}{u:Value}(r:U9 v u):PySem.W.handedIn u=true:=by
 cases v with
 |non=>cases(show u=Value.none from r);rfl
 |bl b=>cases(show u=Value.bool b from r);rfl
 |int i=>obtain⟨t,e⟩:=(show∃t,u=Value.int i t from r);cases e;rfl
 |str x=>obtain⟨t,e⟩:=(show∃t,u=Value.str x t from r);cases e;rfl
 |byt b=>obtain⟨t,e⟩:=(show∃t,u=Value.bytes b t from r);cases e;rfl
 |flt b=>obtain⟨t,e⟩:=(show∃t,u=Value.float b t from r);cases e;rfl
 |ref a=>cases(show u=Value.ref a from r);rfl
 |ty n=>cases(show u=Value.type n from r);rfl
section
variable{P:Program}{w:World}{H H':Hp}{h h':Heap}{a C dx:Addr}{fs fs':List (Str×V)}
theorem A9t(hok:HOk P w H h)(e:H a=some (.ins C dx fs)):∃mA,C1s h a dx C mA/\(∀f,A4g (fs.lookup f) (mA f))/\PySem.Within mA (fs.map (·.1))/\fs.length<=1000/\H dx=some (.own a):=by
 obtain⟨d,z,ne,ob,mA,n,r,q⟩:=(show Y9 P w H h a (.ins C dx fs) from hok a _ e)
 exact⟨mA,⟨ob,n,ne⟩,r,q,z,d⟩
end
structure Cls(K:PySem.W.Frag)(C:Addr):Prop where
 pg:PySem.W.plainGet K C Str.empty=true
 hd:PySem.W.hasDictIn K C=true
 po:PySem.W.plainOver K C=true
 sa:PySem.W.findIn K (.ref C) "__setattr__"=some (some (.builtin "object.__setattr__"))
theorem Cls.get{K:PySem.W.Frag}{C:Addr}(c:Cls K C)(f:Str):PySem.W.plainGet K C f=true:=c.pg
noncomputable def A0b (K:PySem.W.Frag) (C:Addr) (f:Str):Prop:=PySem.W.findIn K (.ref C) f=some none
theorem A0b.taker{K:PySem.W.Frag}{C:Addr}{f:Str}(n:A0b K C f):PySem.W.takerIn K C f=some none:=by
 unfold PySem.W.takerIn
 rw[show PySem.W.findIn K (.ref C) f=some none from n]
 rfl
structure A7s(K:PySem.W.Frag)(C:Addr)(m:Str)(f:Addr):Prop where
 at_:PySem.W.findIn K (.ref C) m=some (some (.ref f))
 fn:PySem.W.isFn K (.ref f)=true
 kp:PySem.W.keepIn K (.ref f)=true
section
variable{X:Cx}{pins:List (Addr×Obj)}{σ:St}{H:Hp}{s:Shared}{a C dx:Addr}{fs:List (Str×V)}{f:Str}{v:V}{A:Around}{E:Value ->Shared ->Prop}
theorem B9s{b:Bool}{Q:Value ->Shared ->Prop}(I:Inv X pins σ H s)(e:H a=some (.ins C dx fs))(c:Cls X.K C)(n:A0b X.K C f)(l:fs.lookup f=some v)
   (h:∀u s',Inv X pins σ H s' ->U9 v u ->Q u s'):wpAny (model X.prog X.w) A (getAttr (.ref a) f b) Q E s:=by
 obtain⟨mA,O,r,_,_,_⟩:=A9t I.hok e
 obtain⟨u,hu,ru⟩:=A4g.some_of (v:=v) (o:=mA f) (by rw[<-l];exact r f)
 exact D8b I.kIn O (c.get f) c.hd n hu (B3w ru) (h u _ (I.tok _) ru)
theorem A2g{m:Str}{g:Addr}{pl:Sem Bool}{Q:Value×List Value ->Shared ->Prop}(I:Inv X pins σ H s)(e:H a=some (.ins C dx fs))(c:Cls X.K C)(k:A7s X.K C m g)(l:fs.lookup m=none)
   (h:Q (.ref g,[.ref a]) s):wpAny (model X.prog X.w) A (getMethod (.ref a) m pl) Q E s:=by
 obtain⟨mA,O,r,_,_,_⟩:=A9t I.hok e
 have hn:mA m=none:=A4g.none_of (by rw[<-l];exact r m)
 exact D0w I.kIn O (c.get m) k.at_ k.fn hn h
theorem B9t{y:V}{u:Value}{Q:Unit ->Shared ->Prop}(I:Inv X pins σ H s)(e:H a=some (.ins C dx fs))(c:Cls X.K C)(n:A0b X.K C f)(hl:fs.length<1000)(ry:U9 y u)
   (h:∀s',Inv X pins σ (upd H a (.ins C dx (Y7 f y fs))) s' ->Q () s'):wpAny (model X.prog X.w) A (setAttr (.ref a) f u) Q E s:=by
 obtain⟨mA,O,r,wi,_,ho⟩:=A9t I.hok e
 have hz:(fs.map (·.1)).length<=sizeLine:=by rw[List.length_map,sizeLine_eq];omega
 refine D8q I.kIn O c.sa c.po n.taker c.hd wi hz fun h' O' sb=>h _ ?_
 have hd:∃o,h'.get? dx=some o:=let⟨o,_,_,e',_⟩:=O'.ns;⟨o,e'⟩
 refine I.write (x:=a) (e:=dx) (by rw[e];exact True.intro) (.inr ho) (fun b q hb z=>(sb.2 b hb).trans z) hd ?_
 refine⟨by rw[C9 O.ne];exact ho,?_,O.ne,O'.obj,_,O'.ns,fun g=>?_,fun g hg=>?_⟩
 . have:=A1t f y fs;omega
 . show A4g ((Y7 f y fs).lookup g) (if g=f then some u else mA g)
   rw[G8]
   by_cases q:g=f
   . rw[if_pos q,if_pos q];exact ry
   . rw[if_neg q,if_neg q];exact r g
 by_cases q:g=f
 . rw[q];exact(A7u f y fs).1
 refine(A7u f y fs).2 g (wi g fun z=>hg ?_)
 show(if g=f then some u else mA g)=none
 rw[if_neg q];exact z
theorem Inv.made(I:Inv X pins σ H s):Inv X pins σ (upd (upd H s.heap.objs.size (.own (s.heap.objs.size+1))) (s.heap.objs.size+1) (.ins C s.heap.objs.size []))
   {s with heap:=(s.heap.push PySem.W.emptyDict).push (PySem.W.instObj C s.heap.objs.size)}:=by
 have e1:(s.heap.push PySem.W.emptyDict).get? s.heap.objs.size=some PySem.W.emptyDict:=Heap.get?_push_size s.heap rfl
 have e2:((s.heap.push PySem.W.emptyDict).push (PySem.W.instObj C s.heap.objs.size)).get? (s.heap.objs.size+1)=some (PySem.W.instObj C s.heap.objs.size):=by
   have:=Heap.get?_push_size (s.heap.push PySem.W.emptyDict) (o:=PySem.W.instObj C s.heap.objs.size) rfl
   rwa[Heap.size_push] at this
 have e3:(s.heap.push PySem.W.emptyDict).Ns s.heap.objs.size (fun _=>none):=⟨PySem.W.emptyDict, #[],_,e1,rfl,(fun e he=>absurd he (by simp)),fun _=>rfl⟩
 have I1:=I.laid (a:=s.heap.objs.size) (o:= .own (s.heap.objs.size+1)) (h':=s.heap.push PySem.W.emptyDict) (t':=s.toks) (fun b u q=>Heap.get?_push_of_some _ q) (Nat.le_refl _) ⟨_,e1⟩
 refine I1.laid (a:=s.heap.objs.size+1) (o:= .ins C s.heap.objs.size []) (t':=s.toks) (fun b u q=>Heap.get?_push_of_some _ q) (Nat.le_of_eq (Heap.size_push _ _)) ?_
 have ne:s.heap.objs.size≠s.heap.objs.size+1:=Nat.ne_of_lt (Nat.lt_succ_self _)
 refine⟨by rw[C9 ne,A6],Nat.zero_le _,ne,e2,fun _=>none,(Heap.Ns1.of_empty e3).at fun o q=>Heap.get?_push_of_some _ q,fun _=>True.intro,fun y hy=>absurd rfl hy⟩
theorem C3m{prog:Program}{w:World}{env:Env}{e:Expr}{f:Str}{pos:Pos}{s:Shared}{Q:Value ->Shared ->Prop}(hb:attributeBase e f env (eval e env)=eval e env)
   (h:wpAny (model prog w) A (eval e env) (fun o s₁=>wpAny (model prog w) A (getAttr o f true) Q E s₁) E s):wpAny (model prog w) A (eval (.Attribute e f pos) env) Q E s:=
 Attribute_any_ h (by rw[arm_eval_Attribute,hb])
end
noncomputable def J1a (K:PySem.W.Frag) (ta:TE) (f:Str):TE:=fun σ H Q=>ta σ H fun x H1=>∃a C dx fs v,x= .ref a/\H1 a=some (.ins C dx fs)/\Cls K C/\A0b K C f/\fs.lookup f=some v/\Q v H1
noncomputable def J0r (K:PySem.W.Frag) (ta tv:TE) (f:Str):TS:=fun D σ H=>tv σ H fun y H1=>ta σ H1 fun x H2=>∃a C dx fs,x= .ref a/\H2 a=some (.ins C dx fs)/\Cls K C/\A0b K C f/\fs.length<1000/\
 D.nx σ (upd H2 a (.ins C dx (Y7 f y fs)))
section
variable{X:Cx}{o e value:Expr}{f:Str}{pos pos' tpos:Pos}{ta tv:TE}
theorem U6(he:PE X e ta)(hb:attributeBase e f X.env (eval e X.env)=eval e X.env):PE X (.Attribute e f pos) (J1a X.K ta f):=by
 intro pins s σ H Q I h
 refine C3m hb (thn (he pins s σ H _ I h) fun u s1 hh_=>?_)
 obtain⟨x,H1,I1,rx,a,C,dx,fs,v,ex,ea,c,n,l,q⟩:=hh_
 subst ex
 obtain rfl:u=Value.ref a:=rx
 exact B9s I1 ea c n l fun u' s2 I2 ru=>⟨v,H1,I2,ru,q⟩
theorem A0u(ha:PE X o ta)(hv:PE X value tv)(hs:swapsWith value (some (.Attribute o f pos')) pos.line X.env=pure false):PS X (.Assign [.Attribute o f pos'] value pos) (J0r X.K ta tv f):=by
 intro pins s σ H D I h
 refine plainObj_wpAny_Assign_Attribute (thn (hv pins s σ H _ I h) fun u s1 ⟨y,H1,I1,ry,q⟩=>thn (ha pins s1 σ H1 _ I1 q) fun ov s2 hh_=>?_) hs
 obtain⟨x,H2,I2,rx,a,C,dx,fs,ex,ea,c,n,l,q2⟩:=hh_
 subst ex
 obtain rfl:ov=Value.ref a:=rx
 exact B9t I2 ea c n l ry fun s3 I3=>⟨σ,_,I3,q2⟩
end
section
variable{X:Cx}{pins:List (Addr×Obj)}{σ:St}{H:Hp}{s:Shared}{A:Around}{E:Value ->Shared ->Prop}{Q:Value ->Shared ->Prop}{c:Value}{b:Bool}
inductive A8p(K:PySem.W.Frag)(H:Hp):V ->Value ->Prop where
 |non:A8p K H .non (.type "NoneType")
 |bl (x:Bool):A8p K H (.bl x) (.type "bool")
 |int (i:Int):A8p K H (.int i) (.type "int")
 |str (x:Str):A8p K H (.str x) (.type "str")
 |flt (x:UInt64):A8p K H (.flt x) (.type "float")
 |lst {a:Addr} {xs:List V} (e:H a=some (.lst xs)):A8p K H (.ref a) (.type "list")
 |frz {a:Addr} {o:Obj} {xs:List V} (e:H a=some (.frz o (.lst xs))):A8p K H (.ref a) (.type "list")
 |tup {a:Addr} {xs:List V} (e:H a=some (.tup xs)):A8p K H (.ref a) (.type "tuple")
 |dK {a:Addr} {kvs:List (Key×V)} (e:H a=some (.dK kvs)):A8p K H (.ref a) (.type "dict")
 |dT {a:Addr} {kvs:List (List Key×V)} (e:H a=some (.dT kvs)):A8p K H (.ref a) (.type "dict")
 |ins {a C dx:Addr} {fs:List (Str×V)} (e:H a=some (.ins C dx fs)) (cl:Cls K C) (ha:PySem.W.findIn K (.ref C) "__class__"=some (some (.builtin "object.__class__")))
     (hn:PySem.W.specialIn K (.builtin "object.__class__") "__get__"=some (some (.builtin "getset_descriptor.__get__"))) (htk:PySem.W.takesIn K (.builtin "object.__class__")=some true)
     (hm:PySem.W.mroIn K C (.type "object")=some true):A8p K H (.ref a) (.ref C)
theorem C4w{x:V}{u t:Value}(I:Inv X pins σ H s)(rx:U9 x u)(ty:A8p X.K H x t)(e:PySem.W.kitOne X.K t c=some b)(h:∀tk,Q (.bool b) {s with toks:=tk}):
   wpAny (model X.prog X.w) A (call (.builtin "isinstance") [u,c]) Q E s:=by
 cases ty with
 |non=>cases(show u=Value.none from rx);exact PySem.W.kia_one PySem.W.kitx_none I.kIn True.intro e (fun z=>nomatch z) h
 |bl y=>cases(show u=Value.bool y from rx);exact PySem.W.kia_one PySem.W.kitx_bool I.kIn True.intro e (fun z=>nomatch z) h
 |int i=>obtain⟨t,q⟩:=(show∃t,u=Value.int i t from rx);cases q;exact PySem.W.kia_one PySem.W.kitx_int I.kIn True.intro e (fun z=>nomatch z) h
 |str y=>obtain⟨t,q⟩:=(show∃t,u=Value.str y t from rx);cases q;exact PySem.W.kia_one PySem.W.kitx_str I.kIn True.intro e (fun z=>nomatch z) h
 |flt y=>obtain⟨t,q⟩:=(show∃t,u=Value.float y t from rx);cases q;exact PySem.W.kia_one PySem.W.kitx_float I.kIn True.intro e (fun z=>nomatch z) h
 | @lst a xs ea=>
   cases(show u=Value.ref a from rx)
   obtain⟨_,_,n,_,h1⟩:=(show Y9 X.prog X.w H s.heap a (.lst xs) from I.hok a _ ea)
   exact PySem.W.kia_one PySem.W.kitx_list I.kIn ⟨_,h1,rfl⟩ e (fun z=>nomatch z) h
 | @frz a ob xs ea=>
   cases(show u=Value.ref a from rx)
   obtain⟨_,_,_,n,_,h1⟩:=(show Y9 X.prog X.w H s.heap a (.frz ob (.lst xs)) from I.hok a _ ea)
   exact PySem.W.kia_one PySem.W.kitx_list I.kIn ⟨_,h1,rfl⟩ e (fun z=>nomatch z) h
 | @tup a xs ea=>
   cases(show u=Value.ref a from rx)
   obtain⟨_,_,_,p⟩:=(show Y9 X.prog X.w H s.heap a (.tup xs) from I.hok a _ ea)
   obtain⟨o,h1,h2,_⟩:=p
   exact PySem.W.kia_one PySem.W.kitx_tuple I.kIn ⟨o,h1,h2⟩ e (fun z=>nomatch z) h
 | @dK a kvs ea=>
   cases(show u=Value.ref a from rx)
   obtain⟨_,_,vs,_,p⟩:=(show Y9 X.prog X.w H s.heap a (.dK kvs) from I.hok a _ ea)
   obtain⟨o,es,ep,h1,h2,_⟩:=p
   exact PySem.W.kia_one PySem.W.kitx_dict I.kIn ⟨o,h1,h2.1⟩ e (fun z=>nomatch z) h
 | @dT a kvs ea=>
   cases(show u=Value.ref a from rx)
   obtain⟨_,_,xs,_,o,es,ep,h1,h2,_⟩:=(show Y9 X.prog X.w H s.heap a (.dT kvs) from I.hok a _ ea)
   exact PySem.W.kia_one PySem.W.kitx_dict I.kIn ⟨o,h1,h2.1⟩ e (fun z=>nomatch z) h
 | @ins a C dx fs ea cl ha hn htk hm=>
   cases(show u=Value.ref a from rx)
   obtain⟨mA,O,_⟩:=A9t I.hok ea
   obtain⟨od,J,_⟩:=O.look
   exact PySem.W.kia_one (PySem.W.kitx_own (cl.get _) cl.hd ha hn htk hm) I.kIn J e (fun z=>nomatch z) h
end
structure A0p(k:Nat)(A:Around):Prop where
 hd:A.handled=none
 dp:A.depth+3*k+5<recursionLimit
 un:A.units+16*k+200<cLine
theorem A0p.mono{j k:Nat}{A:Around}(r:A0p k A)(h:j<=k):A0p j A:=⟨r.hd,by have:=r.dp;omega,by have:=r.un;omega⟩
theorem A0p.deeper{k:Nat}{A:Around}(r:A0p (k+1) A)(env:Env):A0p k (A.deeper env):=
 ⟨r.hd,by have:=r.dp;show A.depth+1+3*k+5<_;omega,by have:=r.un;show A.units+3+16*k+200<_;omega⟩
theorem B0x{A:Around}{C:Addr}{us:List Value}{kw:List (Str×Value)}:(A.under (.builtin "type.__call__" ⟨.ref C::us,kw⟩)).depth=A.depth+1:=by
 first|rfl|simp[Around.under,Code.weight,Code.isCreation,Code.isGuard,Code.isCaller,Code.frames,Code.isFrame,guardIds]
theorem B2j{A:Around}{C:Addr}{us:List Value}{kw:List (Str×Value)}:(A.under (.builtin "type.__call__" ⟨.ref C::us,kw⟩)).units=A.units+1:=by
 first|rfl|simp[Around.under,Code.cUnits,Code.frames,Code.isFrame]
theorem A0p.make{k:Nat}{A:Around}(r:A0p (k+1) A)(C:Addr)(us:List Value)(kw:List (Str×Value)):A0p k (A.under (.builtin "type.__call__" ⟨.ref C::us,kw⟩)):=
 ⟨r.hd,by have:=r.dp;rw[B0x];omega,by have:=r.un;rw[B2j];omega⟩
theorem A0p.depth{k:Nat}{A:Around}(r:A0p k A):A.depth<recursionLimit:=by have:=r.dp;omega
theorem A0p.units{k:Nat}{A:Around}(r:A0p k A):A.units+64<cLine:=by have:=r.un;omega
noncomputable def B6m:TA:=fun _ H Q=>Q [] H
noncomputable def B7t (ta:TE) (tr:TA):TA:=fun σ H Q=>ta σ H fun x H1=>tr σ H1 fun xs H2=>Q (x::xs) H2
section
variable{X:Cx}{e:Expr}{es:List Expr}{te:TE}{t:TA}{pos:Pos}
theorem A3:PA X [] B6m:=fun _ _ _ _ H Q I h=>Calls.spliced_nil ⟨[],H,I,.nil,h⟩
theorem A0(ha:PE X e te)(hr:PA X es t)(hs:starEach (e::es) X.env=(false,eval e X.env)::starEach es X.env:=by rfl):PA X (e::es) (B7t te t):=by
 intro pos pins s σ H Q I h
 rw[hs]
 show wpAny _ _ (spliced ((false,eval e X.env)::backTo pos (starEach es X.env))) _ _ s
 refine Calls.spliced_cons (thn (ha pins s σ H _ I h) fun u s1 hh_=>?_)
 obtain⟨x,H1,I1,r1,q1⟩:=hh_
 exact thn (hr pos pins s1 σ H1 _ I1 q1) fun us s2 ⟨xs,H2,I2,r2,q2⟩=>⟨x::xs,H2,I2,.cons r1 r2,q2⟩
noncomputable def J1q (t:TA):TE:=fun σ H Q=>t σ H fun xs H1=>xs.length<=sizeLine/\∀p,H1 p=none ->Q (.ref p) (upd H1 p (.tup xs))
noncomputable def J0q (t:TA):TE:=fun σ H Q=>t σ H fun xs H1=>xs.length<=sizeLine/\∀p,H1 p=none ->Q (.ref p) (upd H1 p (.lst xs))
theorem V7{x1}(h:PA X es t):PE X (.Tuple es x1 pos) (J1q t):=by
 intro pins s σ H Q I hq
 refine wpAny_Tuple_spliced (thn (h pos pins s σ H _ I hq) fun us s1 ⟨xs,H1,I1,r,z,q⟩=>⟨by rw[<-r.length];exact z,?_⟩)
 have hf:H1 s1.heap.objs.size=none:=I1.hok.fresh (Nat.le_refl _)
 refine⟨.ref s1.heap.objs.size,upd H1 s1.heap.objs.size (.tup xs),I1.laid (t':=s1.toks) (fun b u e=>Heap.get?_push_of_some _ e) (Nat.le_refl _) ?_,rfl,q _ hf⟩
 exact⟨z,us,r,⟨_,Heap.get?_push_size _ rfl,rfl,_,rfl⟩⟩
theorem J9(h:PA X es t):PE X (.List es pos) (J0q t):=by
 intro pins s σ H Q I hq
 refine wpAny_List_spliced (thn (h pos pins s σ H _ I hq) fun us s1 ⟨xs,H1,I1,r,z,q⟩=>⟨by rw[<-r.length];exact z,?_⟩)
 have hf:H1 s1.heap.objs.size=none:=I1.hok.fresh (Nat.le_refl _)
 refine⟨.ref s1.heap.objs.size,upd H1 s1.heap.objs.size (.lst xs),I1.laid (t':=s1.toks) (fun b u e=>Heap.get?_push_of_some _ e) (Nat.le_refl _) ?_,rfl,q _ hf⟩
 exact⟨z,us,0,r,Heap.get?_push_size _ rfl⟩
end
noncomputable abbrev Sp:=List V ->Hp ->VK ->XK ->Prop
noncomputable abbrev CXT:=List Env ->Hp ->Shared ->XK ->Value ->Shared ->Prop
structure A9n(P:Program)(w:World)(K:PySem.W.Frag)(mg:Str ->Option Value)(base:Heap)(A:Around)(outer:List Env)(s:Shared)(H:Hp):Prop where
 frames:A.frames=some outer
 mod:Mod K mg base
 bs:∀b o,base.get? b=some o ->s.heap.get? b=some o/\H b=none
 bsz:base.objs.size<=s.heap.objs.size
 funs:s.heap.FunFrames base outer
 frf:∀b∈frs outer,H b=none
 hok:HOk P w H s.heap
 bare:AllBare s.gens
noncomputable def CE (outer:List Env) (P:Program) (w:World) (H:Hp) (s:Shared) (Q:VK) (u:Value) (s':Shared):Prop:=
 ∃v H',s'.os=s.os/\AllBare s'.gens/\Un (frs outer) [] H H' s.heap s'.heap/\HOk P w H' s'.heap/\U9 v u/\Q v H'
noncomputable def CR (CX:CXT) (outer:List Env) (P:Program) (w:World) (H:Hp) (s:Shared) (Q:VK) (E:XK) (r:Result) (s':Shared):Prop:=
 match r with
 | .ok (.ret u)=>CE outer P w H s Q u s'
 | .ok _=>False
 | .error e=>CX outer H s E e s'
structure G0(P:Program)(w:World)(K:PySem.W.Frag)(mg:Str ->Option Value)(base:Heap)(CX:CXT)(k:Nat)(f:Addr)(fd:FuncData)(ps:List Str)(sp:Sp):Prop where
 len:∀vs H Q E,sp vs H Q E ->vs.length=ps.length
 run:∀(A:Around) (outer:List Env) (s:Shared) (H:Hp) (args:Args) (us:List Value) (vs:List V) (Q:VK) (E:XK),A0p k A ->A9n P w K mg base A outer s H ->BindsTo s fd args (ps.zip us) ->G7 vs us ->sp vs H Q E ->
   codeAny (model P w) A (.call (.ref f) args) (CR CX outer P w H s Q E) s
theorem G0.mono{P:Program}{w:World}{K:PySem.W.Frag}{mg:Str ->Option Value}{base:Heap}{CX:CXT}{j k:Nat}{f:Addr}{fd:FuncData}{ps:List Str}{sp:Sp}(F:G0 P w K mg base CX j f fd ps sp)(h:j<=k):
   G0 P w K mg base CX k f fd ps sp:=⟨F.len,fun A outer s H args us vs Q E hr=>F.run A outer s H args us vs Q E (hr.mono h)⟩
theorem A9n.make{P:Program}{w:World}{K:PySem.W.Frag}{mg:Str ->Option Value}{base:Heap}{A:Around}{outer:List Env}{s:Shared}{H:Hp}(e:A9n P w K mg base A outer s H)(C:Addr)(us:List Value)(kw:List (Str×Value)):
   A9n P w K mg base (A.under (.builtin "type.__call__" ⟨.ref C::us,kw⟩)) outer s H:=⟨by first|exact e.frames|(simpa[Around.under,Code.envs,Code.isFrame,pushEnvs] using e.frames),e.mod,e.bs,e.bsz,e.funs,e.frf,e.hok,e.bare⟩
section
variable{X:Cx}{pins:List (Addr×Obj)}{σ:St}{H:Hp}{s s':Shared}
theorem Inv.env0(I:Inv X pins σ H s):A9n X.prog X.w X.K X.mg X.base X.A X.stack s H:=
 ⟨I.ok.frames,I.ok.mod,I.bs,Nat.le_trans I.ok.bsz I.sz,I.stack,I.stkFree,I.hok,I.bare⟩
theorem Inv.after{Q:VK}{u:Value}(I:Inv X pins σ H s)(h:CE X.stack X.prog X.w H s Q u s'):EP X pins σ Q u s':=by
 obtain⟨v,H',os,bare,un,hok,r,q⟩:=h
 obtain⟨hh,g,d,t,os'⟩:=s'
 obtain rfl:os'=s.os:=os
 exact⟨v,H',I.call (h':=hh) (g':=g) (d':=d) (t':=t) (ch:=[]) un hok bare (fun b z=>absurd z (by simp)),r,q⟩
end
noncomputable def V9 (K:PySem.W.Frag) (fd:FuncData) (ps:List Str) (ds:List Value):Prop:=
 ∀(s:Shared) (us:List Value),K.In s.heap ->(us++ds).length=ps.length ->BindsTo s fd ⟨us,[]⟩ (ps.zip (us++ds))
theorem V9.all{K:PySem.W.Frag}{fd:FuncData}{ps:List Str}(h:∀us:List Value,us.length=ps.length ->bindArgs fd ⟨us,[]⟩=pure (ps.zip us)):V9 K fd ps []:=fun s us _ hl=>by
 rw[List.append_nil] at hl ⊢
 exact .of_eq (h us hl)
section
variable{X:Cx}{CX:CXT}{k:Nat}{f C:Addr}{fd:FuncData}{ps:List Str}{sp:Sp}{dvs:List V}{ds:List Value}{E:XK}{x m:Str}{p pos apos:Pos}{e o:Expr}{es:List Expr}{ta:TE}{t:TA}
structure Mk(K:PySem.W.Frag)(C f:Addr):Prop where
 makes:PySem.W.makesIn K C=true
 init:PySem.W.findIn K (.ref C) "__init__"=some (some (.ref f))
 fn:PySem.W.isFn K (.ref f)=true
 kp:PySem.W.keepIn K (.ref C)=true
end
section
variable{X:Cx}{CX:CXT}{k:Nat}{f C:Addr}{fd:FuncData}{ps ks:List Str}{sp:Sp}{E:XK}{x m:Str}{p pos apos kpos:Pos}{e o:Expr}{es:List Expr}{kws:List Keyword}{te ta:TE}{t tk:TA}{nm:Option Str}
structure G3q(K:PySem.W.Frag)(fd:FuncData)(ps ks:List Str)(g:List Value ->List Value ->List Value)(gV:List V ->List V ->List V):Prop where
 to:∀(s:Shared) (us ws:List Value),K.In s.heap ->(g us ws).length=ps.length ->BindsTo s fd ⟨us,ks.zip ws⟩ (ps.zip (g us ws))
 rel:∀{vs:List V} {us:List Value} {zs:List V} {ws:List Value},G7 vs us ->G7 zs ws ->G7 (gV vs zs) (g us ws)
variable{g:List Value ->List Value ->List Value}{gV:List V ->List V ->List V}
end
structure B8(N P:List Str)(sc:Scope):Prop where
 kind:sc.kind= .function
 co:sc.isCoroutine=false
 gen:sc.isGenerator=false
 nd:N.Nodup
 pre:N.take P.length=P
 par:∀x∈P,sc.names.lookup x=some .local\/sc.names.lookup x=some .cell
 nofree:∀y∈sc.names,y.2≠ .free
theorem B3f{kindOf:Str ->Option NameKind}{x:Str}:∀{binds:List (Str×Value)} {m:Str ->Option Value},(∀v,(x,v) ∉ binds) ->bindL kindOf binds m x=m x
 | [],_,_=>rfl
 | (n,v)::r,m,h=>by
   unfold bindL
   rw[B3f fun w hw=>h w (List.mem_cons_of_mem _ hw)]
   split
   . have:x≠n:=by rintro rfl;exact h v List.mem_cons_self
     simp[this]
   . rfl
theorem B4a{kindOf:Str ->Option NameKind}{x:Str}:∀{binds:List (Str×Value)} {m:Str ->Option Value},(∀v,(x,v) ∉ binds) ->bindC kindOf binds m x=m x
 | [],_,_=>rfl
 | (n,v)::r,m,h=>by
   unfold bindC
   rw[B4a fun w hw=>h w (List.mem_cons_of_mem _ hw)]
   split
   . rfl
   . have:x≠n:=by rintro rfl;exact h v List.mem_cons_self
     simp[this]
theorem B3m{kindOf:Str ->Option NameKind}{x:Str}{v:Value}:∀{P:List Str} {vs:List Value} {i:Nat} {m:Str ->Option Value},P.Nodup ->P[i]?=some x ->vs[i]?=some v ->kindOf x=some .local ->
   bindL kindOf (P.zip vs) m x=some v
 | [],_,_,_,_,h,_,_=>by simp at h
 |_::_,[],_,_,_,_,h,_=>by simp at h
 | p::P,w::vs,0,m,nd,h1,h2,hk=>by
   simp at h1 h2;subst h1;subst h2
   show bindL kindOf ((p,w)::P.zip vs) m p=_
   unfold bindL
   rw[B3f fun v hv=>(List.nodup_cons.mp nd).1 (List.of_mem_zip hv).1,if_pos hk]
   simp
 | p::P,w::vs,i+1,m,nd,h1,h2,hk=>by
   show bindL kindOf ((p,w)::P.zip vs) m x=_
   unfold bindL
   exact B3m (i:=i) (List.nodup_cons.mp nd).2 (by simpa using h1) (by simpa using h2) hk
theorem B4p{kindOf:Str ->Option NameKind}{x:Str}{v:Value}:∀{P:List Str} {vs:List Value} {i:Nat} {m:Str ->Option Value},P.Nodup ->P[i]?=some x ->vs[i]?=some v ->kindOf x≠some .local ->
   bindC kindOf (P.zip vs) m x=some v
 | [],_,_,_,_,h,_,_=>by simp at h
 |_::_,[],_,_,_,_,h,_=>by simp at h
 | p::P,w::vs,0,m,nd,h1,h2,hk=>by
   simp at h1 h2;subst h1;subst h2
   show bindC kindOf ((p,w)::P.zip vs) m p=_
   unfold bindC
   rw[B4a fun v hv=>(List.nodup_cons.mp nd).1 (List.of_mem_zip hv).1,if_neg hk]
   simp
 | p::P,w::vs,i+1,m,nd,h1,h2,hk=>by
   show bindC kindOf ((p,w)::P.zip vs) m x=_
   unfold bindC
   exact B4p (i:=i) (List.nodup_cons.mp nd).2 (by simpa using h1) (by simpa using h2) hk
noncomputable def A1r (N:List Str) (vs:List V):St:=vs.map some++List.replicate (N.length-vs.length) none
noncomputable def A2d (CX:CXT) (P:Program) (w:World) (K:PySem.W.Frag) (mg:Str ->Option Value) (base:Heap) (N:List Str) (qual:Str) (scope:Scope) (f:Addr) (cd:Value) (A:Around) (outer:List Env) (s:Shared) (H:Hp) (E:XK):Cx where
 prog:=P
 w:=w
 K:=K
 mg:=mg
 base:=base
 A:=A.deeper (envOfC qual scope s.heap.objs.size f cd)
 N:=N
 s₀:=s
 H₀:=H
 env:=envOfC qual scope s.heap.objs.size f cd
 outer:=outer
 stack:=envOfC qual scope s.heap.objs.size f cd::outer
 ex:=[]
 calm:=true
 fn:=fun _=>true
 pn:=[]
 xe:=fun e s'=>wpAny (model P w) (A.deeper (envOfC qual scope s.heap.objs.size f cd)) (leaving (envOfC qual scope s.heap.objs.size f cd) e) (fun _ s''=>CX outer H s E e s'') (fun e' s''=>CX outer H s E e' s'') s'
theorem B7m{sc:Scope}{n:Nat}{x:Str}(h:sc.names.lookup x=some .cell):∃c,(cellsFrom n sc.names []).lookup x=some c:=by
 have q:=PySem.W.cellsFrom_some sc.names n [] (.inl h)
 exact Option.isSome_iff_exists.mp q
theorem A7t{CX:CXT}{P:Program}{w:World}{K:PySem.W.Frag}{mg:Str ->Option Value}{base:Heap}{N ps:List Str}{qual:Str}{scope:Scope}{f:Addr}{cd:Value}{A:Around}{outer:List Env}{s s1:Shared}{H:Hp}{E:XK}{us:List Value}{vs:List V}
   (S:B8 N ps scope) (hd:A.handled=none) (e0:A9n P w K mg base A outer s H) (hl:vs.length=ps.length) (r:G7 vs us)
   (x:InCallC s s.heap.objs.size (bindL (envOfC qual scope s.heap.objs.size f cd).kindOf (ps.zip us) fun _=>none) (cellsFrom (s.heap.objs.size+1) scope.names []) (bindC (envOfC qual scope s.heap.objs.size f cd).kindOf (ps.zip us) fun _=>none) s1):
   Inv (A2d CX P w K mg base N qual scope f cd A outer s H E) [] (A1r N vs) H s1:=by
 have hpl:ps.length<=N.length:=by have:=congrArg List.length S.pre;rw[List.length_take] at this;omega
 obtain⟨h1,tk,rfl,hk⟩:=x.done
 have noA:∀b:Addr,b ∉ (A2d CX P w K mg base N qual scope f cd A outer s H E).ex:=fun b z=>absurd (show b∈([]:List Addr) from z) (by simp)
 refine⟨⟨e0.mod,S.kind,rfl,rfl,Nat.le_refl _,fun y z c h1 h2=>?_,fun y hy=>?_,fun y c _ h=>?_,fun _=>hd,Around.frames_deeper e0.frames,.inr ⟨rfl,rfl⟩,fun b z=>absurd z (noA b),e0.bs,e0.bsz,fun b _ _=>noA b,fun b z=>absurd z (noA b),e0.funs,e0.frf⟩,
   rfl,e0.bare,Un.kept hk,⟨_,x.toInCall.ns,fun i y v h1 h2 h3=>?_⟩,fun y c h=>⟨_,x.cell y c h⟩,e0.hok.fresh (Nat.le_refl _),fun y c h=>?_,fun p hp=>absurd (show p∈([]:List (Addr×Obj)) from hp) (by simp),e0.hok.kept hk,?_⟩
 . exact name_of_addr x.apart (PySem.mem_of_lookup h1) (PySem.mem_of_lookup h2)
 . have hy:scope.names.lookup y=some .cell\/scope.names.lookup y=some .free:=hy
   rcases hy with hy|hy
   . exact B7m hy
   . exact absurd rfl (S.nofree _ (PySem.mem_of_lookup hy))
 . exact Nat.le_of_lt (x.above y c (PySem.mem_of_lookup h))
 . have hi:i<vs.length:=by
     unfold A1r at h2
     by_cases hi:i<vs.length
     . exact hi
     . rw[List.getElem?_append_right (by simpa using hi)] at h2
       rw[List.getElem?_replicate] at h2
       split at h2<;>cases h2
   have ha:vs[i]?=some v:=by
     unfold A1r at h2
     rw[List.getElem?_append_left (by simpa using hi),List.getElem?_map] at h2
     cases e:vs[i]? with
     |none=>rw[e] at h2;cases h2
     |some a=>rw[e] at h2;cases h2;rfl
   obtain⟨u,hu,rv⟩:=r.get ha
   have hp:ps[i]?=some y:=by
     rw[<-S.pre,List.getElem?_take_of_lt (by omega)];exact h1
   have ndP:ps.Nodup:=by rw[<-S.pre];exact S.nd.sublist (List.take_sublist _ _)
   refine⟨u,rv,?_⟩
   rcases S.par y (List.mem_of_getElem? hp) with k|k
   . exact .inl ⟨k,B3m ndP hp hu k⟩
   . obtain⟨c,e⟩:=B7m (n:=s.heap.objs.size+1) k
     refine .inr ⟨.inl k,c,e,?_⟩
     have q:=x.cell y c e
     rw[B4p ndP hp hu (by show scope.names.lookup y≠_;rw[k];decide)] at q
     exact q
 . exact e0.hok.fresh (Nat.le_of_lt (x.above y c (PySem.mem_of_lookup h)))
 unfold A1r
 show _=N.length
 rw[List.length_append,List.length_map,List.length_replicate]
 omega
theorem G0h{CX:CXT}{P:Program}{w:World}{K:PySem.W.Frag}{mg:Str ->Option Value}{base:Heap}{k:Nat}{f:Addr}{name qual:Str}{params:Arguments}{body:List Stmt}{scope:Scope}{dV kV doc pm cdv ct oc:Value}{an od:Option Addr}
   {osl:Array (Option Value)} {N ps:List Str} {sp:Sp} (lk:K.lookup f=some ⟨oc,od,.func (PySem.W.fnOf name qual params body scope dV kV doc pm an cdv ct),osl⟩) (hcd:PySem.W.codeIn K cdv qual=true) (S:B8 N ps scope)
   (len:∀vs H Q E,sp vs H Q E ->vs.length=ps.length)
   (hbody:∀(A:Around) (outer:List Env) (s:Shared) (H:Hp) (vs:List V) (Q:VK) (E:XK),A0p k (A.deeper (envOfC qual scope s.heap.objs.size f cdv)) ->sp vs H Q E ->
     ∃t,PSs (A2d CX P w K mg base N qual scope f cdv A outer s H E) body t/\t {nx:=fun _ H'=>Q .non H',rt:=Q} (A1r N vs) H):
   G0 P w K mg base CX (k+1) f (PySem.W.fnOf name qual params body scope dV kV doc pm an cdv ct) ps sp:=by
 refine⟨len,fun A outer s H args us vs Q E hr e0 hb r hsp=>?_⟩
 have hl:=len _ _ _ _ hsp
 have KX:K.In s.heap:=e0.mod.kin.keeps fun b o e=>(e0.bs b o e).1
 have lim:s.heap.NoLimit:=e0.mod.nolimit.keeps fun b o e=>(e0.bs b o e).1
 have hkind:∀y∈ps.zip us,scope.names.lookup y.1=some .local\/(scope.names.lookup y.1=some .cell/\((cellsFrom (s.heap.objs.size+1) scope.names []).lookup y.1).isSome=true):=fun⟨n,v⟩ hy=>by
   rcases S.par n (List.of_mem_zip hy).1 with q|q
   . exact .inl q
   . exact .inr ⟨q,PySem.W.cellsFrom_some _ _ _ (.inl q)⟩
 refine codeAny_call_function hr.depth (KX _ _ lk) rfl S.co S.gen rfl (PySem.W.codeRec_of KX hcd) (hb _ _ _ _ ?_)
 refine wpAny_newFunctionEnv_cells S.kind hkind fun env he s1 x=>?_
 subst he
 refine⟨lim.keeps x.toInCall.keep,codeAny_func ?_⟩
 obtain⟨t,ht,hq⟩:=hbody A outer s H vs Q E (hr.deeper _) hsp
 have I:Inv (A2d CX P w K mg base N qual scope f cdv A outer s H E) [] (A1r N vs) H s1:=A7t S hr.hd e0 hl r x
 refine wpAny_mono (ht [] s1 (A1r N vs) H _ I hq) (fun fl s' hs=>?_) fun e s' hs=>hs
 have fin:∀{σ':St} {H':Hp} {v:V} {u:Value},Inv (A2d CX P w K mg base N qual scope f cdv A outer s H E) [] σ' H' s' ->U9 v u ->Q v H' ->CE outer P w H s Q u s':=
   fun{σ' H' v u} J rv q=>⟨v,H',J.os,J.bare,J.base,J.hok,rv,q⟩
 cases fl with
 | ret u=>
   obtain⟨v,σ',H',J,rv,q⟩:=hs
   exact fin J rv q
 | next=>
   obtain⟨σ',H',J,q⟩:=hs
   exact fin (v:=V.non) (u:=Value.none) J rfl q
 | brk=>
   obtain⟨_,_,_,q⟩:=hs
   exact False.elim q
 | cont=>
   obtain⟨_,_,_,q⟩:=hs
   exact False.elim q
section
variable{X:Cx}{x:Str}{p pos:Pos}{e:Expr}{es:List Expr}{t:TA}{id T:String}{r:List V ->Hp ->VK ->Prop}
noncomputable def tCB (r:List V ->Hp ->VK ->Prop) (t:TA):TE:=fun σ H Q=>t σ H fun vs H1=>r vs H1 Q
theorem U8(hc:A1b X (.builtin id) r)(hg:Gl X x)(hm:X.mg x=none)(hv:bootBuiltins x=some (.builtin id))(ha:PA X (e::es) t)(hn:x≠"__name__":=by decide)(hdb:(x==("__debug__":Str))=false:=by decide)
   (he:starEach (e::es) X.env=(false,eval e X.env)::starEach es X.env:=by rfl) (hpl:(backTo pos (starEach es X.env)).any (·.1)=false:=by rfl):PE X (.Call (.Name x p) (e::es) [] pos) (tCB r t):=by
 intro pins s σ H Q I h
 refine wpAny_Call_Name_kw (A8m I hg hm hv ?_ hn hdb)
 exact PyProof.Rows.callWith_builtin1 (thn (ha pos pins s σ H _ I h) fun us s1 ⟨vs,H1,I1,r1,q1⟩=>hc pins s1 σ H1 vs us Q I1 r1 q1) he hpl
theorem V5(hc:A1b X (.type T) r)(hg:Gl X x)(hm:X.mg x=none)(hv:bootBuiltins x=some (.type T))(ha:PA X (e::es) t)(hn:x≠"__name__":=by decide)(hdb:(x==("__debug__":Str))=false:=by decide)
   (he:starEach (e::es) X.env=(false,eval e X.env)::starEach es X.env:=by rfl) (hpl:(backTo pos (starEach es X.env)).any (·.1)=false:=by rfl):PE X (.Call (.Name x p) (e::es) [] pos) (tCB r t):=by
 intro pins s σ H Q I h
 refine wpAny_Call_Name_kw (A8m I hg hm hv ?_ hn hdb)
 exact PyProof.Rows.callWith_type1 (thn (ha pos pins s σ H _ I h) fun us s1 ⟨vs,H1,I1,r1,q1⟩=>hc pins s1 σ H1 vs us Q I1 r1 q1) he hpl
end
end L2
namespace HT
open PySem PyProof.Rows
section
open PySem.SeqAt
open PySem.AutoSeq1 (wpAny_loadPart')
open PySem.MeetsSeq PySem.MeetsSeq2 PySem.MeetsSeq3
end
section
variable{prog:Program}{w:World}{A:Around}{E:Value ->Shared ->Prop}{s:Shared}
noncomputable def sIx (n d:Nat):Option Int ->Nat
 |none=>d
 |some v=>if v<0 then(v+(n:Int)).toNat else min v.toNat n
theorem G1e(n d:Nat)(hd:d<=n)(o:Option Int):sIx n d o<=n:=by
 cases o with
 |none=>exact hd
 | some v=>
   show(if v<0 then(v+(n:Int)).toNat else min v.toNat n)<=n
   by_cases hv:v<0
   . rw[if_pos hv];omega
   . rw[if_neg hv];exact Nat.min_le_right _ _
theorem C2w(v:Int)(n d:Nat):(if v<0 then max (v+(n:Int)) 0 else min v (n:Int))=((sIx n d (some v):Nat):Int):=by
 show(if v<0 then max (v+(n:Int)) 0 else min v (n:Int))=(((if v<0 then(v+(n:Int)).toNat else min v.toNat n):Nat):Int)
 by_cases hv:v<0
 . simp only[if_pos hv];omega
 simp only[if_neg hv];omega
theorem C0g(lo hi:Option Int)(n:Nat):Builtin.Slice.sliceAdjust lo hi 1 (n:Int)=(((sIx n 0 lo:Nat):Int),((sIx n n hi:Nat):Int)):=by
 have h1:¬((1:Int)<0):=by omega
 unfold Builtin.Slice.sliceAdjust
 simp only[h1,if_false]
 refine Prod.ext ?_ ?_
 . cases lo with
   |none=>rfl
   |some v=>exact C2w v n 0
 cases hi with
 |none=>rfl
 |some v=>exact C2w v n n
theorem C0u(i j:Nat):Builtin.Slice.slicePlaces (i:Int) (j:Int) 1=j-i:=by
 unfold Builtin.Slice.slicePlaces
 have h1:(1:Int)>0:=by omega
 simp only[h1,if_true,Int.ediv_one]
 split<;>omega
theorem B0j{v:Value}{o:Option Int}{Q:Option Int ->Shared ->Prop}(p:IsPart v o)(h:Q o s):wpAny (model prog w) A (Builtin.Slice.slicePartIndex v) Q E s:=by
 cases p with
 |none=>exact slicePart_none h
 |int i t=>exact slicePart_int h
theorem A8f{sl:Addr}{vl vu:Value}{lo hi:Option Int}{n:Nat}{Q:Int×Int×Nat ->Shared ->Prop}(hs:s.heap.IsSliceOf sl vl vu .none)(pl:IsPart vl lo)(pu:IsPart vu hi)
   (h:Q (((sIx n 0 lo:Nat):Int),1,sIx n n hi-sIx n 0 lo) s):wpAny (model prog w) A (Builtin.Slice.sliceApplied (.ref sl) (pure (n:Int))) Q E s:=by
 obtain⟨os,hos,hcs,hds⟩:=id hs
 unfold Builtin.Slice.sliceApplied Builtin.Slice.sliceFields
 refine wpAny_bind (wpAny_bind (wpAny_field hos hds (x:=vl) rfl (wpAny_bind (wpAny_field hos hds (x:=vu) rfl (wpAny_bind (wpAny_field hos hds (x:= .none) rfl (wpAny_pure ?_)))))))
 refine wpAny_bind (slicePart_none ?_)
 show wpAny _ _ (if((1:Int)==0)=true then _ else _) _ _ s
 rw[if_neg (by decide)]
 refine wpAny_bind (B0j pl (wpAny_bind (B0j pu (wpAny_bind (wpAny_pure ?_)))))
 show wpAny _ _ (match Builtin.Slice.sliceAdjust lo hi 1 (n:Int) with|(lo,hi)=>pure (lo,(1:Int),Builtin.Slice.slicePlaces lo hi 1)) _ _ s
 rw[C0g lo hi n]
 show wpAny _ _ (pure (((sIx n 0 lo:Nat):Int),(1:Int),Builtin.Slice.slicePlaces ((sIx n 0 lo:Nat):Int) ((sIx n n hi:Nat):Int) 1)) _ _ s
 rw[C0u]
 exact wpAny_pure h
theorem C9j(xs:Array Value)(i k:Nat):((List.range k).filterMap fun(m:Nat)=>xs[((i:Int)+(m:Int)*1).toNat]?).toArray=((xs.toList.drop i).take k).toArray:=by
 have e:(fun(m:Nat)=>xs[((i:Int)+(m:Int)*1).toNat]?)=fun m=>xs[i+m]?:=by
   funext m
   have:((i:Int)+(m:Int)*1).toNat=i+m:=by omega
   rw[this]
 rw[e]
 have:=pick_run xs i k
 rw[List.filterMap_map] at this
 have e2:((fun x=>xs[x]?)∘fun x=>i+x)=fun m=>xs[i+m]?:=rfl
 rw[e2] at this
 rw[this]
theorem getItem_tuple_cut{t sl:Addr}{items:Array Value}{vl vu:Value}{lo hi:Option Int}{Q:Value ->Shared ->Prop}(ht:IsTup s.heap t items)(hs:s.heap.IsSliceOf sl vl vu .none)(pl:IsPart vl lo)(pu:IsPart vu hi)
   (hw:¬(sIx items.size 0 lo=0/\sIx items.size items.size hi=items.size))
   (h:Q (.ref s.heap.objs.size) {s with heap:=s.heap.push {cls:= .type "tuple",data:= .seq ((items.toList.drop (sIx items.size 0 lo)).take (sIx items.size items.size hi-sIx items.size 0 lo)).toArray}})
   (hsz:items.size<=sizeLine):wpAny (model prog w) A (getItem (.ref t) (.ref sl)) Q E s:=by
 have htake:sizeOk (.seq ((items.toList.drop (sIx items.size 0 lo)).take (sIx items.size items.size hi-sIx items.size 0 lo)).toArray):=by
   show((items.toList.drop (sIx items.size 0 lo)).take (sIx items.size items.size hi-sIx items.size 0 lo)).toArray.size<=sizeLine
   rw[List.size_toArray,List.length_take,List.length_drop,Array.length_toList]
   omega
 have hj:sIx items.size items.size hi<=items.size:=G1e _ _ (Nat.le_refl _) hi
 obtain⟨os,hos,hcs,hds⟩:=id hs
 have hTs:s.TypeIs (.ref sl) "slice":=⟨os,hos,hcs⟩
 unfold getItem
 try with_reducible refine wpAny_holding ?_
 first|refine wpAny_bind (wpAny_pure ?_)|skip
 refine wpAny_bind (wpAny_sequenceKey ht.typeIs (by decide) ?_)
 refine wpAny_bind (wpAny_callSpecial?_slot (name:=Str.ofString "__getitem__") ht.typeIs PyProof.Rows.slot_tuple_getitem
   (wpAny_call_entry PyProof.Rows.slot_tuple_getitem ht.typeIs entry_tuple_getitem ?_ (args_tuple_getitem _ _)))
 show wpAny _ _ (Builtin.Tuple.tupleItemsOf (.ref t)>>=_) _ _ s
 refine wpAny_bind (tupleItemsOf_ ht ?_)
 refine wpAny_bind (wpAny_typeOf hTs ?_)
 rw[if_pos (by decide)]
 refine wpAny_bind (A8f hs pl pu ?_)
 have hno:¬((((sIx items.size 0 lo:Nat):Int)==0&&(1:Int)==1&&(sIx items.size items.size hi-sIx items.size 0 lo)==items.size)=true):=by
   intro q
   rw[Bool.and_eq_true,Bool.and_eq_true] at q
   have q1:((sIx items.size 0 lo:Nat):Int)=0:=eq_of_beq q.1.1
   have q2:sIx items.size items.size hi-sIx items.size 0 lo=items.size:=eq_of_beq q.2
   exact hw ⟨by omega,by omega⟩
 show wpAny _ _ (if(((sIx items.size 0 lo:Nat):Int)==0&&(1:Int)==1&&(sIx items.size items.size hi-sIx items.size 0 lo)==items.size)=true then _ else _) _ _ s
 rw[if_neg hno,C9j]
 first
   |exact wpAny_bind (m:=Builtin.Tuple.tupleExact _) (wpAny_newObj_type (wpAny_pure ⟨_,rfl,wpAny_pure h⟩) htake)
   |exact wpAny_bind (m:=Builtin.Tuple.tupleExact _) (wpAny_newObj_type (wpAny_bind (wpAny_pure (wpAny_pure ⟨_,rfl,wpAny_pure h⟩))) htake)
   |exact wpAny_bind (wpAny_bind (m:=Builtin.Tuple.tupleExact _) (wpAny_newObj_type (wpAny_pure (wpAny_pure ⟨_,rfl,wpAny_pure h⟩)) htake))
   |exact wpAny_bind (wpAny_bind (m:=Builtin.Tuple.tupleExact _) (wpAny_newObj_type (wpAny_pure ⟨_,rfl,wpAny_pure h⟩) htake))
end
end HT
namespace L2
open PySem PySem.Spec PyProof.Rows
noncomputable abbrev TO:=St ->Hp ->(Option Int ->Hp ->Prop) ->Prop
noncomputable def PO (X:Cx) (e:Option Expr) (t:TO):Prop:=
 ∀ (pins:List (Addr×Obj)) (s:Shared) (σ:St) (H:Hp) (Q:Option Int ->Hp ->Prop),Inv X pins σ H s ->t σ H Q ->
   wpAny (model X.prog X.w) X.A (evalPart e X.env) (fun u s'=>∃o H',Inv X pins σ H' s'/\IsPart u o/\Q o H') X.xe s
noncomputable def D9b:TO:=fun _ H Q=>Q none H
noncomputable def G7v (t:TE):TO:=fun σ H Q=>t σ H fun x H1=>∃i,x= .int i/\Q (some i) H1
section
variable{X:Cx}{e:Expr}{te:TE}{lo hi:Option Expr}{tl th:TO}{pos p2:Pos}
theorem D6p:PO X none D9b:=by
 intro pins s σ H Q I h
 rw[evalPart_none]
 exact wpAny_pure ⟨none,H,I,.none,h⟩
theorem D6u(h:PE X e te):PO X (some e) (G7v te):=by
 intro pins s σ H Q I hw
 rw[evalPart_some]
 refine thn (h pins s σ H _ I hw) fun u s1 hh_=>?_
 obtain⟨x,H1,I1,r1,q1⟩:=hh_
 obtain⟨i,rfl,q⟩:=q1
 obtain⟨t,rfl⟩:=r1
 exact⟨some i,H1,I1,.int i t,q⟩
noncomputable def SlR (X:Cx) (r:V ->Option Int ->Option Int ->Hp ->VK ->Prop):Prop:=
 ∀ (pins:List (Addr×Obj)) (s:Shared) (σ:St) (H:Hp) (x:V) (v vl vu:Value) (lo hi:Option Int) (sl:Addr) (Q:VK),Inv X pins σ H s ->U9 x v ->s.heap.IsSliceOf sl vl vu .none ->IsPart vl lo ->IsPart vu hi ->r x lo hi H Q ->
   ∃T id,typeLookup (.type T) "__getitem__"=pure (some (.builtin id))/\s.TypeIs v T/\wpAny (model X.prog X.w) X.A (getItem v (.ref sl)) (EP X pins σ Q) X.xe s
noncomputable def tSl (r:V ->Option Int ->Option Int ->Hp ->VK ->Prop) (te:TE) (tl th:TO):TE:=fun σ H Q=>te σ H fun x H1=>tl σ H1 fun l H2=>th σ H2 fun u H3=>r x l u H3 Q
theorem C8e{r:V ->Option Int ->Option Int ->Hp ->VK ->Prop}(hr:SlR X r)(he:PE X e te)(hl:PO X lo tl)(hu:PO X hi th):PE X (.Subscript e (.Slice lo hi none p2) pos) (tSl r te tl th):=by
 intro pins s σ H Q I h
 refine Subscript_ (thn (he pins s σ H _ I h) fun v s1 hh_=>?_)
 obtain⟨x,H1,I1,r1,q1⟩:=hh_
 refine wpAny_Slice (thn (hl pins s1 σ H1 _ I1 q1) fun vl s2 ⟨l,H2,I2,pl,q2⟩=>thn (hu pins s2 σ H2 _ I2 q2) fun vu s3 hh_=>?_)
 obtain⟨u,H3,I3,pu,q3⟩:=hh_
 rw[evalPart_none]
 refine wpAny_pure ?_
 have I4:Inv X pins σ H3 {s3 with heap:=s3.heap.push {cls:= .type "slice",data:= .fields #[vl,vu,.none]}}:=I3.kept (t':=s3.toks) fun b ob q=>Heap.get?_push_of_some _ q
 obtain⟨T,id,hT,ht,hg⟩:=hr pins {s3 with heap:=s3.heap.push {cls:= .type "slice",data:= .fields #[vl,vu,.none]}} σ H3 x v vl vu l u s3.heap.objs.size Q I4 r1 (Heap.IsSliceOf.new ..) pl pu q3
 show wpAny (model X.prog X.w) X.A (subscriptTail e (.Slice lo hi none p2) v (.ref s3.heap.objs.size)) (EP X pins σ Q) X.xe {s3 with heap:=s3.heap.push {cls:= .type "slice",data:= .fields #[vl,vu,.none]}}
 exact tail_any (ops:=[.ref s3.heap.objs.size,v]) ht hT hg (by with_unfolding_all rfl)
noncomputable def C0v (xs:List V) (lo hi:Option Int):List V:=(xs.drop (HT.sIx xs.length 0 lo)).take (HT.sIx xs.length xs.length hi-HT.sIx xs.length 0 lo)
theorem B7f(xs:List V)(lo hi:Option Int):(C0v xs lo hi).length<=xs.length:=by
 unfold C0v
 rw[List.length_take,List.length_drop]
 omega
noncomputable def J0h (K:PySem.W.Frag):V ->Option Int ->Option Int ->Hp ->VK ->Prop:=fun x lo hi H Q=>∃a xs,x= .ref a/\SqT K H a xs/\
 ¬(HT.sIx xs.length 0 lo=0/\HT.sIx xs.length xs.length hi=xs.length)/\∀p,H p=none ->Q (.ref p) (upd H p (.tup (C0v xs lo hi)))
theorem G3e:SlR X (J0h X.K):=by
 intro pins s σ H x v vl vu lo hi sl Q I rx hs pl pu h
 obtain⟨a,xs,rfl,hx,hw,q⟩:=h
 cases rx
 obtain⟨its,r,ht,hz⟩:=I.tuple hx
 have hlen:its.toArray.size=xs.length:=by rw[List.size_toArray];exact r.length.symm
 refine⟨"tuple",_,PyProof.Rows.slot_tuple_getitem.lookup,ht.typeIs,?_⟩
 refine HT.getItem_tuple_cut ht hs pl pu (by rw[hlen];exact hw) ?_ (by rw[hlen];exact hz)
 rw[hlen]
 refine⟨.ref s.heap.objs.size,_,I.laid (t':=s.toks) (o:= .tup (C0v xs lo hi)) (fun b ob q=>Heap.get?_push_of_some _ q) (Nat.le_refl _) ?_,rfl,q _ (I.hok.fresh (Nat.le_refl _))⟩
 exact⟨Nat.le_trans (B7f xs lo hi) hz,_,(r.drop (HT.sIx xs.length 0 lo)).take (HT.sIx xs.length xs.length hi-HT.sIx xs.length 0 lo),IsTup.new _ _⟩
end
noncomputable def ixN (n:Nat) (i:Int):Option Nat:=if 0<=i then(if i<n then some i.toNat else none) else if -(n:Int)<=i then some (i+n).toNat else none
noncomputable def atI {α:Type} (xs:List α) (i:Int):Option α:=(ixN xs.length i).bind fun j=>xs[j]?
theorem D7c{n:Nat}{i:Int}{j:Nat}(h:ixN n i=some j):seqIndex? i n=some j/\j<n/\ -(n:Int)<=i/\i<n:=by
 unfold ixN at h
 by_cases h0:0<=i
 . rw[if_pos h0] at h
   by_cases h1:i<n
   . rw[if_pos h1] at h
     have e:i.toNat=j:=Option.some.inj h
     exact⟨by rw[seqIndex_of h0 h1,e],by omega,by omega,h1⟩
   . rw[if_neg h1] at h;cases h
 rw[if_neg h0] at h
 by_cases h1: -(n:Int)<=i
 . rw[if_pos h1] at h
   have e:(i+n).toNat=j:=Option.some.inj h
   exact⟨by rw[seqIndex_neg (by omega) h1,e],by omega,h1,by omega⟩
 rw[if_neg h1] at h;cases h
theorem C3y{α:Type}{xs:List α}{i:Int}{v:α}(h:atI xs i=some v):∃j,seqIndex? i xs.length=some j/\xs[j]?=some v/\j<xs.length/\ -(xs.length:Int)<=i/\i<xs.length:=by
 unfold atI at h
 cases e:ixN xs.length i with
 |none=>rw[e] at h;cases h
 | some j=>
   rw[e] at h
   obtain⟨h1,h2,h3,h4⟩:=D7c e
   exact⟨j,h1,h,h2,h3,h4⟩
theorem V6{α:Type}{xs:List α}{j:Nat}{v:α}(h:xs[j]?=some v):atI xs (j:Int)=some v:=by
 have hj:j<xs.length:=(List.getElem?_eq_some_iff.mp h).1
 have e:ixN xs.length (j:Int)=some j:=by
   unfold ixN
   rw[if_pos (by omega),if_pos (by omega)];simp
 unfold atI;rw[e];exact h
noncomputable def D7r (b:Expr):Prop:=∀o i,subscripted b false o i=operate [o,i] (getItem o i)
noncomputable def IxR (X:Cx) (r:R2):Prop:=
 ∀ (value slice:Expr) (pins:List (Addr×Obj)) (s:Shared) (σ:St) (H:Hp) (x y:V) (v u:Value) (Q:VK),Inv X pins σ H s ->U9 x v ->U9 y u ->r x y H Q ->
   subscripted slice false v u=operate [v,u] (getItem v u) ->wpAny (model X.prog X.w) X.A (subscriptTail value slice v u) (EP X pins σ Q) X.xe s
noncomputable def MtR (X:Cx) (id:String) (r:V ->List V ->Hp ->VK ->Prop):Prop:=
 ∀ (pins:List (Addr×Obj)) (s:Shared) (σ:St) (H:Hp) (x:V) (xs:List V) (v:Value) (us:List Value) (Q:VK),Inv X pins σ H s ->U9 x v ->G7 xs us ->r x xs H Q ->
   wpAny (model X.prog X.w) X.A (call (.builtin id) (v::us)) (EP X pins σ Q) X.xe s
section
variable{X:Cx}{a b:Expr}{ta tb:TE}{pos:Pos}
theorem V8{r:R2}(hr:IxR X r)(ha:PE X a ta)(hb:PE X b tb)(hs:D7r b):PE X (.Subscript a b pos) (tOp r ta tb):=by
 intro pins s σ H Q I h
 exact Subscript_ (G0y ha hb I h fun v u s2 x y H2 I2 rx ry q=>hr a b pins s2 σ H2 x y v u Q I2 rx ry q (hs _ _))
noncomputable def G7g (K:PySem.W.Frag):R2:=fun x y H Q=>∃p xs i v,x= .ref p/\y= .int i/\SqL K H p xs/\atI xs i=some v/\Q v H
noncomputable def J0n (K:PySem.W.Frag):R2:=fun x y H Q=>∃p xs i v,x= .ref p/\y= .int i/\SqT K H p xs/\atI xs i=some v/\Q v H
theorem V2:IxR X (G7g X.K):=by
 intro value slice pins s σ H x y v u Q I rx ry h hs
 obtain⟨p,xs,i,z,rfl,rfl,hq,he,q⟩:=h
 cases rx
 obtain⟨t,rfl⟩:=ry
 obtain⟨its,r,pl,hz⟩:=I.list hq
 obtain⟨j,h1,h2,h3,h4,h5⟩:=C3y he
 obtain⟨w,ew,rw'⟩:=r.get h2
 have hl:=r.length
 have hn:=B6e
 have fin:EP X pins σ Q w s:=⟨z,H,I,rw',q⟩
 by_cases h0:0<=i
 . have hj:i.toNat=j:=by
     rw[seqIndex_of h0 h5] at h1
     exact Option.some.inj h1
   exact item_listR pl.isList h0 (by omega) (by rw[hj];simpa using ew) fin hs
 have hj:(i+(its.toArray.size:Int)).toNat=j:=by
   rw[seqIndex_neg (by omega) h4] at h1
   rw[List.size_toArray, <-hl]
   exact Option.some.inj h1
 exact subscriptTail_builtinR (x:=w) pl.isList.typeIs slot_list_getitem.lookup
   (wpAny_getItem_list_neg (Q:=fun r s'=>r=w/\EP X pins σ Q r s') pl.isList (by omega) (by rw[List.size_toArray]<;>omega) (by omega) (by rw[hj];simpa using ew) ⟨rfl,fin⟩) hs
theorem A1h:IxR X (J0n X.K):=by
 intro value slice pins s σ H x y v u Q I rx ry h hs
 obtain⟨p,xs,i,z,rfl,rfl,hq,he,q⟩:=h
 cases rx
 obtain⟨t,rfl⟩:=ry
 obtain⟨its,r,pl,hz⟩:=I.tuple hq
 obtain⟨j,h1,h2,h3,h4,h5⟩:=C3y he
 obtain⟨w,ew,rw'⟩:=r.get h2
 have hl:=r.length
 have hn:=B6e
 have fin:EP X pins σ Q w s:=⟨z,H,I,rw',q⟩
 exact subscriptTail_builtinR (x:=w) pl.typeIs slot_tuple_getitem.lookup
   (getItem_tuple (j:=j) (Q:=fun r s'=>r=w/\EP X pins σ Q r s') pl (by omega) (by omega) (by rw[List.size_toArray, <-hl];exact h1) (by simpa using ew) ⟨rfl,fin⟩) hs
noncomputable def A6t:V ->Bool
 | .non=>true
 | .bl _=>true
 | .int _=>true
 | .str _=>true
 |_=>false
noncomputable def eqV:V ->V ->Bool
 | .non,.non=>true
 | .bl a,.bl b=>a==b
 | .bl a,.int b=>(if a then 1 else 0)==b
 | .int a,.bl b=>a==(if b then 1 else 0)
 | .int a,.int b=>a==b
 | .str a,.str b=>a==b
 |_,_=>false
theorem G1f{A:Around}{s:Shared}{y x:V}{u v:Value}(ry:U9 y u)(rx:U9 x v)(fy:A6t y=true)(fx:A6t x=true):SeqAt.EqAt A s u v (eqV y x):=by
 cases y with
 | non=>
   cases ry
   cases x with
   |non=>cases rx;exact SeqAt.EqAt.same _
   |bl b=>cases rx;exact SeqAt.EqAt.none_bool b
   |int b=>obtain⟨t,rfl⟩:=rx;exact SeqAt.EqAt.none_int b t
   |str b=>obtain⟨t,rfl⟩:=rx;exact SeqAt.EqAt.none_str b t
   |_=>exact absurd (show false=true from fx) Bool.false_ne_true
 | bl a=>
   cases ry
   cases x with
   |non=>cases rx;exact SeqAt.EqAt.bool_none a
   |bl b=>cases rx;exact SeqAt.EqAt.bool_bool a b
   |int b=>obtain⟨t,rfl⟩:=rx;exact SeqAt.EqAt.bool_int a b t
   |str b=>obtain⟨t,rfl⟩:=rx;exact SeqAt.EqAt.bool_str a b t
   |_=>exact absurd (show false=true from fx) Bool.false_ne_true
 | int a=>
   obtain⟨t',rfl⟩:=ry
   cases x with
   |non=>cases rx;exact SeqAt.EqAt.int_none a t'
   |bl b=>cases rx;exact SeqAt.EqAt.int_bool a t' b
   |int b=>obtain⟨t,rfl⟩:=rx;exact SeqAt.EqAt.int_int a t' b t
   |str b=>obtain⟨t,rfl⟩:=rx;exact SeqAt.EqAt.int_str a t' b t
   |_=>exact absurd (show false=true from fx) Bool.false_ne_true
 | str a=>
   obtain⟨t',rfl⟩:=ry
   cases x with
   |non=>cases rx;exact SeqAt.EqAt.str_none a t'
   |bl b=>cases rx;exact SeqAt.EqAt.str_bool a t' b
   |int b=>obtain⟨t,rfl⟩:=rx;exact SeqAt.EqAt.str_int a t' b t
   |str b=>obtain⟨t,rfl⟩:=rx;exact SeqAt.EqAt.str_str a t' b t
   |_=>exact absurd (show false=true from fx) Bool.false_ne_true
 |_=>exact absurd (show false=true from fy) Bool.false_ne_true
noncomputable def eqU (x:V) (u:Value):Bool:=match u with
 | .none=>eqV .non x
 | .bool b=>eqV (.bl b) x
 | .int i _=>eqV (.int i) x
 | .str z _=>eqV (.str z) x
 |_=>false
theorem C9r{x y:V}{u:Value}(r:U9 y u)(f:A6t y=true):eqU x u=eqV y x:=by
 cases y with
 |non=>cases r;rfl
 |bl b=>cases r;rfl
 |int i=>obtain⟨t,rfl⟩:=r;rfl
 |str z=>obtain⟨t,rfl⟩:=r;rfl
 |_=>exact absurd (show false=true from f) Bool.false_ne_true
theorem A7m{x:V}:∀{xs:List V} {us:List Value},G7 xs us ->xs.all A6t=true ->us.any (eqU x)=xs.any fun y=>eqV y x
 |_,_,.nil,_=>rfl
 | y::xs,u::us,.cons r t,f=>by
   rw[List.all_cons,Bool.and_eq_true] at f
   rw[List.any_cons,List.any_cons,C9r r f.1,A7m t f.2]
theorem A4p{A:Around}{s:Shared}{x:V}{v:Value}(rx:U9 x v)(fx:A6t x=true):∀{xs:List V} {us:List Value},G7 xs us ->xs.all A6t=true ->∀u∈us,SeqAt.EqAt A s u v (eqU x u)
 |_,_,.nil,_=>fun u hu=>by cases hu
 | y::xs,u::us,.cons r t,f=>fun u' hu=>by
   rw[List.all_cons,Bool.and_eq_true] at f
   rcases List.mem_cons.mp hu with rfl|hu
   . rw[C9r r f.1];exact G1f r rx f.1 fx
   . exact A4p rx fx t f.2 u' hu
noncomputable def inV (x:V) (xs:List V):Bool:=xs.any fun y=>eqV y x
noncomputable def rIn (K:PySem.W.Frag) (neg:Bool):R2:=fun x y H Q=>∃p xs,y= .ref p/\(SqL K H p xs\/SqT K H p xs)/\A6t x=true/\xs.all A6t=true/\Q (.bl (if neg then !inV x xs else inV x xs)) H
theorem A8g:OpR X (compareOp .In) (rIn X.K false):=by
 intro pins s σ H x y v u Q I rx ry h
 obtain⟨p,xs,rfl,hq,fx,fs,q⟩:=h
 cases ry
 rcases hq with hq|hq
 . obtain⟨its,r,pl,hz⟩:=I.list hq
   refine SeqAt.in_listAt (eqU x) pl.isList (fun w hw=>A4p rx fx r fs w (by simpa using hw)) ⟨.bl _,H,I,rfl,?_⟩
   rw[show its.toArray.any (eqU x)=its.any (eqU x) by simp,A7m r fs]
   exact q
 obtain⟨its,r,pl,hz⟩:=I.tuple hq
 refine SeqAt.in_tupleAt (eqU x) pl (fun w hw=>A4p rx fx r fs w (by simpa using hw)) ⟨.bl _,H,I,rfl,?_⟩
 rw[show its.toArray.any (eqU x)=its.any (eqU x) by simp,A7m r fs]
 exact q
theorem A7p:OpR X (compareOp .NotIn) (rIn X.K true):=by
 intro pins s σ H x y v u Q I rx ry h
 obtain⟨p,xs,rfl,hq,fx,fs,q⟩:=h
 cases ry
 rcases hq with hq|hq
 . obtain⟨its,r,pl,hz⟩:=I.list hq
   refine SeqAt.notIn_listAt (eqU x) pl.isList (fun w hw=>A4p rx fx r fs w (by simpa using hw)) ⟨.bl _,H,I,rfl,?_⟩
   rw[show its.toArray.any (eqU x)=its.any (eqU x) by simp,A7m r fs]
   exact q
 obtain⟨its,r,pl,hz⟩:=I.tuple hq
 refine SeqAt.notIn_tupleAt (eqU x) pl (fun w hw=>A4p rx fx r fs w (by simpa using hw)) ⟨.bl _,H,I,rfl,?_⟩
 rw[show its.toArray.any (eqU x)=its.any (eqU x) by simp,A7m r fs]
 exact q
theorem B6h:A1b X (.builtin "len") (fun xs H Q=>∃p ys,xs=[.ref p]/\(SqL X.K H p ys\/SqT X.K H p ys)/\Q (.int ys.length) H):=by
 intro pins s σ H xs us Q I r h
 obtain⟨p,ys,rfl,hq,q⟩:=h
 obtain⟨u,rfl,rx⟩:=A7g r
 cases rx
 have hn:=B6e
 rcases hq with hq|hq
 . obtain⟨its,r',pl,hz⟩:=I.list hq
   have hlen:=r'.length
   exact Calls.call_len_list pl.isList (by simp only[List.size_toArray]<;>omega) ⟨.int ys.length,H,I.tok _,⟨s.toks+1,by rw[List.size_toArray,hlen]⟩,q⟩
 obtain⟨its,r',pl,hz⟩:=I.tuple hq
 have hlen:=r'.length
 exact len_tuple pl (by simp only[List.size_toArray]<;>omega) ⟨.int ys.length,H,I.tok _,⟨s.toks+1,by rw[List.size_toArray,hlen]⟩,q⟩
theorem A1x:A1b X (.builtin "len") (fun xs H Q=>∃z,xs=[.str z]/\z.length<=sizeLine/\Q (.int z.length) H):=by
 intro pins s σ H xs us Q I r h
 obtain⟨z,rfl,hz,q⟩:=h
 obtain⟨u,rfl,t,rfl⟩:=A7g r
 have hn:=B6e
 exact len_str (by omega) ⟨.int z.length,H,I.tok _,⟨_,rfl⟩,q⟩
theorem A3u:A1b X (.type "list") (fun xs H Q=>∃p ys,xs=[.ref p]/\(SqL X.K H p ys\/SqT X.K H p ys)/\∀l,H l=none ->Q (.ref l) (upd H l (.lst ys))):=by
 intro pins s σ H xs us Q I r h
 obtain⟨p,ys,rfl,hq,q⟩:=h
 obtain⟨u,rfl,rx⟩:=A7g r
 cases rx
 have fin:∀(its:List Value),G7 ys its ->ys.length<=sizeLine ->∀(h':Heap) (c':Nat),(∀b o',s.heap.get? b=some o' ->h'.get? b=some o') ->
     h'.get? s.heap.objs.size=some {cls:= .type "list",dict:=none,data:= .seq its.toArray c',slots:= #[]} ->EP X pins σ Q (.ref s.heap.objs.size) {s with heap:=h'}:=fun its r' hz h' c' kp e=>
   ⟨.ref s.heap.objs.size,_,I.laid (t':=s.toks) kp (Nat.le_refl _) (show Y9 X.prog X.w _ h' _ (.lst ys) from⟨hz,its,c',r',e⟩),rfl,q _ (I.hok.fresh (Nat.le_refl _))⟩
 rcases hq with hq|hq
 . obtain⟨its,r',pl,hz⟩:=I.list hq
   have hlen:=r'.length
   obtain⟨o,ho,hc,n,hd⟩:=pl.isList
   exact call_list_seq p (.inl rfl) ho hc hd (fun h' c' kp e=>fin its r' hz h' c' kp e) (by simp only[List.size_toArray]<;>omega)
 obtain⟨its,r',pl,hz⟩:=I.tuple hq
 have hlen:=r'.length
 obtain⟨o,ho,hc,n,hd⟩:=pl
 exact call_list_seq p (.inr rfl) ho hc hd (fun h' c' kp e=>fin its r' hz h' c' kp e) (by simp only[List.size_toArray]<;>omega)
noncomputable def tyV (K:PySem.W.Frag) (T:String) (x:V) (H:Hp):Prop:=match x with
 | .str _=>T="str"
 | .int _=>T="int"
 | .ref p=>(T="list"/\∃xs,SqL K H p xs)\/(T="tuple"/\∃o,K.lookup p=some o/\o.cls= .type "tuple"/\o.dict=none)\/
     (T="dict"/\((∃kvs,H p=some (.dK kvs))\/∃kvs,H p=some (.dT kvs)))\/(T="set"/\∃S n,H p=some (.set S n))
 |_=>False
theorem G3f{pins:List (Addr×Obj)}{σ:St}{H:Hp}{s:Shared}{T:String}{x:V}{v:Value}(I:Inv X pins σ H s)(r:U9 x v)(ty:tyV X.K T x H):
   s.TypeIs v T/\∀a,v= .ref a ->∃ob,s.heap.get? a=some ob/\ob.dict=none:=by
 cases x with
 | str z=>
   obtain⟨t,rfl⟩:=r
   cases(show T="str" from ty)
   exact⟨typeIs_str s z t,fun _ e=>nomatch e⟩
 | int i=>
   obtain⟨t,rfl⟩:=r
   cases(show T="int" from ty)
   exact⟨typeIs_int s i t,fun _ e=>nomatch e⟩
 | ref p =>
   cases r
   rcases ty with⟨rfl,xs,hq⟩|⟨rfl,o,hk,hc,hd⟩|⟨rfl,hk⟩|⟨rfl,S,n,hk⟩
   . obtain⟨its,_,pl,_⟩:=I.list hq
     refine⟨pl.isList.typeIs,fun a e=>?_⟩
     cases e
     obtain⟨o,n,e,c,hd,_⟩:=pl
     exact⟨o,e,hd⟩
   . refine⟨⟨o,I.kIn p o hk,hc⟩,fun a e=>?_⟩
     cases e
     exact⟨o,I.kIn _ o hk,hd⟩
   . have z:∃o,s.heap.get? p=some o/\o.ExactDict:=by
       rcases hk with⟨kvs,hk⟩|⟨kvs,hk⟩
       . obtain⟨_,_,_,_,o,_,_,e,ex,_⟩:=I.hok p _ hk
         exact⟨o,e,ex⟩
       . obtain⟨_,_,_,_,o,_,_,e,ex,_⟩:=I.hok p _ hk
         exact⟨o,e,ex⟩
     obtain⟨o,e,ex⟩:=z
     refine⟨⟨o,e,ex.1⟩,fun a e2=>?_⟩
     cases e2
     exact⟨o,e,ex.2.1⟩
   . obtain⟨o,_,_,_,e,ex,_⟩:=I.hok p _ hk
     refine⟨⟨o,e,ex.1⟩,fun a e2=>?_⟩
     cases e2
     exact⟨o,e,ex.2.1⟩
 |_=>exact False.elim ty
noncomputable def J2d (K:PySem.W.Frag) (T:String) (r:V ->List V ->Hp ->VK ->Prop) (to:TE):TE:=fun σ H Q=>to σ H fun x H1=>tyV K T x H1/\r x [] H1 Q
variable{o e:Expr}{es:List Expr}{to:TE}{t:TA}{name:Str}{apos cpos:Pos}{T id:String}{r:V ->List V ->Hp ->VK ->Prop}
theorem D0r(pa:PlainAttrs T)(slot:Slot T name id)(hty:typeOf (.builtin id)=pure (.type "method_descriptor"))(hm:MtR X id r)(ho:PE X o to)
   (hbase:attributeBase o name X.env (eval o X.env)=eval o X.env:=by rfl) (hline:(apos.endLine==cpos.line)=true:=by rfl):PE X (.Call (.Attribute o name apos) [] [] cpos) (J2d X.K T r to):=by
 intro pins s σ H Q I h
 refine wpAny_Call_method0_late hbase hline (thn (ho pins s σ H _ I h) fun v s1 hh_=>?_)
 obtain⟨x,H1,I1,r1,ty,q1⟩:=hh_
 obtain⟨h1,h2⟩:=G3f I1 r1 ty
 exact⟨T,id,pa,slot,hty,h1,h2,Calls.callWith_builtin rfl (PySem.evalArgs_none (hm pins s1 σ H1 x [] v [] Q I1 r1 .nil q1))⟩
end
noncomputable def MtM (X:Cx) (id:String) (r:V ->List V ->Hp ->VK ->Prop):Prop:=
 ∀ (pins:List (Addr×Obj)) (s:Shared) (σ:St) (H:Hp) (x:V) (xs:List V) (v:Value) (us:List Value) (Q:VK),Inv X pins σ H s ->U9 x v ->G7 xs us ->r x xs H Q ->
   wpAny (model X.prog X.w) X.A (call (.builtin id) (v::us)) (EP X pins σ Q) X.xe s
theorem G7.one{x:V}{us:List Value}(h:G7 [x] us):∃u,us=[u]/\U9 x u:=by
 cases h with
 |cons r t=>cases t;exact⟨_,rfl,r⟩
theorem G7.two{x y:V}{us:List Value}(h:G7 [x,y] us):∃u v,us=[u,v]/\U9 x u/\U9 y v:=by
 cases h with
 | cons r t=>
   cases t with
   |cons q z=>cases z;exact⟨_,_,rfl,r,q⟩
theorem G7.zero:∀{us:List Value},G7 [] us ->us=[]
 |_,.nil=>rfl
theorem G7.rep{xs:List V}{us:List Value}(h:G7 xs us):∀k:Nat,G7 (List.replicate k xs).flatten (List.replicate k us).flatten
 |0=> .nil
 | k+1=>by
   rw[List.replicate_succ,List.replicate_succ,List.flatten_cons,List.flatten_cons]
   exact G7.append h (G7.rep h k)
theorem B4q(its:List Value):∀(k:Nat) (acc:List Value),
   List.foldl (fun x1 x2=>x1++x2) acc.toArray (List.replicate k its.toArray)=(acc++(List.replicate k its).flatten).toArray
 |0,acc=>by simp
 | k +1,acc=>by
   have e:acc.toArray++its.toArray=(acc++its).toArray:=by simp
   have e2:(acc++its)++(List.replicate k its).flatten=acc++(List.replicate (k+1) its).flatten:=by
     rw[List.replicate_succ,List.flatten_cons,List.append_assoc]
   rw[<-e2, <-B4q its k (acc++its), <-e,List.replicate_succ,List.foldl_cons]
section
variable{X:Cx}{pins:List (Addr×Obj)}{σ:St}{H:Hp}{s:Shared}{l b:Addr}{xs ys zs:List V}
theorem Inv.lset{its its':List Value}{n:Nat}{f:Array Value ->Array Value}{t':Nat}(I:Inv X pins σ H s)(hH:H l=some (.lst xs))
   (e:s.heap.get? l=some {cls:= .type "list",data:= .seq its.toArray n}) (hf:f its.toArray=its'.toArray) (hv:G7 ys its') (hz:ys.length<=sizeLine):
   Inv X pins σ (upd H l (.lst ys)) {s with heap:=s.heap.update l (Obj.mapSeq f),toks:=t'}:=by
 have q:=PySem.IsL.update e f
 rw[hf] at q
 refine I.write (x:=l) (e:=l) (by rw[hH];exact trivial) (.inl rfl) (fun b' u hb hu=>(Heap.get?_update_other s.heap (Obj.mapSeq f) (Ne.symm hb)).trans hu) ⟨_,q⟩ ?_
 exact⟨hz,its',_,hv,q⟩
theorem Inv.lnew{its:List Value}{t':Nat}(I:Inv X pins σ H s)(hv:G7 ys its)(hz:ys.length<=sizeLine):
   Inv X pins σ (upd H s.heap.objs.size (.lst ys)) {s with heap:=s.heap.push {cls:= .type "list",data:= .seq its.toArray},toks:=t'}:=
 I.laid (fun _ _ q=>Heap.get?_push_of_some _ q) (Nat.le_refl _) ⟨hz,its,0,hv,Heap.get?_push_size _ rfl⟩
theorem Inv.fresh(I:Inv X pins σ H s):H s.heap.objs.size=none:=I.hok.fresh (Nat.le_refl _)
theorem Inv.lstM(I:Inv X pins σ H s)(hH:H l=some (.lst xs)):xs.length<=sizeLine/\∃(its:List Value) (n:Nat),G7 xs its/\xs.length=its.length/\s.heap.get? l=some {cls:= .type "list",data:= .seq its.toArray n}:=by
 obtain⟨z,its,n,r,e⟩:=I.hok l _ hH
 exact⟨z,its,n,r,r.length,e⟩
theorem C7f{n:Nat}(h:n<=sizeLine):Builtin.List.listTooLong n=false:=by
 unfold Builtin.List.listTooLong
 exact decide_eq_false (by omega)
end
section
variable{X:Cx}
noncomputable def D8n:V ->List V ->Hp ->VK ->Prop:=fun x vs H Q=>∃l xs y,x= .ref l/\vs=[y]/\H l=some (.lst xs)/\xs.length<sizeLine/\Q .non (upd H l (.lst (xs++ [y])))
theorem A5g:MtM X "list.append" D8n:=by
 intro pins s σ H x vs v us Q I rx rv h
 obtain⟨l,xs,y,rfl,rfl,hH,hz,q⟩:=h
 cases rx
 obtain⟨u,rfl,ru⟩:=rv.one
 obtain⟨z,its,n,r,hl,e⟩:=I.lstM hH
 refine call_meets F.slot_list_append ⟨_,e,rfl⟩ F.entry_list_append (F.args_list_append_2 _ _) (PySem.list_append l its.toArray n u (by rw[List.size_toArray];omega)) ⟨e,?_⟩
 refine⟨.non,_,I.lset (its':=its++ [u]) hH e (by simp) (r.append (.cons ru .nil)) ?_,rfl,q⟩
 rw[List.length_append,List.length_singleton]
 omega
noncomputable def J1t:R2:=fun x y H Q=>∃l b xs zs,x= .ref l/\y= .ref b/\H l=some (.lst xs)/\H b=some (.lst zs)/\xs.length+zs.length<=sizeLine/\∀p,H p=none ->Q (.ref p) (upd H p (.lst (xs++zs)))
theorem B1d:OpR X (binaryOp .Add) J1t:=by
 intro pins s σ H x y v u Q I rx ry h
 obtain⟨l,b,xs,zs,rfl,rfl,hH,hB,hz,q⟩:=h
 cases rx
 cases ry
 obtain⟨z,its,n,r,hl,e⟩:=I.lstM hH
 obtain⟨z2,its2,n2,r2,hl2,e2⟩:=I.lstM hB
 refine PySem.P.add_list e e2 ?_ (by rw[List.size_toArray,List.size_toArray];omega)
 have ea:its.toArray++its2.toArray=(its++its2).toArray:=by simp
 rw[ea]
 exact⟨.ref _,_,I.lnew (t':=s.toks) (r.append r2) (by rw[List.length_append];omega),rfl,q _ I.fresh⟩
noncomputable def J0z:R2:=fun x y H Q=>∃l k xs,x= .ref l/\y= .int k/\H l=some (.lst xs)/\ -(2^63)<=k/\k<2^63/\xs.length*k.toNat<=sizeLine/\
 ∀p,H p=none ->Q (.ref p) (upd H p (.lst (List.replicate k.toNat xs).flatten))
theorem C3f{α:Type}(xs:List α)(k:Nat):(List.replicate k xs).flatten.length=k*xs.length:=by
 induction k with
 |zero=>simp
 |succ k ih=>rw[List.replicate_succ,List.flatten_cons,List.length_append,ih,Nat.succ_mul,Nat.add_comm]
theorem C0z:OpR X (binaryOp .Mult) J0z:=by
 intro pins s σ H x y v u Q I rx ry h
 obtain⟨l,k,xs,rfl,rfl,hH,h1,h2,hz,q⟩:=h
 cases rx
 obtain⟨t,rfl⟩:=ry
 obtain⟨z,its,n,r,hl,e⟩:=I.lstM hH
 have hlen:its.toArray.size*k.toNat<=sizeLine:=by rw[List.size_toArray, <-hl];exact hz
 have hcap:¬its.toArray.size*k.toNat>(2^63-1)/8:=by
   have:(sizeLine:Nat)<=(2^63-1)/8:=by decide
   omega
 have hfit:¬(!Builtin.List.listFitsIndex k)=true:=by
   rw[fitsIndex_both h1 h2]
   exact Bool.false_ne_true
 have hlong:¬Builtin.List.listTooLong (its.toArray.size*k.toNat)=true:=by
   rw[C7f hlen]
   exact Bool.false_ne_true
 have hnew:List.foldl (fun x1 x2=>x1++x2) #[] (List.replicate (if its.toArray.isEmpty=true then 0 else k.toNat) its.toArray)=(List.replicate k.toNat its).flatten.toArray:=by
   have f0:∀m:Nat,List.foldl (fun x1 x2=>x1++x2) #[] (List.replicate m its.toArray)=(List.replicate m its).flatten.toArray:=fun m=>by
     have:=B4q its m []
     rw[List.nil_append] at this
     exact this
   rw[f0]
   cases its with
   |nil=>simp
   |cons a r'=>rw[if_neg (by simp)]
 refine wpAny_binaryOp_repeat_ref (T:="list") (U:="int") (by decide) ⟨_,e,rfl⟩ (fun s'=>typeIs_int s' k t) noFill_list_mul F.fills_int_mul F.slot_int_rmul repeat_list F.slot_int_index.lookup
   (call_meets F.slot_int_rmul (typeIs_int s k t) F.entry_int_rmul (F.args_int_rmul_2 _ _) (int___rmul___int_list k t l its.toArray n)
     ⟨e,rfl,⟨_,e,rfl⟩,call_meets F.slot_list_mul ⟨_,e,rfl⟩ F.entry_list_mul (F.args_list_mul_2 _ _) (AutoListH.list___mul___list_int_3 l its.toArray n k t hfit hcap hlong) ⟨e,?_⟩⟩)
 rw[hnew]
 exact⟨.ref _,_,I.lnew (t':=s.toks) (r.rep k.toNat) (by rw[C3f,Nat.mul_comm];exact hz),rfl,q _ I.fresh⟩
end
section
variable{prog:Program}{w:World}{A:Around}{E:Value ->Shared ->Prop}{s:Shared}
end
section
variable{X:Cx}
end
end L2
namespace Att
open PySem PySem.W PySem.Calls PyProof.Rows
theorem A9k{P:Params}{h:Heap}:∀(ns:List Int) (vs:List Value),WellAll P h vs (ns.map WData.int) ->IntsAre vs ns:=by
 intro ns
 induction ns with
 | nil=>
   intro vs w
   rw[List.map_nil] at w
   cases w
   exact .nil
 | cons n ns ih=>
   intro vs w
   rw[List.map_cons] at w
   cases w with
   | cons a b=>
     cases a
     exact .cons _ _ (ih _ b)
theorem C5r{l:OpenLaw}{n:Nat}(hn:l.most=some n){P:Params}{h:Heap}{args:List WData}{vals:List Value}
   (hpre:l.row.toRowW.claim.pre args=true) (hwl:WellAll P h vals args):
   ∃a vs ns,vals=[Value.ref a]/\args=[WData.list (ns.map WData.int)]/\h.get? a=some {cls:= .type "list",data:= .seq vs.toArray}/\IntsAre vs ns/\ns.length<=n:=by
 have hsh:WShape.hasAll [] args [.list .int]=true:=(pre_splitW hpre).1
 have hc:l.pre.holds [] {args:=args}=true:=(pre_splitW hpre).2
 obtain⟨d,r,rfl,h1,h2⟩:=hasAllW_cons hsh
 obtain rfl:=hasAllW_nil h2
 obtain⟨xs,rfl,h3⟩:=hasW_list h1
 obtain⟨ns,rfl⟩:=items_int h3
 have hlen:ns.length<=n:=by
   unfold OpenLaw.pre at hc
   have h4:(WTm.not (.lt (.lit (.int (n:Int))) (.len (.arg 0)))).holds [] {args:=[.list (ns.map .int)]}=true:=by
     have h4:=(holds_andW hc).1
     rw[hn] at h4
     exact h4
   have h5:=condW_of h4 (w_not (w_lt w_lit (w_len_list (w_arg rfl))))
   rw[List.length_map] at h5
   refine Nat.le_of_not_lt fun q=>?_
   have q':(n:Int)<((ns.length:Nat):Int):=by omega
   first
     |(rw[decide_eq_true q'] at h5;exact absurd h5 (by decide))
     |(simp at h5;omega)
 cases hwl with
 | cons w1 w2=>
   cases w2
   cases w1 with
   |list ho hall=>exact⟨_,_,ns,rfl,rfl,ho,A9k ns _ hall,hlen⟩
theorem C6r(l:OpenLaw)(args:List WData):l.row.toRowW.claim.post args (.bool true) args=true:=
 postW_of (r:=l.row.toRowW) (X:=(true==true))
   (show WShape.has [] (.bool true) .bool=true by first|rfl|decide|simp[WShape.has,WShape.arms,WShape.armsAll])
   (show(WTm.eq .res (.lit (.bool true))).value [] {args:=args,res:=some (.bool true),after:=args}=some (.bool (true==true)) from w_eq_bool (w_res rfl) w_lit) rfl
theorem attach_call{l:OpenLaw}{n:Nat}{q:Program}{loose:List Str}{XP:(Str ->Option Value) ->Heap ->Prop}{YP:World ->Heap ->Prop}{d:DefRec}
   (hn:l.most=some n) (hdf:d.params.defaults=[])
   (call:∀(w:World) (s₀ s₁:Shared) (mg mb:Str ->Option Value) (fa:Addr) (o:Obj) (pm cd doc:Value) (a:Addr) (vs:List Value) (ns:List Int),
     Ground q loose [] XP w s₀ mg mb s₁.heap ->YP w s₁.heap ->
     s₁.heap.get? fa=some o ->o.data= .func (docDef d.name d.params d.body d.scope pm cd doc) ->s₁.heap.CodeRec cd d.name ->mg d.name=some (.ref fa) ->
     s₁.heap.get? a=some {cls:= .type "list",data:= .seq vs.toArray} ->IntsAre vs ns ->ns.length<=n ->s₁.gens= #[] ->
     codeAny (model l.prog w) callerA (.call (.ref fa) ⟨[.ref a],[]⟩) (fun r s'=>r= .ok (.ret (.bool true))/\OldK s₁.heap s'.heap/\s'.os=s₁.os/\AllBare s'.gens) s₁):
   WalkO q loose XP YP l.row.toRowW d [] (fun f vs=>PySem.call f vs):=by
 intro w s₀ s₁ mg mb G Y fa o pm cd doc dV kV ho hd hcd hD hmg hg args vals as hpre hlay hrd hwl hlo
 obtain rfl:dV= .none:=Dflts.none hD hdf
 obtain rfl:kV= .none:=Dflts.noKw hD
 obtain⟨a,vs,ns,rfl,rfl,hobj,hints,hlen⟩:=C5r hn hpre hwl
 refine enter_call (codeAny_mono (call w s₀ s₁ mg mb fa o pm cd doc a vs ns G Y ho (fd_plain hd) hcd hmg hobj hints hlen hg) fun r s' hq=>?_)
 obtain⟨rfl,h2,h3,h4⟩:=hq
 exact⟨.inl ⟨.bool true,.bool true,[],rfl,fun _=>rfl,.bool true,C6r l _,fun _=>⟨List.Pairwise.nil,fun _ hm=>(nomatch hm)⟩⟩,h2,h3,h4⟩
section
variable{prog:Program}{w:World}{A:Around}{E:Value ->Shared ->Prop}{s:Shared}{K:Frag}
end
end Att
namespace L2
open PySem PySem.Spec PyProof.Rows
theorem B4n:∀{vs:List Value} {ns:List Int},IntsAre vs ns ->G7 (ns.map V.int) vs
 |_,_,.nil=> .nil
 |_,_,.cons n t h=> .cons ⟨t,rfl⟩ (B4n h)
noncomputable def G1x (H:Hp):Prop:=∀b,H b=none\/∃o xs,H b=some (.frz o (.lst xs))
noncomputable def J1 (s:Stmt) (j:Nat):Stmt:=match s with
 | .ClassDef _ _ _ body _ _ _ _ _ _ _=>body.getD j (.Pass ⟨0,0,0,0⟩)
 |_=> .Pass ⟨0,0,0,0⟩
noncomputable def U1 (s:Stmt):Arguments:=match s with
 | .FunctionDef _ a _ _ _ _ _ _ _ _=>a
 |_=>{posonlyargs:=[],args:=[],vararg:=none,kwonlyargs:=[],kw_defaults:=[],kwarg:=none,defaults:=[]}
noncomputable def J0 (s:Stmt):List Stmt:=match s with
 | .FunctionDef _ _ b _ _ _ _ _ _ _=>b
 |_=>[]
noncomputable def A5 (s:Stmt):Scope:=match s with
 | .FunctionDef _ _ _ _ _ _ sc _ _ _=>sc
 |_=>{kind:= .function,names:=[],isGenerator:=false,isCoroutine:=false}
noncomputable abbrev CX0:CXT:=fun _ _ _ _ _ _=>False
noncomputable abbrev E0:XK:=fun _ _ _=>False
structure Fun(K:PySem.W.Frag)(x qual:Str)(st:Stmt)(f:Addr)(fd:FuncData):Prop where
 ex:∃(oc:Value) (od:Option Addr) (kV doc pm:Value) (an:Option Addr) (cdv ct:Value) (osl:Array (Option Value)),
   fd=PySem.W.fnOf x qual (U1 st) (J0 st) (A5 st) .none kV doc pm an cdv ct/\K.lookup f=some ⟨oc,od,.func fd,osl⟩/\PySem.W.codeIn K cdv qual=true
 kp:PySem.W.keepIn K (.ref f)=true
section
variable{P:Program}{w:World}{K:PySem.W.Frag}{mg:Str ->Option Value}{base:Heap}
theorem Fun.ok{x qual:Str}{st:Stmt}{f:Addr}{fd:FuncData}{N ps:List Str}{k:Nat}{sp:Sp}(F:Fun K x qual st f fd)(S:B8 N ps (A5 st))(len:∀vs H Q E,sp vs H Q E ->vs.length=ps.length)
   (hbody:∀(cdv:Value) (A:Around) (outer:List Env) (s:Shared) (H:Hp) (vs:List V) (Q:VK) (E:XK),A0p k (A.deeper (envOfC qual (A5 st) s.heap.objs.size f cdv)) ->sp vs H Q E ->
     ∃t,PSs (A2d CX0 P w K mg base N qual (A5 st) f cdv A outer s H E).nox (J0 st) t/\t {nx:=fun _ H'=>Q .non H',rt:=Q} (A1r N vs) H):G0 P w K mg base CX0 (k+1) f fd ps sp:=by
 obtain⟨oc,od,kV,doc,pm,an,cdv,ct,osl,rfl,lk,hcd⟩:=F.ex
 refine G0h lk hcd S len fun A outer s H vs Q E hr hsp=>?_
 obtain⟨t,h,q⟩:=hbody cdv A outer s H vs Q E hr hsp
 exact⟨t,h.nox,q⟩
theorem Fun.binds{x qual:Str}{st:Stmt}{f:Addr}{fd:FuncData}{ps:List Str}(F:Fun K x qual st f fd)
   (h:∀(kV doc pm:Value) (an:Option Addr) (cdv ct:Value) (us:List Value),us.length=ps.length ->bindArgs (PySem.W.fnOf x qual (U1 st) (J0 st) (A5 st) .none kV doc pm an cdv ct) ⟨us,[]⟩=pure (ps.zip us)):V9 K fd ps []:=by
 obtain⟨oc,od,kV,doc,pm,an,cdv,ct,osl,rfl,lk,hcd⟩:=F.ex
 exact .all (h kV doc pm an cdv ct)
theorem A2w{x qual:Str}{st:Stmt}{f:Addr}{oc:Value}{od an:Option Addr}{osl:Array (Option Value)}{kV doc pm cdv ct:Value}(l:K.lookup f=some ⟨oc,od,.func (PySem.W.fnOf x qual (U1 st) (J0 st) (A5 st) .none kV doc pm an cdv ct),osl⟩)
   (c:PySem.W.codeIn K cdv qual=true) (k:PySem.W.keepIn K (.ref f)=true):Fun K x qual st f (PySem.W.fnOf x qual (U1 st) (J0 st) (A5 st) .none kV doc pm an cdv ct):=⟨⟨oc,od,kV,doc,pm,an,cdv,ct,osl,rfl,l,c⟩,k⟩
end
theorem A0r{n:Nat}(h:n<=1000):n<sizeLine:=Nat.lt_of_le_of_lt h (by decide)
section
variable{X:Cx}
theorem pv(i:Nat){x:Str}{pos:Pos}(hN:X.N[i]?=some x:=by rfl)(hv:Vis X.env.scope x:=by first|exact Or.inl rfl|exact Or.inr (Or.inl rfl)|exact Or.inr (Or.inr rfl))(hd:(x==("__debug__":Str))=false:=by decide)
   (hcd:(x==("__classdict__":Str))=false:=by decide):PE X (.Name x pos) (G6w i):=G1u hN hv hd hcd
end
theorem Y1{A B:Prop}(h:B):if false=true then A else B:=by
 rw[if_neg Bool.false_ne_true]
 exact h
theorem Z3{A B:Prop}(h:A):if true=true then A else B:=by
 rw[if_pos rfl]
 exact h
theorem G0j{c A B:Prop} [Decidable c] (hc:c) (h:B):if(!decide c)=true then A else B:=by
 rw[decide_eq_true hc]
 exact Y1 h
noncomputable def B5 (H H':Hp):Prop:=∀b o,H b=some o ->H' b=some o
theorem B5.refl(H:Hp):B5 H H:=fun _ _ h=>h
theorem B5.trans{H H1 H2:Hp}(a:B5 H H1)(b:B5 H1 H2):B5 H H2:=fun c o h=>b c o (a c o h)
theorem B5.free{H H':Hp}(e:B5 H H'){l:Addr}(h:H' l=Option.none):H l=Option.none:=by
 cases q:H l with
 |none=>rfl
 | some o=>
   rw[e l o q] at h
   cases h
theorem B5.seq{K:PySem.W.Frag}{H H':Hp}{a:Addr}{xs:List V}(e:B5 H H')(h:SqL K H a xs):SqL K H' a xs:=by
 rcases h with(h|⟨o,h⟩)|h
 . exact .inl (.inl (e _ _ h))
 . exact .inl (.inr ⟨o,e _ _ h⟩)
 exact .inr h
end L2
set_option maxHeartbeats 4000000
namespace L2
open PySem PySem.Spec PyProof.Rows
noncomputable abbrev Z2 (C:Value) (t:Addr) (dd:Option Addr) (tb:Value):Obj:=
 {cls:=C,dict:=dd,data:= .fields #[.ref t,tb,.none,.none,.bool false,.none]}
structure G8u(fs:List Addr)(h h':Heap)(a:Addr)(C:Value)(t:Addr)(dd:Option Addr)(T:Addr)(fl:Value):Prop where
 keep:∀b o,b ∉ fs ->b≠a ->h.get? b=some o ->h'.get? b=some o
 slot:∀b o,b≠a ->h.get? b=some o ->∃sl,h'.get? b=some {o with slots:=sl}
 new:h.get? T=none
 ne:T≠a
 exc:h'.get? a=some (Z2 C t dd (.ref T))
 tbk:∃oT ts,h'.get? T=some oT/\oT.data= .fields ts/\ts[3]?=some fl
section
variable{M:Model}{A:Around}{E:Value ->Shared ->Prop}{s:Shared}{base:Heap}{env:Env}{outer:List Env}{L a t:Addr}{C:Value}{dd:Option Addr}{tb:Value}{Q:Unit ->Shared ->Prop}
theorem D6s{oa:Obj}{vs:Array Value}{l:List Env}(hl:s.heap.FunFrames base l)(ha:s.heap.get? a=some oa)(hd:oa.data= .fields vs):a ∉ l.filterMap (·.frame):=by
 intro hm
 obtain⟨_,o,ho,hn⟩:=hl.mem hm
 rw[ha] at ho
 cases ho
 exact hn vs hd
theorem C3g{head:Value}{hn:Bool}(hfr:A.frames=some (env::outer))(hl:s.heap.FunFrames base (env::outer))(hf:env.frame=some L)
   (ha:s.heap.get? a=some (Z2 C t dd tb))
   (h:∀h' T,G8u ((env::outer).filterMap (·.frame)) s.heap h' a C t dd T (rawInt L) ->Q () {s with heap:=h'}):
   wpAny M A (do
     let x<-frameOf env
     let pl<-entryPlaceOf L hn
     let b<-EntryCells.newEntry head x .none (rawInt L) .none pl
     setField (.ref a) 1 b) Q E s:=by
 have na:=D6s hl ha rfl
 refine wpAny_bind (wpAny_frameOf_fun hfr hl hf fun g hg=>?_)
 refine wpAny_bind (wpAny_entryPlaceOf fun pl hpl=>?_)
 unfold EntryCells.newEntry newFields
 refine wpAny_bind (wpAny_newObj_type ?_ (hpl.sizeOk5 _ _ _ _ _))
 have a1:g.get? a=some (Z2 C t dd tb):=(hg.2.1 a na).trans ha
 have a2:=fun(z:Obj)=>Heap.get?_push_of_some (h:=g) z a1
 have nT:g.objs.size≠a:=Nat.ne_of_gt (Heap.lt_size a1)
 refine wpAny_setField (a2 _) rfl (by show 1<6;decide) (h _ g.objs.size ?_)
 have up:∀(z:Obj) (f:Obj ->Obj) b o,b≠a ->g.get? b=some o ->((g.push z).update a f).get? b=some o:=by
   intro z f b o hb e
   rw[Heap.get?_update_other _ _ (Ne.symm hb)]
   exact Heap.get?_push_of_some _ e
 refine⟨fun b o hb hba e=>up _ _ b o hba ((hg.2.1 b hb).trans e),fun b o hba e=>?_,?_,nT,?_,?_⟩
 . obtain⟨sl,e1⟩:=hg.2.2 b o e
   exact⟨sl,up _ _ b _ hba e1⟩
 . refine Heap.get?_none_of_le ?_
   rw[hg.1]
   exact Nat.le_refl _
 . exact Heap.get?_update_self _ (a2 _) rfl
 refine⟨_,_,(Heap.get?_update_other _ _ (Ne.symm nT)).trans (Heap.get?_push_size _ rfl),rfl,?_⟩
 first
   |(simp;done)
   |(rcases hpl with rfl|⟨_,_,_,_,_,_,_,rfl⟩<;>simp)
noncomputable def G3b (h:Heap) (a:Addr) (tb:Value):Prop:=tb= .none\/∃T oT ts,tb= .ref T/\T≠a/\h.get? T=some oT/\oT.data= .fields ts/\ts[3]?=some .none
theorem G1h(hfr:A.frames=some (env::outer))(hl:s.heap.FunFrames base (env::outer))(hf:env.frame=some L)
   (ha:s.heap.get? a=some (Z2 C t dd tb)) (ht:G3b s.heap a tb)
   (h:∀h' T,(∀b o,b ∉ (env::outer).filterMap (·.frame) ->b≠a ->tb≠ .ref b ->s.heap.get? b=some o ->h'.get? b=some o) ->
     (∀b o,b≠a ->tb≠ .ref b ->s.heap.get? b=some o ->∃sl,h'.get? b=some {o with slots:=sl}) ->s.heap.get? T=none ->T≠a ->
     h'.get? a=some (Z2 C t dd (.ref T)) ->(∃oT ts,h'.get? T=some oT/\oT.data= .fields ts/\ts[3]?=some (rawInt L)) ->Q () {s with heap:=h'}):
   wpAny M A (noteFrame (.ref a) env) Q E s:=by
 unfold noteFrame
 simp only[hf]
 refine wpAny_bind (wpAny_field ha rfl (x:=tb) rfl ?_)
 rcases ht with rfl|⟨T,oT,ts,rfl,nT,hT,dT,h3⟩
 . rw[if_neg (by decide)]
   refine C3g hfr hl hf ha fun h' T N=>?_
   exact h h' T (fun b o hb hba _ e=>N.keep b o hb hba e) (fun b o hba _ e=>N.slot b o hba e) N.new N.ne N.exc N.tbk
 rw[if_pos (show(Value.ref T !=Value.none)=true by simp)]
 refine wpAny_bind (wpAny_field hT dT h3 ?_)
 rw[if_neg (show¬((Value.none==rawInt L)=true) by simp[rawInt])]
 refine wpAny_bind (wpAny_setField hT dT (Array.getElem?_eq_some_iff.mp h3).1 ?_)
 have oth:∀(f:Obj ->Obj) b,b≠T ->(s.heap.update T f).get? b=s.heap.get? b:=fun f b hb=>Heap.get?_update_other _ _ (Ne.symm hb)
 have nrec:∀b o,s.heap.get? b=some o ->(∀vs,o.data≠ .fields vs) ->b≠T:=by
   intro b o e hn q
   rw[q,hT] at e
   cases e
   exact hn ts dT
 refine C3g (s:={s with heap:=_}) hfr (hl.of_keeps fun b o e hn=>⟨o,(oth _ b (nrec b o e hn)).trans e,rfl⟩) hf ((oth _ a (Ne.symm nT)).trans ha) fun h' T' N=>?_
 have neb:∀b,Value.ref T≠Value.ref b ->b≠T:=fun b q z=>q (by rw[z])
 refine h h' T' (fun b o hb hba hbT e=>N.keep b o hb hba ((oth _ b (neb b hbT)).trans e)) (fun b o hba hbT e=>N.slot b o hba ((oth _ b (neb b hbT)).trans e)) ?_ N.ne N.exc N.tbk
 have nw:=N.new
 by_cases q:T'=T
 . subst q
   have:=Heap.get?_update_self (Obj.mapFields (·.setIfInBounds 3 Value.none)) hT (Obj.isFreed_of_fields (Obj.data_mapFields dT _))
   rw[nw] at this
   cases this
 rw[oth _ T' q] at nw
 exact nw
theorem G3m{T:Addr}{oT:Obj}{ts:Array Value}{fl:Value}(ha:s.heap.get? a=some (Z2 C t dd (.ref T)))(nT:T≠a)(hT:s.heap.get? T=some oT)(dT:oT.data= .fields ts)(h3:ts[3]?=some fl)
   (h:∀h',(∀b o,b≠T ->s.heap.get? b=some o ->h'.get? b=some o) ->G3b h' a (.ref T) ->Q () {s with heap:=h'}):wpAny M A (setFlight (.ref a) none) Q E s:=by
 have sz:3<ts.size:=(Array.getElem?_eq_some_iff.mp h3).1
 unfold setFlight
 refine wpAny_bind (wpAny_field ha rfl (x:= .ref T) rfl ?_)
 rw[if_pos (show(Value.ref T !=Value.none)=true by simp)]
 refine wpAny_setField hT dT sz (h _ (fun b o hb e=>(Heap.get?_update_other _ _ (Ne.symm hb)).trans e) ?_)
 have d2:=Obj.data_mapFields dT (·.setIfInBounds 3 ((none:Option Addr).elim Value.none fun f=>rawInt f))
 exact .inr ⟨T,_,_,rfl,nT,Heap.get?_update_self _ hT (Obj.isFreed_of_fields d2),d2,by simp[sz]⟩
end
noncomputable def Hd (A:Around) (h:Heap):Prop:=A.handled=none\/∃x ox vs,A.handled=some (.ref x)/\h.get? x=some ox/\ox.data= .fields vs/\vs[2]?=some .none
theorem B3a : entryFor table "proto.unchain" = some Builtin.«proto.unchain» := entryFor_of_tree (by kernel_rfl)
section
variable{prog:Program}{w:World}{A:Around}{E:Value ->Shared ->Prop}{s:Shared}
theorem Hd.keeps{h h':Heap}(x:Hd A h)(k:∀b o,h.get? b=some o ->h'.get? b=some o):Hd A h':=by
 rcases x with z|⟨x,ox,vs,z,e,d,n⟩
 . exact .inl z
 exact .inr ⟨x,ox,vs,z,k x ox e,d,n⟩
theorem B8h{α:Type}{a:Addr}{oa:Obj}{ws:Array Value}{h₀:Heap}{Q:α ->Shared ->Prop}(hd:Hd A h₀)(k:∀b o,h₀.get? b=some o ->s.heap.get? b=some o)(na:h₀.get? a=none)
   (ha:s.heap.get? a=some oa) (da:oa.data= .fields ws) (h2:2<ws.size)
   (h:∀h',(∀b o,b≠a ->s.heap.get? b=some o ->h'.get? b=some o) ->(∃o',h'.get? a=some o'/\o'.cls=oa.cls) ->E (.ref a) {s with heap:=h'}):
   wpAny (model prog w) A (raiseNew (.ref a):Sem α) Q E s:=by
 unfold raiseNew
 refine wpAny_bind (wpAny_handled ?_)
 rcases hd with z|⟨x,ox,vs,z,e,d,n⟩
 . rw[z]
   exact wpAny_bind (wpAny_pure (wpAny_throw (h _ (fun b o _ e=>e) ⟨_,ha,rfl⟩)))
 rw[z]
 have nx:x≠a:=by
   intro q
   rw[q,na] at e
   cases e
 dsimp only
 rw[if_pos (show(Value.ref x !=Value.ref a)=true by simpa using nx)]
 refine wpAny_bind (wpAny_holding (wpAny_runValue (codeAny_builtin B3a ?_)))
 unfold Builtin.«proto.unchain»
 dsimp only
 refine wpAny_bind (wpAny_field (k x ox e) d n ?_)
 rw[if_pos (by decide)]
 refine wpAny_pure ?_
 dsimp only
 unfold updateField
 refine wpAny_bind (wpAny_bind (wpAny_load ha ?_))
 rw[da]
 dsimp only
 rw[if_pos h2]
 refine wpAny_update ha (wpAny_throw (h _ (fun b o hb e=>(Heap.get?_update_other _ _ (Ne.symm hb)).trans e) ⟨_,Heap.get?_update_self _ ha (Obj.isFreed_of_fields (Obj.data_mapFields da _)),Obj.cls_mapFields _ _⟩))
theorem C3v{α:Type}{Q:α ->Shared ->Prop}(hd:Hd A s.heap)
   (h:∀h' e,(∀b o,s.heap.get? b=some o ->h'.get? b=some o) ->({s with heap:=h'}:Shared).TypeIs (.ref e) "StopIteration" ->E (.ref e) {s with heap:=h'}):
   wpAny (model prog w) A (newExc (.type "StopIteration") []>>=fun e=>(raiseNew e:Sem α)) Q E s:=by
 refine wpAny_bind ?_
 simp only[newExc,newTuple]
 refine wpAny_bind (wpAny_newObj_type ?_ (by size_fits));refine wpAny_bind (m:=firstArgMember _ _) (wpAny_of_eq (a:=Value.none) (by first|rfl|(simp only[firstArgMember];rfl)) ?_)
 refine wpAny_newObj_type ?_ (by size_fits);dsimp only
 have k1:∀(z:Obj) b o,s.heap.get? b=some o ->(s.heap.push z).get? b=some o:=fun z b o e=>Heap.get?_push_of_some _ e
 have k2:∀(z y:Obj) b o,s.heap.get? b=some o ->((s.heap.push z).push y).get? b=some o:=fun z y b o e=>Heap.get?_push_of_some _ (Heap.get?_push_of_some _ e)
 have nw:∀(z:Obj),s.heap.get? (s.heap.push z).objs.size=none:=fun z=>Heap.get?_none_of_le (by rw[Heap.size_push];exact Nat.le_succ _)
 refine B8h (s:={s with heap:=_}) (h₀:=s.heap) hd (k2 _ _) (nw _) (Heap.get?_push_size _ rfl) rfl (by show 2<6;decide) fun h' k ⟨o',e',c'⟩=>h h' _ (fun b o e=>?_) ⟨o',e',c'⟩
 refine k b o ?_ (k2 _ _ b o e)
 intro q;rw[q,nw] at e;cases e
theorem A3d{it l:Addr}{i:Nat}{items:Array Value}{Q:Option Value ->Shared ->Prop}(hd:∀h':Heap,Heap.ExtBut it s.heap h' ->Hd A h')
   (hit:s.heap.IsListIter it l i) (hl:s.heap.IsList l items) (hx:items[i]?=none)
   (hQ:∀h',Heap.ExtBut it s.heap h' ->Q none {s with heap:=h'}):wpAny (model prog w) A (pyNext (.ref it)) Q E s:=by
 obtain⟨o,ho,hc,dt⟩:=id hit
 obtain⟨ol,hol,_,nl,dl⟩:=hl
 unfold pyNext
 refine wpAny_bind (wpAny_attempt (wpAny_callSpecial?_slot (name:=Str.ofString "__next__") hit.typeIs slot_listiter_next (wpAny_call_entry slot_listiter_next hit.typeIs entry_listiter_next ?_ (args_listiter_next _))))
 show wpAny _ _ (field (.ref it) 0>>=_) _ _ _;refine wpAny_bind (wpAny_field ho dt (x:= .ref l) rfl ?_)
 show wpAny _ _ (if(Value.ref l==Value.none)=true then _ else _) _ _ _;rw[if_neg (show¬((Value.ref l==Value.none)=true) by simp)]
 show wpAny _ _ (field (.ref it) 1>>=_) _ _ _;refine wpAny_bind (wpAny_field ho dt (x:= .int i 0) rfl ?_)
 show wpAny _ _ (seqItems? (.ref l)>>=_) _ _ _;refine wpAny_bind (wpAny_seqItems hol dl ?_)
 simp only[Int.toNat_natCast,hx]
 refine wpAny_bind (wpAny_rule (wpAny_bind (wpAny_setField ho dt (by simp) ?_)))
 have up:=fun f=>(Heap.SameBut.update (a:=it) (h:=s.heap) (f:=f)).extBut
 refine C3v (s:={s with heap:=_}) (A:=A.in1) (hd _ (up _)) fun h' e k ty=>?_
 refine wpAny_bind (wpAny_isInstance (T:="StopIteration") (b:=true) ty isSubtype_stop ?_)
 exact wpAny_pure (hQ h' fun b o hb z=>k b o (up _ b o hb z))
theorem A1w{it t:Addr}{i:Nat}{items:Array Value}{Q:Option Value ->Shared ->Prop}(hd:∀h':Heap,Heap.ExtBut it s.heap h' ->Hd A h')
   (hit:IsTupIter s.heap it t i) (hl:IsTup s.heap t items) (hx:items[i]?=none)
   (hQ:∀h',Heap.ExtBut it s.heap h' ->Q none {s with heap:=h'}):wpAny (model prog w) A (pyNext (.ref it)) Q E s:=by
 obtain⟨o,ho,hc,dt⟩:=id hit
 obtain⟨ol,hol,_,nl,dl⟩:=hl
 unfold pyNext
 refine wpAny_bind (wpAny_attempt (wpAny_callSpecial?_slot (name:=Str.ofString "__next__") hit.typeIs slot_tupleiter_next (wpAny_call_entry slot_tupleiter_next hit.typeIs entry_tupleiter_next ?_ (args_tupleiter_next _))))
 show wpAny _ _ (field (.ref it) 0>>=_) _ _ _;refine wpAny_bind (wpAny_field ho dt (x:= .ref t) rfl ?_)
 show wpAny _ _ (if(Value.ref t==Value.none)=true then _ else _) _ _ _;rw[if_neg (show¬((Value.ref t==Value.none)=true) by simp)]
 show wpAny _ _ (field (.ref it) 1>>=_) _ _ _;refine wpAny_bind (wpAny_field ho dt (x:= .int i 0) rfl ?_)
 show wpAny _ _ (seqItems? (.ref t)>>=_) _ _ _;refine wpAny_bind (wpAny_seqItems hol dl ?_)
 simp only[Int.toNat_natCast,hx]
 refine wpAny_bind (wpAny_rule (wpAny_bind (wpAny_setField ho dt (by simp) ?_)))
 have up:=fun f=>(Heap.SameBut.update (a:=it) (h:=s.heap) (f:=f)).extBut
 refine C3v (s:={s with heap:=_}) (A:=A.in1) (hd _ (up _)) fun h' e k ty=>?_
 refine wpAny_bind (wpAny_isInstance (T:="StopIteration") (b:=true) ty isSubtype_stop ?_)
 exact wpAny_pure (hQ h' fun b o hb z=>k b o (up _ b o hb z))
theorem C5x{t:Addr}{items:Array Value}{targets:List (Bool×(Value ->Sem Unit))}{Q:Unit ->Shared ->Prop}(hd:Hd A s.heap)(ht:IsTup s.heap t items)
   (hn:targets.length=items.size) (hst:targets.findIdx? (·.1)=none)
   (h:∀h',Heap.ExtBut s.heap.objs.size s.heap h' ->wpAny (model prog w) A (assignInOrder (targets.map (·.2)) items.toList) Q E {s with heap:=h'}):
   wpAny (model prog w) A (unpack (.ref t) targets) Q E s:=by
 have ne:t≠s.heap.objs.size:=by obtain⟨o,ho,_⟩:=ht;exact Nat.ne_of_lt (Heap.lt_size ho)
 unfold unpack
 rw[hn,hst]
 refine wpAny_bind (wpAny_holding ?_)
 unfold unpackItems
 refine wpAny_bind ?_
 unfold notIterableAtAll
 refine wpAny_bind (wpAny_specialOf ht.typeIs slot_tuple_iter.lookup (wpAny_pure ?_))
 simp only[Bool.false_eq_true,if_false]
 refine wpAny_bind (wpAny_holding (iter_tuple ht (wpAny_bind (wpAny_holding (draw_tuple ne items.size 0 _ _ ⟨_,Heap.get?_push_size _ rfl,rfl,rfl⟩ (ht.push _) (by omega) fun g hit sb=>?_)))))
 have all:List.take items.size (List.drop 0 items.toList)=items.toList:=List.take_of_length_le (by simp)
 rw[all,if_neg (by simp)]
 have old:∀b o,b≠s.heap.objs.size ->s.heap.get? b=some o ->g.get? b=some o:=fun b o hb e=>sb.extBut b o hb (Heap.get?_push_of_some _ e)
 refine wpAny_bind (wpAny_holding (A1w (fun h' k=>hd.keeps fun b o e=>?_) hit ((ht.push _).extBut sb.extBut ne) (by simp) fun h₂ he₂=>?_))
 . have nb:b≠s.heap.objs.size:=Nat.ne_of_lt (Heap.lt_size e)
   exact k b o nb (old b o nb e)
 simp only[Option.isSome_none,Bool.false_eq_true,if_false]
 exact wpAny_pure (h h₂ fun b o hb e=>he₂ b o hb (old b o hb e))
end
theorem Y9.there{P:Program}{w:World}{H:Hp}{h:Heap}{a:Addr}{o:HO}(x:Y9 P w H h a o):∃u,h.get? a=some u:=by
 cases o with
 |lst xs=>obtain⟨_,_,_,_,e⟩:=x;exact⟨_,e⟩
 |tup xs=>obtain⟨_,_,_,_,e,_⟩:=x;exact⟨_,e⟩
 |dK kvs=>obtain⟨_,_,_,_,o,_,_,e,_⟩:=x;exact⟨_,e⟩
 |dT kvs=>obtain⟨_,_,_,_,o,_,_,e,_⟩:=x;exact⟨_,e⟩
 |set S n=>obtain⟨o,_,_,_,e,_⟩:=x;exact⟨_,e⟩
 |ins C dx fs=>obtain⟨_,_,_,e,_⟩:=x;exact⟨_,e⟩
 |own y=>obtain⟨_,e⟩:=x;exact⟨_,e⟩
 |xd fs=>obtain⟨_,⟨_,_,_,e,_⟩,_⟩:=x;exact⟨_,e⟩
 |rng lo hi=>obtain⟨_,_,_,e⟩:=x;exact⟨_,e⟩
 |frz ob u=>obtain⟨e,_⟩:=x;exact⟨_,e⟩
 |tbl ps=>exact⟨_,show h.get? a=some _ from x⟩
 |met f y=>exact⟨_,show h.get? a=some _ from x⟩
 |ext φ=>obtain⟨_,e,_⟩:=x;exact e
theorem HOk.new{P:Program}{w:World}{H:Hp}{h:Heap}{a:Addr}(x:HOk P w H h)(e:h.get? a=none):H a=none:=by
 cases q:H a with
 |none=>rfl
 | some u=>
   obtain⟨o,z⟩:=(x a u q).there
   rw[e] at z
   cases z
structure Nw(X:Cx)(pins:List (Addr×Obj))(H:Hp)(b:Addr):Prop where
 un:H b=none
 loc:b≠X.env.locals
 fs:b ∉ X.fs
 old:X.s₀.heap.get? b=none
 cell:∀x c,X.env.cells.lookup x=some c ->c≠b
 pin:∀p∈X.pn++pins,p.1≠b
section
variable{X:Cx}{pins:List (Addr×Obj)}{σ:St}{H H':Hp}{s s':Shared}{a b t:Addr}{C:Value}{dd:Option Addr}
theorem Inv.fsFree(I:Inv X pins σ H s):∀b∈X.fs,H b=none:=fun b hb=>I.stkFree b (by
 rcases I.ok.stk with z|⟨z,zf⟩
 . rw[z];exact hb
 . rw[z]
   unfold frs
   rw[List.filterMap_cons,zf]
   exact List.mem_cons_of_mem _ hb)
theorem Inv.nw(I:Inv X pins σ H s)(hex:X.ex=[])(e:s.heap.get? b=none)(hu:H' b=none):Nw X pins H' b:=by
 refine⟨hu,?_,?_,?_,?_,?_⟩
 . rintro rfl
   obtain⟨m,⟨o,_,_,ho,_⟩,_⟩:=I.loc
   rw[e] at ho
   cases ho
 . intro hb
   obtain⟨_,o,ho,_⟩:=I.funs.mem hb
   rw[e] at ho
   cases ho
 . cases q:X.s₀.heap.get? b with
   |none=>rfl
   | some o=>
     obtain⟨o',z⟩:=I.base.there b o q (by rw[hex];simp)
     rw[e] at z
     cases z
 . rintro x c h rfl
   obtain⟨v,o,ho,_⟩:=I.cell x c h
   rw[e] at ho
   cases ho
 rintro p hp rfl
 obtain⟨z,_⟩:=I.pin p hp
 rw[e] at z
 cases z
theorem Inv.stepN{h':Heap}{ch:List Addr}(I:Inv X pins σ H s)(hch:∀b∈ch,Nw X pins H b)
   (keep:∀b o,b≠X.env.locals ->b ∉ X.fs ->b ∉ ch ->s.heap.get? b=some o ->h'.get? b=some o)
   (slot:∀b o,b ∉ ch ->s.heap.get? b=some o ->∃sl,h'.get? b=some {o with slots:=sl}):Inv X pins σ H {s with heap:=h'}:=by
 have neL:∀b o,X.s₀.heap.get? b=some o ->b≠X.env.locals:=fun b o e=>Nat.ne_of_lt (Nat.lt_of_lt_of_le (Heap.lt_size e) I.ok.above)
 have neC:∀b o,X.s₀.heap.get? b=some o ->b ∉ ch:=fun b o e hb=>by
   have z:=(hch b hb).old
   rw[e] at z
   cases z
 have cellK:∀x c,X.env.cells.lookup x=some c ->∀v,s.heap.IsCell c v ->h'.IsCell c v:=fun x c e v ⟨o,ho,hd⟩=>by
   have nch:c ∉ ch:=fun z=>(hch c z).cell x c e rfl
   obtain⟨sl,q⟩:=slot c o nch ho
   exact⟨_,q,hd⟩
 refine⟨I.ok,I.os,I.bare,⟨fun b o e n hb hx=>?_,fun b o e n hb hx=>?_,I.base.free,fun b o e hx=>?_,I.base.tups,I.base.frzs,I.base.tbls⟩,?_,fun x c e=>?_,I.free,I.freeC,fun p hp=>?_,?_,I.len⟩
 . exact keep b o (neL b o e) hb (neC b o e) (I.base.keep b o e n hb hx)
 . obtain⟨sl,e1⟩:=I.base.slot b o e n hb hx
   obtain⟨sl',e2⟩:=slot b _ (neC b o e) e1
   exact⟨sl',e2⟩
 . obtain⟨o',e1⟩:=I.base.there b o e hx
   obtain⟨sl',e2⟩:=slot b _ (neC b o e) e1
   exact⟨_,e2⟩
 . obtain⟨m,hn,hl⟩:=I.loc
   refine⟨m,?_,fun i x v e1 e2 e3=>?_⟩
   . obtain⟨o,es,ep,ho,r⟩:=hn
     obtain⟨sl,q⟩:=slot _ o (fun z=>(hch _ z).loc rfl) ho
     exact⟨_,es,ep,q,r⟩
   . obtain⟨u,r,l⟩:=hl i x v e1 e2 e3
     refine⟨u,r,?_⟩
     rcases l with l|⟨k,c,e,z⟩
     . exact .inl l
     . exact .inr ⟨k,c,e,cellK x c e _ z⟩
 . obtain⟨v,z⟩:=I.cell x c e
   exact⟨v,cellK x c e v z⟩
 . obtain⟨e,n,ne,nf,d⟩:=I.pin p hp
   exact⟨keep p.1 p.2 ne nf (fun z=>(hch p.1 z).pin p hp rfl) e,n,ne,nf,d⟩
 intro c o e
 have tr:∀b,H b≠none ->∀u,s.heap.get? b=some u ->h'.get? b=some u:=fun b hb u q=>
   keep b u (fun z=>hb (by rw[z];exact I.free)) (fun z=>hb (I.fsFree b z)) (fun z=>hb (hch b z).un) q
 refine(I.hok c o e).stay (fun b u hb q=>tr b ?_ u q) (fun _ q=>q) fun _ _ q=>q
 rcases hb with rfl|hb
 . rw[e];simp
 rw[hb];simp
noncomputable def Flt (X:Cx) (pins:List (Addr×Obj)) (H:Hp) (s:Shared) (a:Addr) (C:Value) (t:Addr) (dd:Option Addr):Prop:=
 Nw X pins H a/\∃tb,s.heap.get? a=some (Z2 C t dd tb)/\G3b s.heap a tb/\∀T,tb= .ref T ->Nw X pins H T
noncomputable def B2s (X:Cx) (pins:List (Addr×Obj)) (H:Hp) (s:Shared) (a:Addr) (C:Value) (t:Addr) (dd:Option Addr) (fl:Value):Prop:=
 Nw X pins H a/\∃T oT ts,s.heap.get? a=some (Z2 C t dd (.ref T))/\T≠a/\Nw X pins H T/\s.heap.get? T=some oT/\oT.data= .fields ts/\ts[3]?=some fl
structure D9w(X:Cx):Prop where
 ex:X.ex=[]
 st:X.stack=X.env::X.outer
 fr:X.env.frame=some X.env.locals
theorem B2s.flt(F:B2s X pins H s a C t dd .none):Flt X pins H s a C t dd:=by
 obtain⟨n,T,oT,ts,e,ne,nT,eT,dT,h3⟩:=F
 exact⟨n,_,e,.inr ⟨T,oT,ts,rfl,ne,eT,dT,h3⟩,fun T' z=>by cases z;exact nT⟩
noncomputable def C1j:Value ->List Addr
 | .ref z=>[z]
 |_=>[]
theorem B2c{M:Model}{E:Value ->Shared ->Prop}{Q:Unit ->Shared ->Prop}(B:D9w X)(I:Inv X pins σ H s)(F:Flt X pins H s a C t dd)
   (k:∀s',Inv X pins σ H s' ->B2s X pins H s' a C t dd (rawInt X.env.locals) ->Q () s'):wpAny M X.A (noteFrame (.ref a) X.env) Q E s:=by
 obtain⟨na,tb,e,ht,nT⟩:=F
 have hfr:=I.ok.frames
 rw[B.st] at hfr
 have hl:=I.stack
 rw[B.st] at hl
 refine G1h hfr hl B.fr e ht fun h' T k1 k2 k3 k4 k5 k6=>?_
 have ch:∀b,b ∉ a::C1j tb ->b≠a/\tb≠ .ref b:=by
   intro b hb
   refine⟨fun z=>hb (by rw[z];exact List.mem_cons_self),fun z=>hb ?_⟩
   rw[z]
   exact List.mem_cons_of_mem _ (List.mem_singleton.mpr rfl)
 have I':Inv X pins σ H {s with heap:=h'}:=by
   refine I.stepN (ch:=a::C1j tb) (fun b hb=>?_) (fun b o h1 h2 h3 q=>k1 b o ?_ (ch b h3).1 (ch b h3).2 q) (fun b o h3 q=>k2 b o (ch b h3).1 (ch b h3).2 q)
   . rcases List.mem_cons.mp hb with rfl|hb
     . exact na
     . cases tb<;>simp[C1j] at hb
       subst hb
       exact nT _ rfl
   . intro z
     rw[List.filterMap_cons,B.fr] at z
     rcases List.mem_cons.mp z with z|z
     . exact h1 z
     . exact h2 z
 obtain⟨oT,ts,q1,q2,q3⟩:=k6
 exact k _ I' ⟨na,T,oT,ts,k5,k4,I.nw B.ex k3 (I.hok.new k3),q1,q2,q3⟩
theorem A4k{M:Model}{A:Around}{E:Value ->Shared ->Prop}{Q:Unit ->Shared ->Prop}{fl:Value}(I:Inv X pins σ H s)(F:B2s X pins H s a C t dd fl)
   (k:∀s',Inv X pins σ H s' ->B2s X pins H s' a C t dd .none ->Q () s'):wpAny M A (setFlight (.ref a) none) Q E s:=by
 obtain⟨na,T,oT,ts,e,ne,nT,eT,dT,h3⟩:=F
 refine G3m e ne eT dT h3 fun h' k1 k2=>?_
 have I':Inv X pins σ H {s with heap:=h'}:=I.stepN (ch:=[T]) (fun b hb=>by
   have:b=T:=by simpa using hb
   subst this
   exact nT) (fun b o _ _ hb q=>k1 b o (fun z=>hb (by simp[z])) q) (fun b o hb q=>⟨_,k1 b o (fun z=>hb (by simp[z])) q⟩)
 rcases k2 with z|⟨T',oT',ts',z,_,q1,q2,q3⟩
 . cases z
 cases z
 exact k _ I' ⟨na,T,oT',ts',k1 a _ (Ne.symm ne) e,ne,nT,q1,q2,q3⟩
theorem B3y{M:Model}{E:Value ->Shared ->Prop}{Q:Unit ->Shared ->Prop}(B:D9w X)(I:Inv X pins σ H s)(F:Flt X pins H s a C t dd)
   (k:∀s',Inv X pins σ H s' ->B2s X pins H s' a C t dd .none ->Q () s'):wpAny M X.A (leaving X.env (.ref a)) Q E s:=by
 unfold leaving
 exact wpAny_bind (B2c B I F fun s1 I1 F1=>A4k I1 F1 k)
end
noncomputable abbrev EK:=Value ->Option Addr ->St ->Hp ->Prop
noncomputable def V1 (X:Cx) (EH:EK):Prop:=∀(pins:List (Addr×Obj)) (σ:St) (H:Hp) (s:Shared) (a t:Addr) (C:Value) (dd:Option Addr),Inv X pins σ H s ->Flt X pins H s a C t dd ->EH C dd σ H ->X.xe (.ref a) s
noncomputable def CX1 (P:Program) (w:World):CXT:=fun outer H s E e s'=>∃(a t:Addr) (C:Value) (dd:Option Addr) (H':Hp),e= .ref a/\s'.os=s.os/\AllBare s'.gens/\Un (frs outer) [] H H' s.heap s'.heap/\HOk P w H' s'.heap/\E C dd H'/\
 (s.heap.get? a=none/\H' a=none)/\∃T oT ts,s'.heap.get? a=some (Z2 C t dd (.ref T))/\T≠a/\(s.heap.get? T=none/\H' T=none)/\s'.heap.get? T=some oT/\oT.data= .fields ts/\ts[3]?=some .none
theorem C0y{P:Program}{w:World}{K:PySem.W.Frag}{mg:Str ->Option Value}{base:Heap}{N:List Str}{qual:Str}{scope:Scope}{f:Addr}{cd:Value}{A:Around}{outer:List Env}{s:Shared}{H:Hp}{E:XK}:
   V1 (A2d (CX1 P w) P w K mg base N qual scope f cd A outer s H E) (fun C dd _ H'=>E C dd H'):=by
 intro pins σ H' s' a t C dd I F h
 refine B3y (X:=A2d (CX1 P w) P w K mg base N qual scope f cd A outer s H E) ⟨rfl,rfl,rfl⟩ I F fun s2 I2 F2=>?_
 obtain⟨na,T,oT,ts,e,ne,nT,eT,dT,h3⟩:=F2
 exact⟨a,t,C,dd,H',rfl,I2.os,I2.bare,I2.base,I2.hok,h,⟨na.old,na.un⟩,T,oT,ts,e,ne,⟨nT.old,nT.un⟩,eT,dT,h3⟩
section
variable{X:Cx}{k:Nat}{f C:Addr}{fd:FuncData}{ps:List Str}{sp:Sp}{dvs:List V}{ds:List Value}{EH:EK}{x m:Str}{p pos apos:Pos}{e o:Expr}{es:List Expr}{ta:TE}{t:TA}
theorem G2u{pins:List (Addr×Obj)}{σ:St}{H:Hp}{s:Shared}{e:Value}{s':Shared}(hx:V1 X EH)(hex:X.ex=[])(I:Inv X pins σ H s)
   (h:CX1 X.prog X.w X.stack H s (fun C d H'=>EH C d σ H') e s'):X.xe e s':=by
 obtain⟨a,t,C,dd,H',rfl,os,bare,un,hok,hE,⟨a1,a2⟩,T,oT,ts,z,ne,⟨t1,t2⟩,eT,dT,h3⟩:=h
 have I':Inv X pins σ H' s':=I.call' (ch:=[]) os un hok bare (fun b q=>absurd q (by simp))
 exact hx pins σ H' s' a t C dd I' (B2s.flt ⟨I.nw hex a1 a2,T,oT,ts,z,ne,I.nw hex t1 t2,eT,dT,h3⟩) hE
theorem A9y{pins:List (Addr×Obj)}{σ:St}{H:Hp}{s:Shared}{Q:VK}{us:List Value}{vs:List V}(F:G0 X.prog X.w X.K X.mg X.base (CX1 X.prog X.w) k f fd ps sp)(hr:A0p k X.A)(hb:V9 X.K fd ps ds)(hd:G7 dvs ds)
   (hx:V1 X EH) (hex:X.ex=[]) (I:Inv X pins σ H s) (r:G7 vs us) (h:sp (vs++dvs) H Q (fun C d H'=>EH C d σ H')):wpAny (model X.prog X.w) X.A (call (.ref f) us) (EP X pins σ Q) X.xe s:=by
 have r2:G7 (vs++dvs) (us++ds):=r.append hd
 have hl:(us++ds).length=ps.length:=by rw[<-r2.length];exact F.len _ _ _ _ h
 refine wpAny_call (codeAny_mono (F.run X.A X.stack s H ⟨us,[]⟩ (us++ds) (vs++dvs) Q _ hr I.env0 (hb s us I.kIn hl) r2 h) fun r s' hq=>?_)
 cases r with
 |error e=>exact G2u hx hex I hq
 | ok fl=>
   cases fl with
   |ret u=>exact I.after hq
   |next=>exact False.elim hq
   |brk=>exact False.elim hq
   |cont=>exact False.elim hq
noncomputable def A2u (sp:Sp) (dvs:List V) (EH:EK) (t:TA):TE:=fun σ H Q=>t σ H fun vs H1=>sp (vs++dvs) H1 Q (fun C d H'=>EH C d σ H')
theorem D0b(F:G0 X.prog X.w X.K X.mg X.base (CX1 X.prog X.w) k f fd ps sp)(hr:A0p k X.A)(hg:Gl X x)(hm:X.mg x=some (.ref f))(hk:PySem.W.keepIn X.K (.ref f)=true)(hb:V9 X.K fd ps ds)(hd:G7 dvs ds)
   (hx:V1 X EH) (ha:PA X (e::es) t) (hex:X.ex=[]:=by rfl) (hdb:(x==("__debug__":Str))=false:=by decide) (he:starEach (e::es) X.env=(false,eval e X.env)::starEach es X.env:=by rfl)
   (hpl:(backTo pos (starEach es X.env)).any (·.1)=false:=by rfl):PE X (.Call (.Name x p) (e::es) [] pos) (A2u sp dvs EH t):=by
 intro pins s σ H Q I h
 refine wpAny_Call_Name_kw (Z8 I hg hm ?_ hdb)
 refine PySem.W.callWith_K (h₀:=X.base) I.ok.mod.kin hk (thn (ha pos pins s σ H _ I h) fun us s1 ⟨vs,H1,I1,r,q⟩=>⟨I1.kIn,?_⟩) he hpl
 exact A9y F hr hb hd hx hex I1 r q
theorem C6b(F:G0 X.prog X.w X.K X.mg X.base (CX1 X.prog X.w) k f fd ps sp)(hr:A0p k X.A)(hg:Gl X x)(hm:X.mg x=some (.ref f))(hk:PySem.W.keepIn X.K (.ref f)=true)(hb:V9 X.K fd ps ds)(hd:G7 dvs ds)
   (hx:V1 X EH) (hex:X.ex=[]:=by rfl) (hdb:(x==("__debug__":Str))=false:=by decide):PE X (.Call (.Name x p) [] [] pos) (A2u sp dvs EH B6m):=by
 intro pins s σ H Q I h
 refine wpAny_Call_Name_kw (Z8 I hg hm ?_ hdb)
 exact PySem.W.callWith_K0 I.kIn hk (A9y (us:=[]) F hr hb hd hx hex I .nil h)
end
section
variable{P:Program}{w:World}{K:PySem.W.Frag}{mg:Str ->Option Value}{base:Heap}
theorem Fun.okE{x qual:Str}{st:Stmt}{f:Addr}{fd:FuncData}{N ps:List Str}{k:Nat}{sp:Sp}(F:Fun K x qual st f fd)(S:B8 N ps (A5 st))(len:∀vs H Q E,sp vs H Q E ->vs.length=ps.length)
   (hbody:∀(X:Cx) (cdv:Value) (A:Around) (outer:List Env) (s:Shared) (H:Hp) (vs:List V) (Q:VK) (E:XK),X=A2d (CX1 P w) P w K mg base N qual (A5 st) f cdv A outer s H E ->A0p k X.A ->V1 X (fun C dd _ H'=>E C dd H') ->sp vs H Q E ->
     ∃t,PSs (A2d (CX1 P w) P w K mg base N qual (A5 st) f cdv A outer s H E) (J0 st) t/\t {nx:=fun _ H'=>Q .non H',rt:=Q} (A1r N vs) H):G0 P w K mg base (CX1 P w) (k+1) f fd ps sp:=by
 obtain⟨oc,od,kV,doc,pm,an,cdv,ct,osl,rfl,lk,hc⟩:=F.ex
 exact G0h lk hc S len fun A outer s H vs Q E hr h=>hbody _ cdv A outer s H vs Q E rfl hr C0y h
theorem G0.up{k:Nat}{f:Addr}{fd:FuncData}{ps:List Str}{sp:Sp}(F:G0 P w K mg base CX0 k f fd ps sp):G0 P w K mg base (CX1 P w) k f fd ps sp:=by
 refine⟨F.len,fun A outer s H args us vs Q E hr e0 hb r h=>codeAny_mono (F.run A outer s H args us vs Q E hr e0 hb r h) fun r s' q=>?_⟩
 cases r with
 |error e=>exact False.elim q
 |ok fl=>cases fl<;>exact q
end
end L2
namespace L2
open PySem PySem.Spec PyProof.Rows PySem.W
theorem D7k{K:Frag}{h:Heap}{C:Addr}{bmB:List Value}{newId:String}(X:K.In h)(q:excIn K C bmB newId=true):
   ∃ (bm:List Value) (N:Addr) (nm qn:Str) (bs:List Value) (hd:Bool) (sn:List Str) (sub:List Value) (ab:Bool) (col:Option Bool) (dd:Option Addr) (k0 k1 k2 k3 k5:Option Value) (mN:Str ->Option Value),
     h.get? C=some (excClassObj nm qn C N bs bm hd sn sub ab col dd k0 k1 k2 k3 k5 newId)/\h.Ns N mN/\mN "__init__"=none/\OwnTail h bmB bm:=by
 unfold excIn at q
 split at q
 . rename_i dd cd sl ho
   split at q
   . rename_i C' bm k0 k1 k2 k3 n k5 hm hs
     simp only[Bool.and_eq_true,beq_iff_eq,Bool.not_eq_true'] at q
     obtain⟨⟨⟨⟨⟨r1,r2⟩,r3⟩,r4⟩,r5⟩,r6⟩:=q
     subst r1 r2
     obtain⟨a1,a2,a3,a4,a5,a6,a7,a8,a9,a10,a11⟩:=cd
     dsimp only at hm r3 r5 r6
     subst hm r3
     have hsl:sl= #[k0,k1,k2,k3,some (.builtin n),k5]:=by
       obtain⟨l⟩:=sl
       simp only at hs
       rw[hs]
     subst hsl
     exact⟨bm,a4,a1,a5,a2,a6,a7,a8,a9,a10,dd,k0,k1,k2,k3,k5,_,X _ _ ho,.of_isNs (isNs_of_in X r5),nsMap_none_of_in X r5 r6,tail_of_in X r4⟩
   . cases q
 cases q
section
variable{X:Cx}{x:Str}{p cpos pos:Pos}{e:Expr}{es:List Expr}{t:TA}{C:Addr}{bmB:List Value}{B newId initId:String}{EH:EK}
noncomputable def D0v (C:Addr) (EH:EK) (t:TA):TS:=fun _ σ H=>t σ H fun vs H1=>vs.length<=sizeLine/\EH (.ref C) none σ H1
theorem C9f(hg:Gl X x)(hm:X.mg x=some (.ref C))(q:excIn X.K C bmB newId=true)(FB:ExcBaseFacts B newId initId bmB)(hh:X.A.handled=none)(hx:V1 X EH)(ha:PA X (e::es) t)(hex:X.ex=[]:=by rfl)
   (hdb:(x==("__debug__":Str))=false:=by decide) (he:starEach (e::es) X.env=(false,eval e X.env)::starEach es X.env:=by rfl) (hpl:(backTo cpos (starEach es X.env)).any (·.1)=false:=by rfl):
   PS X (.Raise (some (.Call (.Name x p) (e::es) [] cpos)) none pos) (D0v C EH t):=by
 intro pins s σ H D I h
 obtain⟨bm,N,nm,qn,bs,hd,sn,sub,ab,col,dd,k0,k1,k2,k3,k5,mN,hC,hN,hni,T⟩:=D7k I.ok.mod.kin q
 refine wpAny_Raise_call_subT (C:=C) (nm:=nm) (q:=qn) (N:=N) (bs:=bs) (bm:=bm) (hdct:=hd) (sn:=sn) (sub:=sub) (ab:=ab) (col:=col) (dd:=dd) (k0:=k0) (k1:=k1) (k2:=k2) (k3:=k3) (k5:=k5) FB (mN:=mN) (T.hasType FB.hasBase) hh
   (by rw[he];show(false||(backTo cpos (starEach es X.env)).any (·.1))=false;rw[hpl];rfl) hni (Z8 I hg hm ⟨rfl,?_⟩ hdb)
 have ha':=ha cpos pins s σ H _ I h
 rw[he] at ha' ⊢
 refine Calls.evalArgs_plain (wpAny_mono ha' (fun us s2 ⟨vs,H1,I1,r,z,q⟩=>⟨rfl,by rw[<-r.length];exact z,I1.bk _ _ hC,hN.keeps I1.bk,T.keeps I1.bk,fun h' a m=>?_⟩) fun _ _ y=>y)
 have I2:Inv X pins σ H1 {s2 with heap:=h'}:=I1.kept (t':=s2.toks) m.keeps
 obtain⟨t',e1,tn,e2⟩:=m.there
 exact hx pins σ H1 _ a t' (.ref C) none I2 ⟨I1.nw hex m.new (I1.hok.new m.new),.none,e1,.inl rfl,fun T z=>nomatch z⟩ q
end
section
variable{X:Cx}{pins:List (Addr×Obj)}{σ:St}{H:Hp}{s:Shared}
theorem Inv.track{a:Addr}{o:Obj}(I:Inv X pins σ H s)(n:Nw X pins H a)(e:s.heap.get? a=some o):Inv X pins σ (upd H a (.frz o (.own a))) s:=by
 have ne:∀b u,H b=some u ->b≠a:=fun b u z q=>by rw[q,n.un] at z;cases z
 have up:∀b,b≠a ->upd H a (.frz o (.own a)) b=H b:=fun b hb=>C9 hb
 refine⟨I.ok,I.os,I.bare,⟨I.base.keep,I.base.slot,fun b u z m hx=>?_,I.base.there,fun b xs z=>?_,fun b u v z=>?_,fun b ps z=>?_⟩,I.loc,I.cell,?_,fun x c z=>?_,fun p hp=>?_,fun b u z=>?_,I.len⟩
 . rw[up b fun q=>by rw[q,n.old] at z;cases z]
   exact I.base.free b u z m hx
 . have:=I.base.tups b xs z
   rw[up b (ne b _ this)];exact this
 . have:=I.base.frzs b u v z
   rw[up b (ne b _ this)];exact this
 . obtain⟨more,this⟩:=I.base.tbls b ps z
   exact⟨more,by rw[up b (ne b _ this)];exact this⟩
 . rw[up _ (Ne.symm n.loc)];exact I.free
 . rw[up _ (n.cell x c z)];exact I.freeC x c z
 . obtain⟨q1,q2,q3⟩:=I.pin p hp
   exact⟨q1,by rw[up _ (n.pin p hp)];exact q2,q3⟩
 by_cases hb:b=a
 . subst hb
   rw[A6] at z
   cases z
   exact⟨e,_,e⟩
 rw[up b hb] at z
 exact(I.hok b u z).stay (fun _ _ _ q=>q) (fun c q=>by rw[up c (ne c _ q)];exact q) (fun c xs q=>by rw[up c (ne c _ q)];exact q)
theorem B3h{M:Model}{A:Around}{E:Value ->Shared ->Prop}{i:Nat}{x:Str}{v:V}{Q:Unit ->Shared ->Prop}(I:Inv X pins σ H s)(hN:X.N.Nodup)(hi:X.N[i]?=some x)(hk:X.env.scope.names.lookup x=some .local)(hv:σ[i]?=some (some v))
   (k:∀s',Inv X pins (σ.set i none) H s' ->Q () s'):wpAny M A (unbindName X.env x) Q E s:=by
 obtain⟨m,hn,hl⟩:=id I.loc
 have hcls:(X.env.scope.kind== .class||(X.env.scope.kind== .module&&X.env.locals !=X.env.globals))=false:=by rw[I.ok.kind];rfl
 obtain⟨u,_,lk⟩:=hl i x v hi hv (.inl hk)
 have hm:m x=some u:=by
   rcases lk with⟨_,z⟩|⟨z,_⟩
   . exact z
   . have z:X.env.scope.names.lookup x=some .cell\/X.env.scope.names.lookup x=some .free:=z
     rw[hk] at z
     rcases z with z|z<;>cases z
 refine wpAny_unbindName_local hk hn hm hcls fun h' w' hn' hs=>k _ ?_
 obtain⟨oL,_,_,hoL,_⟩:=id hn
 have nl:∀b o,X.s₀.heap.get? b=some o ->b≠X.env.locals:=fun b o e=>Nat.ne_of_lt (Nat.lt_of_lt_of_le (Heap.lt_size e) I.ok.above)
 refine⟨I.ok,I.os,I.bare,⟨fun b o e n hb hx=>?_,fun b o e n hb hx=>?_,I.base.free,fun b o e hx=>?_,I.base.tups,I.base.frzs,I.base.tbls⟩,⟨_,hn',fun j y v' e1 e2 e3=>?_⟩,fun y c e=>?_,I.free,I.freeC,fun p hp=>?_,fun b u z=>?_,by simpa using I.len⟩
 . exact(hs.2 b (nl b o e)).trans (I.base.keep b o e n hb hx)
 . obtain⟨sl,e1⟩:=I.base.slot b o e n hb hx
   exact⟨sl,(hs.2 b (nl b o e)).trans e1⟩
 . obtain⟨o',e1⟩:=I.base.there b o e hx
   exact⟨o',(hs.2 b (nl b o e)).trans e1⟩
 . by_cases hj:j=i
   . subst hj
     have hlen:j<σ.length:=(List.getElem?_eq_some_iff.mp hv).1
     rw[List.getElem?_set_self hlen] at e2
     cases e2
   . rw[List.getElem?_set_ne (Ne.symm hj)] at e2
     obtain⟨u',r',q⟩:=hl j y v' e1 e2 e3
     refine⟨u',r',?_⟩
     rcases q with⟨k1,e⟩|⟨k1,c,e,z⟩
     . have:y≠x:=fun e=>hj (B1a hN e1 (e▸hi))
       exact .inl ⟨k1,by simp[this,e]⟩
     . exact .inr ⟨k1,c,e,z.sameBut hs (I.cne y c e)⟩
 . obtain⟨w2,z⟩:=I.cell y c e
   exact⟨w2,z.sameBut hs (I.cne y c e)⟩
 . obtain⟨e,n,ne,nf,d⟩:=I.pin p hp
   exact⟨(hs.2 p.1 ne).trans e,n,ne,nf,d⟩
 refine(I.hok b u z).stay (fun c w2 hc q=>(hs.2 c ?_).trans q) (fun _ q=>q) fun _ _ q=>q
 rintro rfl
 rcases hc with rfl|hc
 . rw[I.free] at z;cases z
 rw[I.free] at hc;cases hc
end
noncomputable abbrev Cx.hold (X:Cx) (pins:List (Addr×Obj)) (E:Value ->Shared ->Prop):Cx:={X with pn:=X.pn++pins,xe:=E}
noncomputable abbrev Cx.hnd (X:Cx) (pins:List (Addr×Obj)) (a:Addr):Cx:={X with A:=X.A.mark (some (.ref a)),calm:=false,pn:=X.pn++pins,xe:=fun _ _=>False}
section
variable{X:Cx}{pins pins':List (Addr×Obj)}{σ:St}{H:Hp}{s:Shared}{a:Addr}{E:Value ->Shared ->Prop}
theorem Inv.hold(I:Inv X pins σ H s):Inv (X.hold pins E) [] σ H s:=
 ⟨⟨I.ok.mod,I.ok.kind,I.ok.glob,I.ok.blt,I.ok.above,I.ok.inj,I.ok.has,I.ok.cab,I.ok.hd,I.ok.frames,I.ok.stk,I.ok.exf,I.ok.bs,I.ok.bsz,I.ok.noex,I.ok.exfs,I.ok.funs,I.ok.frf⟩,
   I.os,I.bare,I.base,I.loc,I.cell,I.free,I.freeC,fun p hp=>I.pin p (by simpa using hp),I.hok,I.len⟩
theorem Inv.unhold(I:Inv (X.hold pins E) pins' σ H s):Inv X pins σ H s:=
 ⟨⟨I.ok.mod,I.ok.kind,I.ok.glob,I.ok.blt,I.ok.above,I.ok.inj,I.ok.has,I.ok.cab,I.ok.hd,I.ok.frames,I.ok.stk,I.ok.exf,I.ok.bs,I.ok.bsz,I.ok.noex,I.ok.exfs,I.ok.funs,I.ok.frf⟩,
   I.os,I.bare,I.base,I.loc,I.cell,I.free,I.freeC,fun p hp=>I.pin p (List.mem_append_left _ hp),I.hok,I.len⟩
theorem Inv.hnd(I:Inv X pins σ H s):Inv (X.hnd pins a) [] σ H s:=
 ⟨⟨I.ok.mod,I.ok.kind,I.ok.glob,I.ok.blt,I.ok.above,I.ok.inj,I.ok.has,I.ok.cab,(fun z=>nomatch z),I.ok.frames,I.ok.stk,I.ok.exf,I.ok.bs,I.ok.bsz,I.ok.noex,I.ok.exfs,I.ok.funs,I.ok.frf⟩,
   I.os,I.bare,I.base,I.loc,I.cell,I.free,I.freeC,fun p hp=>I.pin p (by simpa using hp),I.hok,I.len⟩
theorem Inv.unhnd(ok:X.Ok)(I:Inv (X.hnd pins a) pins' σ H s):Inv X pins σ H s:=
 ⟨ok,I.os,I.bare,I.base,I.loc,I.cell,I.free,I.freeC,fun p hp=>I.pin p (List.mem_append_left _ hp),I.hok,I.len⟩
theorem Nw.unhold{b:Addr}(n:Nw (X.hold pins E) pins' H b):Nw X pins H b:=⟨n.un,n.loc,n.fs,n.old,n.cell,fun p hp=>n.pin p (List.mem_append_left _ hp)⟩
theorem Flt.unhold{t:Addr}{C:Value}{dd:Option Addr}(F:Flt (X.hold pins E) pins' H s a C t dd):Flt X pins H s a C t dd:=by
 obtain⟨n,tb,e,ok,m⟩:=F
 exact⟨n.unhold,tb,e,ok,fun T z=>(m T z).unhold⟩
theorem SP.unhold{D:B3c}{f:Flow}{s':Shared}(h:SP (X.hold pins E) pins' D f s'):SP X pins D f s':=by
 cases f with
 |next=>obtain⟨σ',H',I,q⟩:=h;exact⟨σ',H',I.unhold,q⟩
 |brk=>obtain⟨σ',H',I,q⟩:=h;exact⟨σ',H',I.unhold,q⟩
 |cont=>obtain⟨σ',H',I,q⟩:=h;exact⟨σ',H',I.unhold,q⟩
 |ret u=>obtain⟨v,σ',H',I,r,q⟩:=h;exact⟨v,σ',H',I.unhold,r,q⟩
end
structure A8n(K:Frag)(R:Addr):Prop where
 ty:typeIn K (.ref R)=some (.type "type")
 cl:(clsIn K R).isSome=true
 ex:subIn K (.ref R) (.type "BaseException")=some true
theorem A3t{K:Frag}{M:Model}{h:Heap}{R:Addr}(X:K.In h)(c:(clsIn K R).isSome=true):Looks M h (isType (.ref R)) true:=by
 unfold clsIn at c
 split at c
 . rename_i ho
   intro A' Q' E' s' k q
   unfold isType loadHead
   exact wpAny_bind (wpAny_loadPart (k _ _ (X _ _ ho)) (wpAny_pure q))
 cases c
theorem B4d{K:Frag}{M:Model}{A:Around}{E:Value ->Shared ->Prop}{s:Shared}{a R:Addr}{C:Value}{oa:Obj}{b:Bool}{Q:Bool ->Shared ->Prop}(X:K.In s.heap)(ha:s.heap.get? a=some oa)(hc:oa.cls=C)(c:A8n K R)
   (m:subIn K C (.ref R)=some b) (h:Q b s):wpAny M A (excMatches (.ref a) (.ref R)) Q E s:=by
 obtain⟨hp,g,d,tk,os⟩:=s
 have L1:Looks M hp (typeOf (.ref R)) (.type "type"):=looks_typeIn X c.ty
 have L2:Looks M hp (isSubtype (.ref R) (.type "BaseException")) true:=looks_subIn X c.ex
 have L3:Looks M hp (isSubtype C (.ref R)) b:=looks_subIn X m
 have L4:Looks M hp (typeOf (.ref a)) C:=hc▸(Looks.ld ha).andThen .now
 have L5:Looks M hp (isType (.ref R)) true:=A3t X c.cl
 unfold excMatches
 unfold isInstance
 refine wpAny_bind (wpAny_bind (L1.at ?_))
 rw[tc_notTuple]
 refine wpAny_pure ?_
 simp only[Bool.false_eq_true,if_false]
 refine wpAny_bind (wpAny_pure ?_)
 simp only[List.forIn_cons,List.forIn_nil]
 unfold isExcClass
 refine wpAny_bind (wpAny_bind (wpAny_bind (wpAny_bind (L5.at ?_))))
 simp only[if_true]
 refine L2.at ?_
 simp only[Bool.not_true,Bool.false_eq_true,if_false]
 refine wpAny_pure (wpAny_pure ?_)
 refine wpAny_bind (L4.at ?_)
 refine wpAny_bind (wpAny_bind (wpAny_bind (L3.at ?_)))
 cases b with
 |true=>simp only[if_true];exact wpAny_pure (wpAny_pure (wpAny_pure h))
 |false=>simp only[Bool.false_eq_true,if_false];exact wpAny_pure (wpAny_pure (wpAny_pure h))
noncomputable def J0y (K:Frag) (R:Addr) (i:Nat) (tb:EK ->TS) (ts:Addr ->TS):TS:=fun D σ H=>
 tb (fun C dd σ' H'=>subIn K C (.ref R)=some true/\∀(a t T:Addr),H' a=none ->
   ts a {nx:=fun σ2 H2=>D.nx (σ2.set i none) H2,rt:=D.rt,bk:=fun σ2 H2=>D.bk (σ2.set i none) H2,ct:=fun σ2 H2=>D.ct (σ2.set i none) H2}
     (σ'.set i (some (.ref a))) (upd H' a (.frz (Z2 C t dd (.ref T)) (.own a)))) D σ H
section
variable{X:Cx}{x n:Str}{np hpos pos:Pos}{R:Addr}{i:Nat}{body suite:List Stmt}{b₀:Stmt}{tb:EK ->TS}{ts:Addr ->TS}
theorem C7g(B:D9w X)(hg:Gl X x)(hm:X.mg x=some (.ref R))(c:A8n X.K R)(hN:X.N.Nodup)(hi:X.N[i]?=some n)(hk:X.env.scope.names.lookup n=some .local)
   (hb:∀pins Ew EHb,V1 (X.hold pins Ew) EHb ->PSs (X.hold pins Ew) body (tb EHb)) (hs:∀pins a,PSs (X.hnd pins a) (b₀::suite) (ts a))
   (hdb:(x==("__debug__":Str))=false:=by decide) (hf:X.fn n=true\/X.env.scope.names.lookup n=some .local:=by first|exact .inl rfl|exact .inr rfl|assumption):
   PS X (.Try body [.ExceptHandler (some (.Name x np)) (some n) (b₀::suite) hpos] [] [] pos) (J0y X.K R i tb ts):=by
 intro pins s σ H D I h
 refine wpAny_Try_except ?_
 refine wpAny_mono (hb pins _ _ ?cat [] s σ H D I.hold h) (fun f s1 hf1=>?_) (fun e s1 he=>he)
 case cat=>
   intro pins' σ' H' s' a t C dd I' F' hE
   obtain⟨hsub,hE⟩:=hE
   show wpAny (model X.prog X.w) X.A (noteFrame (.ref a) X.env) _ X.xe s'
   have J:=I'.unhold
   have F:=F'.unhold
   refine B2c B J F fun s2 J2 F2=>A4k J2 F2 fun s3 J3 F3=>?_
   obtain⟨na,T,oT,ts',e3,ne3,nT3,eT3,dT3,h33⟩:=id F3
   refine wpAny_handleBy_cons (codeAny_handlers_test ?_) (by intro z;cases z)
   have K3:Inv (X.hnd pins a) [] σ' H' s3:=J3.hnd
   refine Z8 K3 hg hm ?_ hdb
   refine B4d J3.kIn e3 rfl c hsub ?_
   show codeAny _ _ _ _ _
   refine codeAny_handlers_suite_as ?_
   refine A4k J3 F3 fun s4 J4 F4=>?_
   obtain⟨na4,T4,oT4,ts4,e4,_⟩:=id F4
   have J5:=J4.track na4 e4
   refine A2h (v:= .ref a) J5 hN hi (.inl hk) rfl (fun s5 J6=>?_) hf
   refine wpAny_mono (hs pins a [] s5 _ _ _ J6.hnd (hE a t T4 na4.un)) (fun f s6 hf6=>?_) (fun _ _ z=>z.elim)
   have fin:∀{σ6:St} {H6:Hp} {Q6:Unit ->Shared ->Prop},Inv (X.hnd pins a) [] σ6 H6 s6 ->(∀s7,Inv X pins (σ6.set i none) H6 s7 ->Q6 () s7) ->
       wpAny (model X.prog X.w) X.A (do bindName X.env n .none;unbindBehindTheSuite X.env n hpos) Q6 X.xe s6:=by
     intro σ6 H6 Q6 K6 k6
     have L6:=K6.unhnd J6.ok
     refine wpAny_bind (wpAny_bindName (A2h (v:= .non) L6 hN hi (.inl hk) rfl (fun s7 J7=>?_) hf))
     unfold unbindBehindTheSuite
     have hlen:i<σ6.length:=by rw[L6.len];exact(List.getElem?_eq_some_iff.mp hi).1
     refine wpAny_onRaise (B3h J7 hN hi hk (List.getElem?_set_self hlen) fun s8 J8=>k6 s8 ?_)
     rw[List.set_set] at J8
     exact J8
   cases f with
   |next=>obtain⟨σ6,H6,K6,q⟩:=hf6;exact fin K6 fun s7 J7=>⟨_,_,J7,q⟩
   |brk=>obtain⟨σ6,H6,K6,q⟩:=hf6;exact fin K6 fun s7 J7=>⟨_,_,J7,q⟩
   |cont=>obtain⟨σ6,H6,K6,q⟩:=hf6;exact fin K6 fun s7 J7=>⟨_,_,J7,q⟩
   |ret u=>obtain⟨v,σ6,H6,K6,r,q⟩:=hf6;exact fin K6 fun s7 J7=>⟨v,_,_,J7,r,q⟩
 cases f with
 |next=>exact wpAny_execs_nil (SP.unhold hf1)
 |brk=>exact SP.unhold hf1
 |cont=>exact SP.unhold hf1
 |ret u=>exact SP.unhold hf1
end
structure B3d(K:Frag)(C:Addr):Prop where
 ga:findIn K (.ref C) "__getattribute__"=some (some (.builtin "BaseException.__getattribute__"))
 gh:findIn K (.ref C) "__getattr__"=some none
 ca:findIn K (.ref C) "__class__"=some (some (.builtin "object.__class__"))
 sn:specialIn K (.builtin "object.__class__") "__get__"=some (some (.builtin "getset_descriptor.__get__"))
 tk:takesIn K (.builtin "object.__class__")=some true
 ob:mroIn K C (.type "object")=some true
 be:subIn K (.ref C) (.type "BaseException")=some true
 cl:(clsIn K C).isSome=true
theorem A4v{prog:Program}{w:World}{A:Around}{E:Value ->Shared ->Prop}{s:Shared}{K:Frag}{a C:Addr}{oa:Obj}{od:Option Obj}{Q:Option Value ->Shared ->Prop}(F:B3d K C)(X:K.In s.heap)(I:PySem.W.InstAt s.heap a oa C od)
   (h:Q (some (.ref C)) {s with toks:=s.toks+1}):wpAny (model prog w) A (getAttr? (.ref a) "__class__") Q E s:=by
 obtain⟨hp,g,d,t,os⟩:=s
 have L0:=I.type (M:=model prog w)
 have L1:=looks_findIn (M:=model prog w) X F.ga
 have L2:=looks_findIn (M:=model prog w) X F.gh
 have L3:Looks (model prog w) hp (isInstance (.ref a) (.type "BaseException")) true:=L0.andThen (looks_subIn X F.be)
 have hf:findObj K C od "__class__"=some (.bind (.builtin "getset_descriptor.__get__") (.builtin "object.__class__")):=by
   obtain⟨cd,hc⟩:=Option.isSome_iff_exists.mp F.cl
   unfold findObj
   rw[hc,Option.bind_some,F.ca,Option.bind_some]
   simp[F.sn,F.tk]
 have L4:=looks_find (M:=model prog w) X I hf
 have hk:builtinKind "BaseException.__getattribute__"=some .slot:=by decide+kernel
 have hsplit:splitId "BaseException.__getattribute__"=some ("BaseException","__getattribute__"):=by decide+kernel
 have hargs:=PySem.F.args_bexc_ga (.ref a) (.str "__class__" t)
 have hb:=PySem.F.attr_ValueError.ga.bind (.ref a)
 unfold getAttr? getAttrBy? getAttrBy
 refine wpAny_bind (wpAny_mkText (wpAny_bind (wpAny_attempt (wpAny_holding (wpAny_bind (L0.at (wpAny_bind (L1.at ?_))))))))
 dsimp only
 rw[if_neg (show¬((onTheHeap (Value.ref C)&&Value.builtin "BaseException.__getattribute__"==Value.builtin "object.__getattribute__")=true) by
   rw[show(Value.builtin "BaseException.__getattribute__"==Value.builtin "object.__getattribute__")=false by decide+kernel,Bool.and_false];exact Bool.false_ne_true)]
 unfold getAttrByItsOwn
 refine wpAny_bind (m:=hookBefore (.ref C)) (L2.at ?_)
 refine wpAny_bind (wpAny_attempt (wpAny_holding ?_))
 unfold callGetattribute
 rw[if_neg (by decide)]
 unfold boundAndCalled
 rw[hb]
 refine wpAny_bind (wpAny_pure ?_)
 refine wpAny_call (codeAny_call_builtin PySem.F.attr_ValueError.ga.plain PySem.F.entry_bexc_ga ?_)
 have chk:∀{A':Around} {Q':Unit ->Shared ->Prop} {E':Value ->Shared ->Prop},Q' () ⟨hp,g,d,t+1,os⟩ ->wpAny (model prog w) A' (checkBuiltinCall "BaseException.__getattribute__" ⟨[.ref a,.str "__class__" t],[]⟩) Q' E' ⟨hp,g,d,t+1,os⟩:=by
   intro A' Q' E' hq
   simp only[checkBuiltinCall,hk,hsplit]
   refine wpAny_bind ?_
   refine L3.at ?_
   repeat (first|assumption|wp_step)
 refine chk ?_
 show wpAny _ _ (Builtin.«object.__getattribute__» ⟨[.ref a, .str "__class__" t], []⟩) _ _ _
 unfold Builtin.«object.__getattribute__»
 refine wpAny_bind (wpAny_pure ?_)
 refine wpAny_bind (wpAny_pure ?_)
 refine wpAny_bind (L0.at (wpAny_bind (L4.at ?_)))
 dsimp only
 show wpAny _ _ (holding [Value.builtin "object.__class__"] (call (.builtin "getset_descriptor.__get__") [.builtin "object.__class__",.ref a,.ref C])>>=ret) _ _ _
 refine wpAny_bind (wpAny_holding (wpAny_call (class_get (s:=⟨hp,g,d,t+1,os⟩) X I F.ob (wpAny_pure ?_))))
 exact handed_on rfl (wpAny_pure h)
noncomputable def Y4 (X:Cx):Prop:=X.A.handled=none\/∃x o u vs,X.A.handled=some (.ref x)/\X.H₀ x=some (.frz o u)/\o.data= .fields vs/\vs[2]?=some .none
section
variable{X:Cx}{pins:List (Addr×Obj)}{σ:St}{H:Hp}{s:Shared}
theorem Inv.hdA(I:Inv X pins σ H s)(h:Y4 X):Hd X.A s.heap:=by
 rcases h with z|⟨x,o,u,vs,z,e,d,n⟩
 . exact .inl z
 exact .inr ⟨x,o,vs,z,(I.hok x _ (I.base.frzs x o u e)).1,d,n⟩
theorem Inv.hdB{it:Addr}(I:Inv X pins σ H s)(h:Y4 X)(hn:H it=none):∀h':Heap,Heap.ExtBut it s.heap h' ->Hd X.A h':=by
 intro h' k
 rcases h with z|⟨x,o,u,vs,z,e,d,n⟩
 . exact .inl z
 have q:=I.base.frzs x o u e
 exact .inr ⟨x,o,vs,z,k x o (fun w=>by rw[w,hn] at q;cases q) (I.hok x _ q).1,d,n⟩
end
structure D1h(P:Program)(w:World)(K:Frag)(tg:Expr)(J:It)(it:Addr)(tn:Nat ->Heap ->Prop):Prop where
 obj:∀i h,tn i h ->∃o,h.get? it=some o/\∀v,o.data≠ .cell v
 keep:∀i h h',tn i h ->(∀o,h.get? it=some o ->h'.get? it=some o) ->tn i h'
 item:∀(X:Cx),X.prog=P ->X.w=w ->X.K=K ->Y4 X ->∀(i:Nat) (pins:List (Addr×Obj)) (s:Shared) (σ:St) (H:Hp) (E:Value ->Shared ->Prop),Inv X pins σ H s ->A0w X pins H it ->tn i s.heap ->J.go i H ->
   wpAny (model P w) X.A (pyNext (.ref it)) (fun r s1=>∃u,r=some u/\
     wpAny (model P w) X.A (letOwnedTupleGo tg (.ref it) u) (fun _ s2=>∃x,Inv X pins σ H s2/\U9 x u/\J.yld i H x H/\tn (i+1) s2.heap) E s1) E s
 done:∀(X:Cx),X.prog=P ->X.w=w ->X.K=K ->Y4 X ->∀(i:Nat) (pins:List (Addr×Obj)) (s:Shared) (σ:St) (H:Hp) (E:Value ->Shared ->Prop),Inv X pins σ H s ->A0w X pins H it ->tn i s.heap ->J.stop i H ->
   wpAny (model P w) X.A (pyNext (.ref it)) (fun r s1=>r=none/\Inv X pins σ H s1) E s
 self:∀(A:Around) (i:Nat) (s:Shared) (Q:Value ->Shared ->Prop) (E:Value ->Shared ->Prop),tn i s.heap ->Q (.ref it) s ->wpAny (model P w) A (pyIter (.ref it)) Q E s
theorem C1r{P:Program}{w:World}{K:Frag}{tg:Expr}(a it:Addr):D1h P w K tg (Itl K a) it (fun i h=>h.IsListIter it a i) where
 obj:=fun i h ⟨o,e,c,d⟩=>⟨o,e,fun v z=>by rw[d] at z;cases z⟩
 keep:=fun i h h' st k=>st.at fun o e=>k o e
 item:=by
   intro X hP hw hK hc i pins s σ H E I hf st hg
   subst hP hw hK
   obtain⟨xs,x,hq,hx⟩:=hg
   obtain⟨its,rv,p,hz⟩:=I.list hq
   obtain⟨u,hu,ru⟩:=rv.get hx
   obtain⟨f0,f1,f2,f3,f4,f5⟩:=hf
   refine wpAny_pyNext_list_item st p.isList (x:=u) (by simpa using hu) fun h' st' sb=>?_
   have I1:Inv X pins σ H {s with heap:=h'}:=I.turned (t':=s.toks) (fun b o hb e=>(sb.2 b hb).trans e) f0 f1 f3 f4 f5
   obtain⟨o,e,c,d⟩:=id st'
   exact⟨u,rfl,B7s (s:={s with heap:=h'}) e c d (by decide) ⟨x,I1,ru,⟨rfl,fun ys hy=>by rw[I.list_inj hy hq];exact hx⟩,st'⟩⟩
 done:=by
   intro X hP hw hK hc i pins s σ H E I hf st hg
   subst hP hw hK
   obtain⟨xs,hq,hx⟩:=hg
   obtain⟨its,rv,p,hz⟩:=I.list hq
   obtain⟨f0,f1,f2,f3,f4,f5⟩:=hf
   have hl:=rv.length
   exact A3d (I.hdB hc f0) st p.isList (by simp;omega) fun h' eb=>⟨rfl,I.turned (t':=s.toks) (fun b o hb e=>eb b o hb e) f0 f1 f3 f4 f5⟩
 self:=fun _ _ _ _ _ st h=>wpAny_pyIter_listiter st h
theorem C6q{P:Program}{w:World}{K:Frag}{tg:Expr}(a it:Addr):D1h P w K tg (Itt K a) it (fun i h=>h.IsTupleIter it a i) where
 obj:=fun i h ⟨o,e,c,d⟩=>⟨o,e,fun v z=>by rw[d] at z;cases z⟩
 keep:=fun i h h' st k=>st.at fun o e=>k o e
 item:=by
   intro X hP hw hK hc i pins s σ H E I hf st hg
   subst hP hw hK
   obtain⟨xs,x,hq,hx⟩:=hg
   obtain⟨its,rv,p,hz⟩:=I.tuple hq
   obtain⟨u,hu,ru⟩:=rv.get hx
   obtain⟨f0,f1,f2,f3,f4,f5⟩:=hf
   refine wpAny_pyNext_tuple_item st (show s.heap.IsTuple a its.toArray from p) (x:=u) (by simpa using hu) fun h' st' sb=>?_
   have I1:Inv X pins σ H {s with heap:=h'}:=I.turned (t':=s.toks) (fun b o hb e=>(sb.2 b hb).trans e) f0 f1 f3 f4 f5
   obtain⟨o,e,c,d⟩:=id st'
   exact⟨u,rfl,B7s (s:={s with heap:=h'}) e c d (by decide) ⟨x,I1,ru,⟨rfl,fun ys hy=>by rw[I.tuple_inj hy hq];exact hx⟩,st'⟩⟩
 done:=by
   intro X hP hw hK hc i pins s σ H E I hf st hg
   subst hP hw hK
   obtain⟨xs,hq,hx⟩:=hg
   obtain⟨its,rv,p,hz⟩:=I.tuple hq
   obtain⟨f0,f1,f2,f3,f4,f5⟩:=hf
   have hl:=rv.length
   exact A1w (I.hdB hc f0) st p (by simp;omega) fun h' eb=>⟨rfl,I.turned (t':=s.toks) (fun b o hb e=>eb b o hb e) f0 f1 f3 f4 f5⟩
 self:=fun _ _ _ _ _ st h=>wpAny_pyIter_tupleiter st h
noncomputable def PIH (X:Cx) (tg iter:Expr) (wi:TI):Prop:=
 ∀ (pins:List (Addr×Obj)) (s:Shared) (σ:St) (H:Hp) (R:It ->Hp ->Prop),Inv X pins σ H s ->wi σ H R ->
   wpAny (model X.prog X.w) X.A (eval iter X.env) (fun v s1=>wpAny (model X.prog X.w) X.A (pyIter v) (fun itv s2=>∃(it:Addr) (tn:Nat ->Heap ->Prop) (J:It) (H':Hp),itv= .ref it/\Inv X pins σ H' s2/\D1h X.prog X.w X.K tg J it tn/\tn 0 s2.heap/\
     A0w X pins H' it/\R J H') X.xe s1) X.xe s
section
variable{X:Cx}{tg:Expr}
theorem B9b{l:Expr}{tl:TE}(hl:PE X l tl):PIH X tg l (G0g X.K tl):=by
 intro pins s σ H R I h
 refine thn (hl pins s σ H _ I h) fun v s1 hh_=>?_
 obtain⟨x,H1,I1,r1,q1⟩:=hh_
 obtain⟨a,e,⟨xs,hq⟩,q⟩:=q1
 subst e
 cases r1
 obtain⟨its,rv,p,hz⟩:=I1.list hq
 exact wpAny_pyIter_list p.isList ⟨s1.heap.objs.size,_,_,H1,rfl,I1.kept (t':=s1.toks) fun b o e=>Heap.get?_push_of_some _ e,C1r a _,⟨_,Heap.get?_push_size _ rfl,rfl,rfl⟩,I1.fpOk (Nat.le_refl _) (I1.hok.fresh (Nat.le_refl _)),q⟩
theorem A9w{l:Expr}{tl:TE}(hl:PE X l tl):PIH X tg l (G2m X.K tl):=by
 intro pins s σ H R I h
 refine thn (hl pins s σ H _ I h) fun v s1 hh_=>?_
 obtain⟨x,H1,I1,r1,q1⟩:=hh_
 obtain⟨a,e,⟨xs,hq⟩,q⟩:=q1
 subst e
 cases r1
 obtain⟨its,rv,p,hz⟩:=I1.tuple hq
 exact wpAny_pyIter_tuple (show s1.heap.IsTuple a its.toArray from p) ⟨s1.heap.objs.size,_,_,H1,rfl,I1.kept (t':=s1.toks) fun b o e=>Heap.get?_push_of_some _ e,C6q a _,⟨_,Heap.get?_push_size _ rfl,rfl,rfl⟩,I1.fpOk (Nat.le_refl _) (I1.hok.fresh (Nat.le_refl _)),q⟩
theorem D7e{es:List Expr}{k:Nat}{t:TGs}{n:Nat}{pos:Pos}(hc:Y4 X)(h:PGs X es t)(hn:(assignEach es X.env).length=n:=by rfl)(hst:(assignEach es X.env).findIdx? (·.1)=none:=by rfl):PG X (.Tuple es k pos) (G1c X.K n t):=by
 intro pins s σ H v u Q I r q
 obtain⟨a,xs,ev,hq,hl,q⟩:=q
 subst ev
 cases r
 obtain⟨its,rv,p,hz⟩:=I.tuple hq
 rw[assign_Tuple]
 refine wpAny_bind (wpAny_standAt (C5x (I.hdA hc) p (by rw[hn, <-hl,rv.length];simp) hst fun h' hx=>?_))
 have I1:Inv X pins σ H {s with heap:=h'}:=I.kept (t':=s.toks) fun b o e=>hx b o (Nat.ne_of_lt (Heap.lt_size e)) e
 exact thn (h pins _ σ H xs its Q I1 rv q) fun _ s' z=>z
theorem B5u{K:Frag}{es:List Expr}{k:Nat}{t:TGs}{n:Nat}{pos:Pos}(hK:X.K=K)(hc:Y4 X)(h:PGs X es t)(hn:(assignEach es X.env).length=n:=by rfl)(hst:(assignEach es X.env).findIdx? (·.1)=none:=by rfl):PG X (.Tuple es k pos) (G1c K n t):=by
 subst hK
 exact D7e hc h hn hst
end
noncomputable abbrev Cx.comp (X:Cx) (scope:Scope) (N:List Str) (C:Addr) (s₀:Shared) (H₀:Hp) (ex:List Addr) (pins:List (Addr×Obj)):Cx:=
 {X with N:=N,s₀:=s₀,H₀:=H₀,env:=compEnv scope C X.env,outer:=X.stack,ex:=ex,fn:=fun _=>false,pn:=pins,xe:=fun _ _=>False}
structure A8t(N:List Str)(sc:Scope):Prop where
 kind:sc.kind= .function
 free:∀y∈sc.names,y.2≠ .free
 cell:∀y∈sc.names,y.2≠ .cell
 loc:∀y∈sc.names,y.2= .local ->sc.names.lookup y.1=some .local
 nd:N.Nodup
noncomputable def C8s (n:Nat) (wi:TI) (g:TG) (te:TE):TE:=fun σ H Q=>wi σ H fun J H1=>∀D,H1 D=none ->
 ∃ (m:Nat) (W:Nat ->List V ->Hp ->Prop),W 0 [] (upd H1 D (.lst []))/\∀i ys H2,W i ys H2 ->i<=m/\H2 D=some (.lst ys)/\((J.stop i H2/\Q (.ref D) H2)\/(i<m/\J.go i H2/\∀x H3,J.yld i H2 x H3 ->
   g x (List.replicate n none) H3 fun σ4 H4=>te σ4 H4 fun y H6=>H6 D=some (.lst ys)/\ys.length<sizeLine/\W (i+1) (ys++ [y]) (upd H6 D (.lst (ys++ [y])))))
theorem B8b{prog:Program}{w:World}{A:Around}{s:Shared}{elt target iter:Expr}{scope:Scope}{pos:Pos}{it acc:Value}{env:Env}{R:Result ->Shared ->Prop}(I:Nat ->Shared ->Prop)
   (turn :∀n s,I n s ->wpAny (model prog w) A (pyNext it) (fun r s₁=>match r with
     |none=>R (.ok .next) s₁
     |some v=>wpAny (model prog w) A (letOwnedTupleGo target it v) (fun _ s₀=>wpAny (model prog w) A (assign target env v) (fun _ s₂=>wpAny (model prog w) A (eval elt env) (fun x s₄=>
         wpAny (model prog w) A (call (.builtin "list.append") [acc,x]) (fun _ s₅=>∃m,m<n/\I m s₅) (notedBy (model prog w) A env fun e s'=>R (.error e) s') s₄) (notedBy (model prog w) A env fun e s'=>R (.error e) s') s₂)
         (notedBy (model prog w) A env fun e s'=>R (.error e) s') s₀) (notedBy (model prog w) A env fun e s'=>R (.error e) s') s₁) (notedBy (model prog w) A env fun e s'=>R (.error e) s') s)
   (n:Nat) (h:I n s):codeAny (model prog w) A (.compLoop (.ListComp elt [⟨target,iter,[],0⟩] scope pos) 0 it acc env) R s:=by
 refine codeAny_loop rfl I (fun n s hI=>?_) n h
 show wpAny _ A ((compTurn (.ListComp elt [⟨target,iter,[],0⟩] scope pos) 0 it acc env).onRaise (fun x=>do noteFrame x env;theTreesLotGoes x)) _ _ s
 refine wpAny_noted ?_;rw[compTurn_list1]
 refine wpAny_bind (wpAny_standAt (wpAny_bind (wpAny_mono (turn n s hI) (fun r s₁ h₁=>?_) fun _ _ z=>z)))
 cases r with
 |none=>exact wpAny_pure h₁
 | some v=>
   refine wpAny_bind (wpAny_mono h₁ (fun _ s₀ q₀=>?_) fun _ _ z=>z)
   refine wpAny_bind (wpAny_mono q₀ (fun _ s₂ q₂=>?_) fun _ _ z=>z)
   exact wpAny_bind (wpAny_bind (wpAny_mono q₂ (fun x s₄ q₄=>wpAny_bind (wpAny_mono q₄ (fun _ s₅ q₅=>wpAny_pure (wpAny_pure ⟨rfl,q₅⟩)) fun _ _ z=>z)) fun _ _ z=>z))
section
variable{X:Cx}
theorem C8j{pins:List (Addr×Obj)}{σ:St}{H:Hp}{s:Shared}{scope:Scope}{N:List Str}{it:Addr}{h':Heap}(S:A8t N scope)(I:Inv X pins σ H s)(hf:A0w X pins H it)(hit:∃o,s.heap.get? it=some o)(hnb:X.base.get? it=none)
   (hns:h'.Ns s.heap.objs.size (fun _=>none)) (hsb:∀b o,s.heap.get? b=some o ->h'.get? b=some o) {tk:Nat}:
   Inv (X.comp scope N s.heap.objs.size s H [it] (X.pn++pins)) [] (List.replicate N.length none) H {s with heap:=h',toks:=tk}:=by
 obtain⟨f0,f1,f2,f3,f4,f5⟩:=hf
 obtain⟨oi,ei⟩:=hit
 have lt:it<s.heap.objs.size:=Heap.lt_size ei
 have nc:∀x c,(compEnv scope s.heap.objs.size X.env).cells.lookup x=some c ->False:=fun x c z=>by cases z
 have nk:∀x,¬((compEnv scope s.heap.objs.size X.env).kindOf x=some .cell\/(compEnv scope s.heap.objs.size X.env).kindOf x=some .free):=by
   intro x z
   have z:scope.names.lookup x=some .cell\/scope.names.lookup x=some .free:=z
   rcases z with z|z
   . exact S.cell _ (PySem.mem_of_lookup z) rfl
   . exact S.free _ (PySem.mem_of_lookup z) rfl
 refine⟨⟨I.ok.mod,S.kind,I.ok.glob,I.ok.blt,Nat.le_refl _,fun x y c z=>(nc x c z).elim,fun x z=>(nk x z).elim,fun x c _ z=>(nc x c z).elim,I.ok.hd,I.ok.frames,.inl rfl,fun b hb=>?_,I.bs,Nat.le_trans I.ok.bsz I.sz,fun b o e hb=>?_,fun b hb hfs=>?_,I.stack,I.stkFree⟩,
   rfl,I.bare,Un.kept hsb,⟨_,hns,fun i x v e1 e2 e3=>?_⟩,fun x c z=>(nc x c z).elim,I.hok.fresh (Nat.le_refl _),fun x c z=>(nc x c z).elim,fun p hp=>?_,I.hok.kept hsb,by simp⟩
 . have e:b=it:=by simpa using hb
   subst e
   exact⟨Nat.ne_of_lt lt,fun x c z=>(nc x c z).elim⟩
 . have e':b=it:=by simpa using hb
   subst e'
   rw[hnb] at e
   cases e
 . have e':b=it:=by simpa using hb
   subst e'
   rcases List.mem_cons.mp (I.stkSub b hfs) with z|z
   . exact f1 z
   . exact f2 z
 . rw[List.getElem?_replicate] at e2
   split at e2<;>cases e2
 have hp':p∈X.pn++pins:=by simpa using hp
 obtain⟨q1,q2,q3,q4,q5⟩:=I.pin p hp'
 refine⟨hsb _ _ q1,q2,Nat.ne_of_lt (Heap.lt_size q1),fun z=>?_,q5⟩
 rcases List.mem_cons.mp (I.stkSub p.1 z) with z|z
 . exact q3 z
 exact q4 z
theorem C1a{elt target iter:Expr}{scope:Scope}{pos:Pos}{N:List Str}{wi:TI}{g:TG}{te:TE}(S:A8t N scope)(hd:Y4 X)(hi:PIH X target iter wi)(hex:X.ex=[])
   (hg:∀C s₀ H₀ ex pn,Y4 (X.comp scope N C s₀ H₀ ex pn) ->PG (X.comp scope N C s₀ H₀ ex pn) target g)
   (he:∀C s₀ H₀ ex pn,Y4 (X.comp scope N C s₀ H₀ ex pn) ->PE (X.comp scope N C s₀ H₀ ex pn) elt te)
   {pins:List (Addr×Obj)} {s:Shared} {σ:St} {H:Hp} {Q:VK} {RR:Value ->Env ->Result ->Shared ->Prop} (I:Inv X pins σ H s) (h:(C8s N.length wi g te) σ H Q)
   (hRR:∀(D C:Addr) (s6:Shared) (H5:Hp) (mm:Str ->Option Value),Inv X pins σ H5 s6 ->s6.heap.Ns C mm ->A0w X pins H5 C ->Q (.ref D) H5 ->RR (.ref D) (compEnv scope C X.env) (.ok .next) s6):
   wpAny (model X.prog X.w) X.A (eval iter X.env) (fun v s1=>wpAny (model X.prog X.w) X.A (pyIter v) (fun itv s2=>wpAny (model X.prog X.w) X.A (newList []) (fun acc s3=>wpAny (model X.prog X.w) X.A (newFunctionEnv scope X.env.globals [] [] X.env.qual none .none (some X.env)) (fun cenv s4=>
     codeAny (model X.prog X.w) X.A (.compStart (.ListComp elt [⟨target,iter,[],0⟩] scope pos) 0 itv acc {cenv with scope:=scope}) (RR acc {cenv with scope:=scope}) s4) X.xe s3) X.xe s2) X.xe s1) X.xe s:=by
 refine thn (hi pins s σ H _ I h) fun v s1 h1=>thn h1 fun itv s2 h2=>?_
 obtain⟨it,tn,J,H2,rfl,I2,T,st2,f2,R⟩:=h2
 obtain⟨oi,ei,di⟩:=T.obj _ _ st2
 have hf2:=I2.hok.fresh (Nat.le_refl _)
 refine wpAny_newObj_type ?_
 have I3:Inv X pins σ (upd H2 s2.heap.objs.size (.lst [])) {s2 with heap:=s2.heap.push {cls:= .type "list",dict:=none,data:= .seq ([]:List Value).toArray}}:=Inv.lnew (t':=s2.toks) I2 .nil (Nat.zero_le _)
 refine wpAny_newFunctionEnv S.cell (by intro y hy;simp at hy) (fun h4 hns hsb=>?_) S.kind
 dsimp only at hns hsb ⊢
 generalize hG:s2.heap.push {cls:= .type "list",dict:=none,data:= .seq ([]:List Value).toArray}=G at I3 hns hsb ⊢
 generalize hD:s2.heap.objs.size=D at I3 hf2
 have nD:it≠D:=by rw[<-hD];exact Nat.ne_of_lt (Heap.lt_size ei)
 have eiG:G.get? it=some oi:=by rw[<-hG];exact Heap.get?_push_of_some _ ei
 have kp:∀b o,G.get? b=some o ->h4.get? b=some o:=fun b o e=>hsb.extBut b o (Nat.ne_of_lt (Heap.lt_size e)) (Heap.get?_push_of_some _ e)
 have f3:A0w X pins (upd H2 D (.lst [])) it:=⟨by rw[C9 nD];exact f2.1,f2.2⟩
 have nb:X.base.get? it=none:=by
   cases q:X.base.get? it with
   |none=>rfl
   | some o=>
     have:=(I.ok.bs it o q).1
     rcases f2.2.2.2.1 with z|z
     . rw[hex] at z;simp at z
     . exact absurd (Nat.lt_of_lt_of_le (Heap.lt_size this) z) (Nat.lt_irrefl _)
 have hns':h4.Ns G.objs.size (fun _=>none):=by
   obtain⟨o,es,ep,q1,q2,q3,q4⟩:=hns
   exact⟨o,es,ep,q1,q2,q3,fun x=>by rw[q4];rfl⟩
 have I4:=C8j (tk:=s2.toks+([]:List (Str×Value)).length) S I3 f3 ⟨oi,eiG⟩ nb hns' kp
 have hdc:Y4 (X.comp scope N G.objs.size {s2 with heap:=G} (upd H2 D (.lst [])) [it] (X.pn++pins)):=by
   rcases hd with z|⟨x,o,u,vs,z,e,d,n⟩
   . exact .inl z
   . refine .inr ⟨x,o,u,vs,z,?_,d,n⟩
     have q:=I2.base.frzs x o u e
     show upd H2 D (.lst []) x=_
     rw[C9 fun w=>by rw[w,hf2] at q;cases q]
     exact q
 obtain⟨m,W,w0,turn⟩:=R D hf2
 have gg:=hg _ _ _ _ _ hdc
 have ee:=he _ _ _ _ _ hdc
 have fpc:∀{H':Hp} {σ':St} {s':Shared} {pl:List (Addr×Obj)},Inv (X.comp scope N G.objs.size {s2 with heap:=G} (upd H2 D (.lst [])) [it] (X.pn++pins)) pl σ' H' s' ->H' it=none ->(∀p∈pl,p.1≠it) ->A0w (X.comp scope N G.objs.size {s2 with heap:=G} (upd H2 D (.lst [])) [it] (X.pn++pins)) pl H' it:=by
   intro H' σ' s' pl J' hn hp
   refine⟨hn,Nat.ne_of_lt (Heap.lt_size eiG),?_,.inl (List.mem_singleton.mpr rfl),(fun x c z=>nomatch z),fun p hpp=>?_⟩
   . intro z
     rcases List.mem_cons.mp (I.stkSub it z) with z|z
     . exact f2.2.1 z
     . exact f2.2.2.1 z
   . rcases List.mem_append.mp hpp with z|z
     . exact f2.2.2.2.2.2 p z
     . exact hp p z
 have loop:codeAny (model X.prog X.w) X.A (.compLoop (.ListComp elt [⟨target,iter,[],0⟩] scope pos) 0 (.ref it) (.ref D) (compEnv scope G.objs.size X.env))
     (RR (.ref D) (compEnv scope G.objs.size X.env))
     {s2 with heap:=h4,toks:=s2.toks+([]:List (Str×Value)).length}:=by
   refine B8b (fun k s'=>∃i ys H',k=m+1-i/\Inv (X.comp scope N G.objs.size {s2 with heap:=G} (upd H2 D (.lst [])) [it] (X.pn++pins)) [] (List.replicate N.length none) H' s'/\tn i s'.heap/\H' it=none/\W i ys H') ?_ (m+1)
     ⟨0,[],_,rfl,I4,T.keep _ _ _ st2 fun o e=>kp it o (by rw[<-hG];exact Heap.get?_push_of_some _ e),f3.1,w0⟩
   rintro k s5 ⟨i,ys,H5,rfl,I5,st5,n5,w5⟩
   obtain⟨hi5,hD5,w5⟩:=turn i ys H5 w5
   rcases w5 with⟨stop,q⟩|⟨lt5,go,step⟩
   . refine wpAny_mono (T.done (X.comp scope N G.objs.size {s2 with heap:=G} (upd H2 D (.lst [])) [it] (X.pn++pins)) rfl rfl rfl hdc i [] s5 _ H5 (fun _ _=>False) I5 (fpc I5 n5 (by simp)) st5 stop) (fun r s6 z=>?_) (fun _ _ z=>z.elim)
     obtain⟨rfl,I6⟩:=z
     obtain⟨mm,hn6,_⟩:=I6.loc
     have B6:=I6.base
     have J6:Inv X pins σ H5 s6:=by
       refine I3.call' (ch:=[it]) I6.os ⟨B6.keep,B6.slot,B6.free,B6.there,B6.tups,B6.frzs,B6.tbls⟩ I6.hok I6.bare (fun b hb=>?_)
       have e:b=it:=by simpa using hb
       subst e
       exact⟨f2.2.2.2.1,f2.2.1,f2.2.2.2.2.1,f2.2.2.2.2.2⟩
     have szG:X.s₀.heap.objs.size<=G.objs.size:=I3.sz
     refine hRR D G.objs.size s6 H5 mm J6 hn6 ⟨I6.free,?_,?_,.inr szG,?_,?_⟩ q
     . exact Nat.ne_of_gt I3.lt
     . intro z
       obtain⟨_,o,ho,_⟩:=I3.funs.mem z
       exact Nat.lt_irrefl _ (Heap.lt_size ho)
     . rintro x c z rfl
       obtain⟨v',o,ho,_⟩:=I3.cell x _ z
       exact Nat.lt_irrefl _ (Heap.lt_size ho)
     . rintro p hp z
       have zz:=(I3.pin p hp).1
       rw[z] at zz
       exact Nat.lt_irrefl _ (Heap.lt_size zz)
   . refine wpAny_mono (T.item (X.comp scope N G.objs.size {s2 with heap:=G} (upd H2 D (.lst [])) [it] (X.pn++pins)) rfl rfl rfl hdc i [] s5 _ H5 (fun _ _=>False) I5 (fpc I5 n5 (by simp)) st5 go) (fun r s6 z=>?_) (fun _ _ z=>z.elim)
     obtain⟨u,rfl,z⟩:=z
     refine wpAny_mono z (fun _ s7 z=>?_) (fun _ _ z=>z.elim)
     obtain⟨x,I7,rx,yl,st7⟩:=z
     obtain⟨o7,e7,d7⟩:=T.obj _ _ st7
     obtain⟨p0,p1,p2,_⟩:=fpc I7 n5 (by simp)
     have I7':Inv (X.comp scope N G.objs.size {s2 with heap:=G} (upd H2 D (.lst [])) [it] (X.pn++pins)) [(it,o7)] (List.replicate N.length none) H5 s7:=I7.pins_of fun p hp=>by
       have e:p=(it,o7):=by simpa using hp
       subst e
       exact⟨e7,p0,p1,p2,d7⟩
     have back:∀{i':Nat} {ys':List V} {H':Hp} {σ':St} {s':Shared},i'=i+1 ->Inv (X.comp scope N G.objs.size {s2 with heap:=G} (upd H2 D (.lst [])) [it] (X.pn++pins)) [(it,o7)] σ' H' s' ->W i' ys' H' ->
         ∃k',k'<m+1-i/\∃i ys H',k'=m+1-i/\Inv (X.comp scope N G.objs.size {s2 with heap:=G} (upd H2 D (.lst [])) [it] (X.pn++pins)) [] (List.replicate N.length none) H' s'/\tn i s'.heap/\H' it=none/\W i ys H':=by
       rintro i' ys' H' σ' s' rfl J' w'
       obtain⟨q1,q2,_⟩:=J'.pin (it,o7) (List.mem_append_right _ (List.mem_singleton.mpr rfl))
       have jl:σ'.length=N.length:=J'.len
       refine⟨m+1-(i+1),by omega,i+1,ys',H',rfl,Inv.weak (J'.pins_of fun p hp=>absurd hp (by simp)) (by rw[jl];simp) (fun j v z=>?_),T.keep _ _ _ st7 fun o z=>?_,q2,w'⟩
       . rw[List.getElem?_replicate] at z
         split at z<;>cases z
       . rw[e7] at z
         cases z
         exact q1
     refine wpAny_mono (gg [(it,o7)] s7 _ H5 x u _ I7' rx (step x H5 yl)) (fun _ s8 z=>?_) (fun _ _ z=>z.elim)
     obtain⟨σ8,H8,I8,q8⟩:=z
     refine wpAny_mono (ee [(it,o7)] s8 σ8 H8 _ I8 q8) (fun y s10 z=>?_) (fun _ _ z=>z.elim)
     obtain⟨yv,H10,I10,ry,hD10,hz10,w10⟩:=z
     refine wpAny_mono (A5g (X:=X.comp scope N G.objs.size {s2 with heap:=G} (upd H2 D (.lst [])) [it] (X.pn++pins)) [(it,o7)] s10 σ8 H10 (.ref D) [yv] (.ref D) [y] (fun _ H11=>W (i+1) (ys++ [yv]) H11) I10 rfl (.cons ry .nil) ⟨D,ys,yv,rfl,rfl,hD10,hz10,w10⟩) (fun _ s11 z=>?_) (fun _ _ z=>z.elim)
     obtain⟨_,H11,I11,_,w11⟩:=z
     exact back rfl I11 w11
 exact codeAny_compStart_list loop (T.self _ 0 _ _ _ (T.keep _ _ _ st2 fun o e=>kp it o (by rw[<-hG];exact Heap.get?_push_of_some _ e)) loop)
theorem B3t{pins:List (Addr×Obj)}{σ:St}{H:Hp}{s:Shared}{C:Addr}{h':Heap}(I:Inv X pins σ H s)(f:A0w X pins H C)(sb:Heap.SameBut C s.heap h'):Inv X pins σ H {s with heap:=h'}:=
 I.turned (t':=s.toks) (fun b o hb e=>(sb.2 b hb).trans e) f.1 f.2.1 f.2.2.2.1 f.2.2.2.2.1 f.2.2.2.2.2
theorem C7x{elt target iter:Expr}{scope:Scope}{pos:Pos}{N:List Str}{wi:TI}{g:TG}{te:TE}(S:A8t N scope)(hd:Y4 X)(hi:PIH X target iter wi)(hex:X.ex=[])
   (hg:∀C s₀ H₀ ex pn,Y4 (X.comp scope N C s₀ H₀ ex pn) ->PG (X.comp scope N C s₀ H₀ ex pn) target g)
   (he:∀C s₀ H₀ ex pn,Y4 (X.comp scope N C s₀ H₀ ex pn) ->PE (X.comp scope N C s₀ H₀ ex pn) elt te)
   (hs:∀x,foldedSetIterable iter X.env x=pure x:=by intro _;rfl):PE X (.ListComp elt [⟨target,iter,[],0⟩] scope pos) (C8s N.length wi g te):=by
 intro pins s σ H Q I h
 refine wpAny_ListComp S.free S.kind S.loc (C1a S hd hi hex hg he I h (RR:=fun acc ce r s'=>∃m,s'.heap.Ns ce.locals m/\∀h',Heap.SameBut ce.locals s'.heap h' ->match r with
   | .ok _=>EP X pins σ Q acc {s' with heap:=h'}
   | .error x=>wpAny (model X.prog X.w) X.A (passOn "comprehension.variables-let-go" x ce) (EP X pins σ Q) X.xe {s' with heap:=h'}) ?_) hs
 intro D C s6 H5 mm I6 n6 f6 q
 exact⟨mm,n6,fun h' sb=>⟨.ref D,H5,B3t I6 f6 sb,rfl,q⟩⟩
end
section
variable{X:Cx}{a b c:Expr}{ta tb tc:TE}{pos:Pos}
theorem U2:OpR X (binaryOp .Mult) (rI IntMulOk fun i j=> .int (i*j)):=opI fun _ _ _ _ _ _ _ hc q=>mul_int q hc
theorem G9:OpR X (binaryOp .FloorDiv) (rI (fun _ j=>0<j/\j.natAbs.log2<9000) fun i j=> .int (i/j)):=opI fun i j _ _ _ _ _ hc q=>by
 have h1:(0:Int)<j:=hc.1
 exact floordiv_int (by omega) (by rw[Int.fdiv_eq_ediv_of_nonneg i (by omega)];exact q) (.inl (PyProof.noPylong_of_log2 hc.2))
theorem A3j{i:Int}{k:Nat}(h:i.natAbs<2^k)(hk:0<k):i.natAbs.log2<k:=by
 by_cases z:i.natAbs=0
 . rw[z];simpa using hk
 exact(Nat.log2_lt z).mpr h
inductive TyE(K:Frag)(H:Hp):V ->Value ->Prop where
 |of {x:V} {t:Value} (h:A8p K H x t):TyE K H x t
 |exc {a C t:Addr} {T:Value} {u:HO} (e:H a=some (.frz (Z2 (.ref C) t none T) u)) (k:B3d K C):TyE K H (.ref a) (.ref C)
 |excD {a C t:Addr} {T:Value} {d:Addr} {u:HO} {fs:List (Str×V)} (e:H a=some (.frz (Z2 (.ref C) t (some d) T) u)) (hd:H d=some (.xd fs)) (k:B3d K C):TyE K H (.ref a) (.ref C)
 |tupK {a:Addr} {o:Obj} (l:K.lookup a=some o) (c:o.cls= .type "tuple"):TyE K H (.ref a) (.type "tuple")
theorem C0e{pins:List (Addr×Obj)}{σ:St}{H:Hp}{s:Shared}{A:Around}{E:Value ->Shared ->Prop}{Q:Value ->Shared ->Prop}{c:Value}{b:Bool}{x:V}{u t:Value}(I:Inv X pins σ H s)(rx:U9 x u)(ty:TyE X.K H x t)
   (e:kitOne X.K t c=some b) (h:∀tk,Q (.bool b) {s with toks:=tk}):wpAny (model X.prog X.w) A (call (.builtin "isinstance") [u,c]) Q E s:=by
 cases ty with
 |of h'=>exact C4w I rx h' e h
 | exc ea k=>
   cases rx
   rename_i a C t0 T u0
   have o1:s.heap.get? a=some (Z2 (.ref C) t0 none T):=(I.hok a _ ea).1
   refine kia_one (H:=fun h=>PySem.W.InstAt h a (Z2 (.ref C) t0 none T) C none) ?_ I.kIn ⟨o1,rfl,rfl,trivial⟩ e (fun z=>nomatch z) h
   refine⟨fun M h _ J=>J.type,fun M h K _=>A3t K k.cl,fun h tp dd its n sl K htp=>?_,fun K J q=>A4v k K J q⟩
   refine Bool.eq_false_iff.mpr fun q=>?_
   have e:C=tp:=Value.ref.inj (beq_iff_eq.mp q)
   subst e
   have z:=k.cl
   unfold clsIn at z
   split at z
   . rename_i ho
     have y:=(K _ _ ho).symm.trans htp
     cases y
   . cases z
 | tupK l c=>
   cases rx
   exact PySem.W.kia_one PySem.W.kitx_tuple I.kIn ⟨_,I.kIn _ _ l,c⟩ e (fun z=>nomatch z) h
 | excD ea hd k=>
   cases rx
   rename_i a C t0 T d u0 fs
   have o1:s.heap.get? a=some (Z2 (.ref C) t0 (some d) T):=(I.hok a _ ea).1
   obtain⟨mA,nA,_⟩:=(show∃mA,s.heap.Ns1 d mA/\∀f,A4g (fs.lookup f) (mA f) from I.hok d _ hd)
   obtain⟨od,o2,_⟩:=A7w nA
   refine kia_one (H:=fun h=>PySem.W.InstAt h a (Z2 (.ref C) t0 (some d) T) C (some od)) ?_ I.kIn ⟨o1,rfl,rfl,o2⟩ e (fun z=>nomatch z) h
   refine⟨fun M h _ J=>J.type,fun M h K _=>A3t K k.cl,fun h tp dd its n sl K htp=>?_,fun K J q=>A4v k K J q⟩
   refine Bool.eq_false_iff.mpr fun q=>?_
   have e:C=tp:=Value.ref.inj (beq_iff_eq.mp q)
   subst e
   have z:=k.cl
   unfold clsIn at z
   split at z
   . rename_i ho
     have y:=(K _ _ ho).symm.trans htp
     cases y
   . cases z
noncomputable def D6f:V ->Option Value
 | .ty n=>some (.type n)
 | .ref a=>some (.ref a)
 |_=>none
theorem B8z:A1b X (.builtin "isinstance") (fun xs H Q=>∃x c cv t b,xs=[x,c]/\D6f c=some cv/\TyE X.K H x t/\kitOne X.K t cv=some b/\Q (.bl b) H):=by
 intro pins s σ H xs us Q I r h
 obtain⟨x,c,cv,t,b,rfl,hc,ty,e,q⟩:=h
 obtain⟨u,v,rfl,ru,rv⟩:=G7.two r
 have:v=cv:=by
   cases c<;>simp only[D6f] at hc<;>first|(cases hc;exact rv)|cases hc
 subst this
 exact C0e I ru ty e fun tk=>⟨.bl b,H,I.tok tk,rfl,q⟩
mutual
inductive RdD(K:Frag)(H:Hp):V ->PyData ->Prop where
 |non:RdD K H .non .none
 |bl (b:Bool):RdD K H (.bl b) (.bool b)
 |int (i:Int):RdD K H (.int i) (.int i)
 |str (x:Str):RdD K H (.str x) (.str x)
 |tup {a:Addr} {xs:List V} {ds:List PyData} (h:SqT K H a xs) (r:B2u K H xs ds):RdD K H (.ref a) (.tuple ds)
 |lst {a:Addr} {xs:List V} {ds:List PyData} (h:SqL K H a xs) (r:B2u K H xs ds):RdD K H (.ref a) (.list ds)
inductive B2u(K:Frag)(H:Hp):List V ->List PyData ->Prop where
 |nil:B2u K H [] []
 |cons {x:V} {xs:List V} {d:PyData} {ds:List PyData} (h:RdD K H x d) (r:B2u K H xs ds):B2u K H (x::xs) (d::ds)
end
mutual
theorem RdD.reads{pins:List (Addr×Obj)}{σ:St}{H:Hp}{s:Shared}(I:Inv X pins σ H s):∀{x:V} {d:PyData} {u:Value},RdD X.K H x d ->U9 x u ->∃as,Reads s.heap u d as
 |_,_,_,.non,r=>by cases r;exact⟨_,.none⟩
 |_,_,_,.bl b,r=>by cases r;exact⟨_,.bool b⟩
 |_,_,_,.int i,r=>by obtain⟨t,rfl⟩:=r;exact⟨_,.int i t⟩
 |_,_,_,.str x,r=>by obtain⟨t,rfl⟩:=r;exact⟨_,.str x t⟩
 | _,_,_,.tup h q,r=>by
   cases r
   obtain⟨its,rv,⟨o,e,c,n,d⟩,_⟩:=I.tuple h
   obtain⟨as,z⟩:=B2u.reads I q rv
   exact⟨_,reads_tuple_at e c d (by simpa using z)⟩
 | _,_,_,.lst h q,r=>by
   cases r
   obtain⟨its,rv,p,_⟩:=I.list h
   obtain⟨o,e,c,n,d⟩:=p.isList
   obtain⟨as,z⟩:=B2u.reads I q rv
   exact⟨_,reads_list_at e c d (by simpa using z)⟩
theorem B2u.reads{pins:List (Addr×Obj)}{σ:St}{H:Hp}{s:Shared}(I:Inv X pins σ H s):∀{xs:List V} {ds:List PyData} {us:List Value},B2u X.K H xs ds ->G7 xs us ->∃as,ReadsAll s.heap us ds as
 |_,_,_,.nil,r=>by cases r;exact⟨_,.nil⟩
 | _,_,_,.cons h q,r=>by
   cases r with
   | cons r1 r2=>
     obtain⟨as,z⟩:=RdD.reads I h r1
     obtain⟨bs,y⟩:=B2u.reads I q r2
     exact⟨_,.cons z y⟩
end
noncomputable def G0z (K:Frag) (n:Bool):R2:=fun x y H Q=>∃d e,RdD K H x d/\RdD K H y e/\SeqAt.shaped d=true/\SeqAt.shaped e=true/\Q (.bl (if n then !PyData.eqv d e else PyData.eqv d e)) H
theorem C7u(hu:X.A.units+64<cLine):OpR X (compareOp .Eq) (G0z X.K false):=by
 intro pins s σ H x y v u Q I rx ry q
 obtain⟨d,e,hx,hy,sd,se,q⟩:=q
 obtain⟨as,z⟩:=hx.reads I rx
 obtain⟨bs,z'⟩:=hy.reads I ry
 exact eq_dataH z z' sd se hu ⟨.bl (PyData.eqv d e),H,I,rfl,q⟩
theorem C0w(hu:X.A.units+64<cLine):OpR X (compareOp .NotEq) (G0z X.K true):=by
 intro pins s σ H x y v u Q I rx ry q
 obtain⟨d,e,hx,hy,sd,se,q⟩:=q
 obtain⟨as,z⟩:=hx.reads I rx
 obtain⟨bs,z'⟩:=hy.reads I ry
 exact ne_dataH z z' sd se hu ⟨.bl (!PyData.eqv d e),H,I,rfl,q⟩
inductive B9g(X:Cx):Expr ->TE ->Prop where
 |lit {x:Str} {j:Nat} {pos:Pos}:B9g X (.Constant (.str x) j pos) (tC (.str x))
 |int {v:Expr} {tv:TE} {pos:Pos} (h:PE X v tv):B9g X (.FormattedValue v (-1) none pos) (fun σ H Q=>tv σ H fun y H1=>∃i,y= .int i/\i.natAbs.log2<1920/\Q (.str (toString i)) H1)
theorem B9g.pe{e:Expr}{t:TE}(h:B9g X e t):PE X e t:=by
 cases h with
 |lit=>exact C7
 | int h=>
   intro pins s σ H Q I q
   refine FormattedValue_plain (thn (h pins s σ H _ I q) fun u s1 hh_=>?_)
   obtain⟨y,H1,I1,r,i,e,l,q⟩:=hh_
   subst e
   obtain⟨t,rfl⟩:=r
   exact formatField_int_small l ⟨.str (toString i),H1,I1.tok _,⟨_,rfl⟩,q⟩
inductive A8r(X:Cx):List Expr ->(Str ->TE) ->Prop where
 |nil:A8r X [] (fun out _ H Q=>out.length<=sizeLine/\Q (.str out) H)
 |cons {e:Expr} {es:List Expr} {t:TE} {r:Str ->TE} (h:B9g X e t) (hr:A8r X es r):A8r X (e::es) (fun out σ H Q=>t σ H fun x H1=>∃y,x= .str y/\(out++y).length<=sizeLine/\r (out++y) σ H1 Q)
theorem A8r.run{es:List Expr}{t:Str ->TE}(h:A8r X es t):∀(out:Str) (pins:List (Addr×Obj)) (s:Shared) (σ:St) (H:Hp) (Q:VK),Inv X pins σ H s ->t out σ H Q ->
   wpAny (model X.prog X.w) X.A (joinParts out (evalEach es X.env)) (EP X pins σ Q) X.xe s:=by
 induction h with
 | nil=>
   intro out pins s σ H Q I q
   exact joinParts_nil ⟨.str out,H,I.tok _,⟨_,rfl⟩,q.2⟩ q.1
 | @cons e es t r h hr ih=>
   intro out pins s σ H Q I q
   show wpAny _ _ (joinParts out (eval e X.env::evalEach es X.env)) _ _ _
   refine joinParts_cons (thn (h.pe pins s σ H _ I q) fun u s1 hh_=>?_)
   obtain⟨x,H1,I1,rx,y,ey,z,q⟩:=hh_
   subst ey
   obtain⟨t',rfl⟩:=rx
   exact⟨z,ih _ pins s1 σ H1 Q I1 q⟩
theorem B6g{e1 e2:Expr}{es:List Expr}{t:Str ->TE}{pos:Pos}(h:A8r X (e1::e2::es) t):PE X (.JoinedStr (e1::e2::es) pos) (t Str.empty):=by
 intro pins s σ H Q I q
 exact JoinedStr_many (h.run _ pins s σ H Q I q)
end
structure Y2(k:Nat)(A:Around):Prop where
 dp:A.depth+3*k+5<recursionLimit
 un:A.units+16*k+200<cLine
theorem A0p.h{k:Nat}{A:Around}(r:A0p k A):Y2 k A:=⟨r.dp,r.un⟩
theorem A0p.hm{k:Nat}{A:Around}(r:A0p k A)(h:Option Value):Y2 k (A.mark h):=⟨r.dp,r.un⟩
theorem Y2.mono{j k:Nat}{A:Around}(r:Y2 k A)(h:j<=k):Y2 j A:=⟨by have:=r.dp;omega,by have:=r.un;omega⟩
theorem Y2.deeper{k:Nat}{A:Around}(r:Y2 (k+1) A)(env:Env):Y2 k (A.deeper env):=
 ⟨by have:=r.dp;show A.depth+1+3*k+5<_;omega,by have:=r.un;show A.units+3+16*k+200<_;omega⟩
theorem Y2.u64{k:Nat}{A:Around}(r:Y2 k A):A.units+64<cLine:=by have:=r.un;omega
theorem Y2.depth{k:Nat}{A:Around}(r:Y2 k A):A.depth<recursionLimit:=by have:=r.dp;omega
noncomputable def HdH (A:Around) (H:Hp):Prop:=A.handled=none\/∃x o u vs,A.handled=some (.ref x)/\H x=some (.frz o u)/\o.data= .fields vs/\vs[2]?=some .none
structure B4v(P:Program)(w:World)(K:Frag)(mg:Str ->Option Value)(base:Heap)(k:Nat)(f:Addr)(fd:FuncData)(ps:List Str)(sp:Sp):Prop where
 len:∀vs H Q E,sp vs H Q E ->vs.length=ps.length
 run:∀(A:Around) (outer:List Env) (s:Shared) (H:Hp) (args:Args) (us:List Value) (vs:List V) (Q:VK),Y2 k A ->A9n P w K mg base A outer s H ->HdH A H ->BindsTo s fd args (ps.zip us) ->G7 vs us ->sp vs H Q E0 ->
   codeAny (model P w) A (.call (.ref f) args) (CR CX0 outer P w H s Q E0) s
theorem Inv.loud{X:Cx}{pins:List (Addr×Obj)}{σ:St}{H:Hp}{s:Shared}{A:Around}{E:Value ->Shared ->Prop}(hA:A.frames=X.A.frames)(I:Inv X pins σ H s):Inv {X with A:=A,calm:=false,xe:=E} pins σ H s:=
 ⟨⟨I.ok.mod,I.ok.kind,I.ok.glob,I.ok.blt,I.ok.above,I.ok.inj,I.ok.has,I.ok.cab,(fun z=>nomatch z),hA.trans I.ok.frames,I.ok.stk,I.ok.exf,I.ok.bs,I.ok.bsz,I.ok.noex,I.ok.exfs,I.ok.funs,I.ok.frf⟩,
   I.os,I.bare,I.base,I.loc,I.cell,I.free,I.freeC,I.pin,I.hok,I.len⟩
noncomputable abbrev quiet (A:Around):Around:={A with handled:=none}
theorem A9n.quiet{P:Program}{w:World}{K:Frag}{mg:Str ->Option Value}{base:Heap}{A:Around}{outer:List Env}{s:Shared}{H:Hp}(e:A9n P w K mg base A outer s H):A9n P w K mg base (quiet A) outer s H:=
 ⟨e.frames,e.mod,e.bs,e.bsz,e.funs,e.frf,e.hok,e.bare⟩
section
variable{P:Program}{w:World}{K:Frag}{mg:Str ->Option Value}{base:Heap}
end
section
variable{X:Cx}{k:Nat}{f:Addr}{fd:FuncData}{ps:List Str}{sp:Sp}{x:Str}{p pos:Pos}{e:Expr}{es:List Expr}{t:TA}
noncomputable def B6k (A:Around) (sp:Sp) (t:TA):TE:=fun σ H Q=>t σ H fun vs H1=>HdH A H1/\sp vs H1 Q E0
theorem C9x(F:B4v X.prog X.w X.K X.mg X.base k f fd ps sp)(hr:Y2 k X.A)(hg:Gl X x)(hm:X.mg x=some (.ref f))(hk:PySem.W.keepIn X.K (.ref f)=true)(hb:V9 X.K fd ps [])
   (ha:PA X (e::es) t) (hdb:(x==("__debug__":Str))=false:=by decide) (he:starEach (e::es) X.env=(false,eval e X.env)::starEach es X.env:=by rfl)
   (hpl:(backTo pos (starEach es X.env)).any (·.1)=false:=by rfl):PE X (.Call (.Name x p) (e::es) [] pos) (B6k X.A sp t):=by
 intro pins s σ H Q I h
 refine wpAny_Call_Name_kw (Z8 I hg hm ?_ hdb)
 refine PySem.W.callWith_K (h₀:=X.base) I.ok.mod.kin hk (thn (ha pos pins s σ H _ I h) fun us s1 ⟨vs,H1,I1,r,hd,q⟩=>⟨I1.kIn,?_⟩) he hpl
 have hl:(us++ []).length=ps.length:=by rw[List.append_nil, <-r.length];exact F.len _ _ _ _ q
 have hb':=hb s1 us I1.kIn hl
 rw[List.append_nil] at hb'
 refine wpAny_call (codeAny_mono (F.run X.A X.stack s1 H1 ⟨us,[]⟩ us vs Q hr I1.env0 hd hb' r q) fun r s' hq=>?_)
 cases r with
 |error e=>exact False.elim hq
 | ok fl=>
   cases fl with
   |ret u=>exact I1.after hq
   |next=>exact False.elim hq
   |brk=>exact False.elim hq
   |cont=>exact False.elim hq
end
theorem Inv.big{X:Cx}{pins:List (Addr×Obj)}{σ:St}{H:Hp}{s:Shared}(I:Inv X pins σ H s):sysModules<s.heap.objs.size:=by
 have h:mainGlobals<s.heap.objs.size:=(I.mod.glob.keeps I.bk).lt
 exact Nat.lt_trans (by decide) h
theorem C7c{P:Program}{w:World}{H:Hp}(h:Heap)(hb:sysModules<h.objs.size):Y9 P w H (h.push {cls:= .type "dict",data:= .dict #[]}) h.objs.size (.dK []):=
 ⟨Nat.zero_le _,beq_eq_false_iff_ne.mpr (Ne.symm (Nat.ne_of_lt hb)),[],.nil,Heap.DictOf.new h⟩
noncomputable def G2y:TE:=fun _ H Q=>∀p,H p=none ->Q (.ref p) (upd H p (.dK []))
theorem B0u{X:Cx}{pos:Pos}:PE X (.Dict [] [] pos) G2y:=fun pins s σ H Q I h=>
 wpAny_Dict_empty ⟨.ref s.heap.objs.size,_,I.laid (a:=s.heap.objs.size) (o:= .dK []) (t':=s.toks) (fun _ _ q=>Heap.get?_push_of_some _ q) (Nat.le_refl _) (C7c s.heap I.big),rfl,h _ (I.hok.fresh (Nat.le_refl _))⟩
noncomputable abbrev EKF:EK:=fun _ _ _ _=>False
theorem A1u{X:Cx}:V1 X EKF:=fun _ _ _ _ _ _ _ _ _ _ h=>h.elim
structure Def(K:Frag)(mg:Str ->Option Value)(x:Str)(ps:List Str)(st:Stmt)(f:Addr)(fd:FuncData):Prop where
 F:Fun K x x st f fd
 g:mg x=some (.ref f)
 b:V9 K fd ps []
theorem A3n{K:Frag}{h:Heap}{mg:Str ->Option Value}{x:Str}{ps:List Str}{st:Stmt}{f:Addr}{oc:Value}{od an:Option Addr}{osl:Array (Option Value)}{kV doc pm cdv ct:Value}(X:K.In h)(G:h.Ns mainGlobals mg)
   (a:nsIn K mainGlobals x=some (some (.ref f))) (l:K.lookup f=some ⟨oc,od,.func (fnOf x x (U1 st) (J0 st) (A5 st) .none kV doc pm an cdv ct),osl⟩) (c:codeIn K cdv x=true) (k:keepIn K (.ref f)=true)
   (hb:∀(kV doc pm:Value) (an:Option Addr) (cdv ct:Value) (us:List Value),us.length=ps.length ->bindArgs (fnOf x x (U1 st) (J0 st) (A5 st) .none kV doc pm an cdv ct) ⟨us,[]⟩=pure (ps.zip us)):
   Def K mg x ps st f (fnOf x x (U1 st) (J0 st) (A5 st) .none kV doc pm an cdv ct):=
 ⟨A2w (st:=st) l c k,mg_of X G a,(A2w (st:=st) l c k).binds hb⟩
theorem G6{c A B:Prop} [Decidable c] (h:¬c) (b:B):if decide c=true then A else B:=by rw[decide_eq_false h];exact Y1 b
theorem A0c{c A B:Prop} [Decidable c] (h:c) (a:A):if decide c=true then A else B:=by rw[decide_eq_true h];exact Z3 a
theorem U5{c A B:Prop} [Decidable c] (a:c ->A) (b:¬c ->B):if decide c=true then A else B:=by
 by_cases h:c
 . exact A0c h (a h)
 exact G6 h (b h)
noncomputable def G7f (t:TS):TS:=fun D σ H=>∃J:St ->Hp ->Prop,t {D with nx:=J} σ H/\∀σ' H',J σ' H' ->D.nx σ' H'
theorem A8{X:Cx}{st:Stmt}{t:TS}(h:PS X st t):PS X st (G7f t):=by
 intro pins s σ H D I q
 obtain⟨J,q,k⟩:=q
 refine thn (h pins s σ H _ I q) fun f s' z=>?_
 cases f with
 |next=>obtain⟨σ',H',I',y⟩:=z;exact⟨σ',H',I',k _ _ y⟩
 |brk=>exact z
 |cont=>exact z
 |ret u=>exact z
theorem ixs{xs:List Int}{i:Int}(h0:0<=i)(h1:i<xs.length):∃v,v∈xs/\atI (xs.map V.int) i=some (.int v):=by
 obtain⟨j,rfl⟩:=Int.eq_ofNat_of_zero_le h0
 have hj:j<xs.length:=by omega
 exact⟨xs[j],List.getElem_mem hj,V6 (by simp[hj])⟩
theorem ixv{xs:List V}{i:Int}(h0:0<=i)(h1:i<xs.length):∃v,v∈xs/\atI xs i=some v:=by
 obtain⟨j,rfl⟩:=Int.eq_ofNat_of_zero_le h0
 have hj:j<xs.length:=by omega
 exact⟨xs[j],List.getElem_mem hj,V6 (by simp[hj])⟩
theorem B5.upd{H:Hp}{p:Addr}{o:HO}(h:H p=none):B5 H (L2.upd H p o):=fun b u e=>by rw[C9 (D8 e h)];exact e
theorem D3{n:Nat}(h:n<=1000):n<=sizeLine:=Nat.le_of_lt (A0r h)
section
variable{X:Cx}{k j:Nat}{f:Addr}{fd:FuncData}{ps:List Str}{sp:Sp}{EH:EK}{x:Str}{st:Stmt}{p pos:Pos}{e:Expr}{es:List Expr}{t:TA}
theorem V0(D:Def X.K X.mg x ps st f fd)(F:G0 X.prog X.w X.K X.mg X.base (CX1 X.prog X.w) j f fd ps sp)(hr:A0p k X.A)(hx:V1 X EH)(ha:PA X (e::es) t)(hj:j<=k:=by decide)(hg:Gl X x:=by rfl)(hex:X.ex=[]:=by rfl)(hdb:(x==("__debug__":Str))=false:=by decide)
   (he:starEach (e::es) X.env=(false,eval e X.env)::starEach es X.env:=by rfl) (hpl:(backTo pos (starEach es X.env)).any (·.1)=false:=by rfl):PE X (.Call (.Name x p) (e::es) [] pos) (A2u sp [] EH t):=
 D0b (F.mono hj) hr hg D.g D.F.kp D.b .nil hx ha hex hdb he hpl
theorem G1v(D:Def X.K X.mg x ps st f fd)(F:G0 X.prog X.w X.K X.mg X.base (CX1 X.prog X.w) j f fd ps sp)(hr:A0p k X.A)(hx:V1 X EH)(hj:j<=k:=by decide)(hg:Gl X x:=by rfl)(hex:X.ex=[]:=by rfl)(hdb:(x==("__debug__":Str))=false:=by decide):
   PE X (.Call (.Name x p) [] [] pos) (A2u sp [] EH B6m):=
 C6b (F.mono hj) hr hg D.g D.F.kp D.b .nil hx hex hdb
theorem pty{n:Str}{T:String}(hm:X.mg n=none)(hv:bootBuiltins n=some (.type T))(hg:Gl X n:=by rfl)(hn:n≠"__name__":=by decide)(hdb:(n==("__debug__":Str))=false:=by decide):PE X (.Name n pos) (tC (.ty T)):=D7f hg hm hv rfl hn hdb
theorem A4a{n:Str}{C:Addr}(hm:X.mg n=some (.ref C))(hg:Gl X n:=by rfl)(hdb:(n==("__debug__":Str))=false:=by decide):PE X (.Name n pos) (tC (.ref C)):=D8g hg hm rfl hdb
theorem A9j{a b:Expr}{ta tb:TE}(hm:X.mg "isinstance"=none)(ha:PE X a ta)(hb:PE X b tb)(hg:Gl X "isinstance":=by rfl)
   (h1:starEach [a,b] X.env=(false,eval a X.env)::starEach [b] X.env:=by rfl) (h2:starEach [b] X.env=(false,eval b X.env)::starEach [] X.env:=by rfl) (h3:(backTo pos (starEach [b] X.env)).any (·.1)=false:=by rfl):
   PE X (.Call (.Name "isinstance" p) [a,b] [] pos) (tCB (fun xs H Q=>∃x c cv t b,xs=[x,c]/\D6f c=some cv/\TyE X.K H x t/\kitOne X.K t cv=some b/\Q (.bl b) H) (B7t ta (B7t tb B6m))):=
 U8 B8z hg hm boot_isinstance (A0 ha (A0 hb A3 h2) h1) (he:=h1) (hpl:=h3)
theorem A2r{K:Frag}{a b:Expr}{ta tb:TE}(hK:X.K=K)(hm:X.mg "isinstance"=none)(ha:PE X a ta)(hb:PE X b tb)(hg:Gl X "isinstance":=by rfl)
   (h1:starEach [a,b] X.env=(false,eval a X.env)::starEach [b] X.env:=by rfl) (h2:starEach [b] X.env=(false,eval b X.env)::starEach [] X.env:=by rfl) (h3:(backTo pos (starEach [b] X.env)).any (·.1)=false:=by rfl):
   PE X (.Call (.Name "isinstance" p) [a,b] [] pos) (tCB (fun xs H Q=>∃x c cv t b,xs=[x,c]/\D6f c=some cv/\TyE K H x t/\kitOne K t cv=some b/\Q (.bl b) H) (B7t ta (B7t tb B6m))):=by
 subst hK
 exact A9j hm ha hb hg h1 h2 h3
theorem G0x(D:Def X.K X.mg x ps st f fd)(F:B4v X.prog X.w X.K X.mg X.base j f fd ps sp)(hr:Y2 k X.A)(ha:PA X (e::es) t)(hj:j<=k:=by decide)(hg:Gl X x:=by rfl)(hdb:(x==("__debug__":Str))=false:=by decide)
   (he:starEach (e::es) X.env=(false,eval e X.env)::starEach es X.env:=by rfl) (hpl:(backTo pos (starEach es X.env)).any (·.1)=false:=by rfl):PE X (.Call (.Name x p) (e::es) [] pos) (B6k X.A sp t):=
 C9x ⟨F.len,fun A outer s H args us vs Q hr=>F.run A outer s H args us vs Q (hr.mono hj)⟩ hr hg D.g D.F.kp D.b ha hdb he hpl
end
section
variable{X:Cx}{k j:Nat}{f:Addr}{fd:FuncData}{ps:List Str}{sp:Sp}{x:Str}{st:Stmt}{p pos:Pos}{e:Expr}{es:List Expr}{t:TA}
noncomputable def B6s (a:Addr) (sp:Sp) (t:TA):TE:=fun σ H Q=>t σ H fun vs H1=>(∃o u fs,H1 a=some (.frz o u)/\o.data= .fields fs/\fs[2]?=some .none)/\sp vs H1 Q E0
theorem C3p{a:Addr}(hA:X.A.handled=some (.ref a))(D:Def X.K X.mg x ps st f fd)(F:B4v X.prog X.w X.K X.mg X.base j f fd ps sp)(hr:Y2 k X.A)(ha:PA X (e::es) t)(hj:j<=k:=by decide)(hg:Gl X x:=by rfl)(hdb:(x==("__debug__":Str))=false:=by decide)
   (he:starEach (e::es) X.env=(false,eval e X.env)::starEach es X.env:=by rfl) (hpl:(backTo pos (starEach es X.env)).any (·.1)=false:=by rfl):PE X (.Call (.Name x p) (e::es) [] pos) (B6s a sp t):=by
 have z:B6s a sp t=B6k X.A sp t:=by
   funext σ H Q
   unfold B6s B6k
   congr 1
   funext vs H1
   refine propext ⟨fun⟨⟨o,u,fs,h1,h2,h3⟩,q⟩=>⟨.inr ⟨a,o,u,fs,hA,h1,h2,h3⟩,q⟩,fun⟨h,q⟩=>⟨?_,q⟩⟩
   rcases h with h|⟨x,o,u,fs,h0,h1,h2,h3⟩
   . rw[hA] at h;cases h
   . rw[hA] at h0;cases h0;exact⟨o,u,fs,h1,h2,h3⟩
 rw[z]
 exact G0x D F hr ha hj hg hdb he hpl
theorem D8j{K:Frag}(hK:X.K=K)(hu:X.A.units+64<cLine):OpR X (compareOp .NotEq) (G0z K true):=by subst hK;exact C0w hu
end
structure Mk0(K:Frag)(C:Addr):Prop where
 makes:makesIn K C=true
 init:findIn K (.ref C) "__init__"=some (some (.builtin "object.__init__"))
 kp:keepIn K (.ref C)=true
section
variable{X:Cx}{k j:Nat}{f C:Addr}{fd:FuncData}{ps:List Str}{sp:Sp}{dvs:List V}{ds:List Value}{EH:EK}{x m:Str}{p pos apos:Pos}{e o:Expr}{es:List Expr}{ta:TE}{t:TA}
noncomputable def G1m (C:Addr):TE:=fun _ H Q=>∀x dx,H x=none ->H dx=none ->dx≠x ->Q (.ref x) (upd (upd H dx (.own x)) x (.ins C dx []))
theorem D6r{pins:List (Addr×Obj)}{σ:St}{H:Hp}{s:Shared}{Q:VK}(M:Mk0 X.K C)(I:Inv X pins σ H s)(h:G1m C σ H Q):wpAny (model X.prog X.w) X.A (call (.ref C) []) (EP X pins σ Q) X.xe s:=by
 have hq:=h (s.heap.objs.size+1) s.heap.objs.size (I.hok.fresh (Nat.le_succ _)) (I.hok.fresh (Nat.le_refl _)) (Nat.ne_of_lt (Nat.lt_succ_self _))
 have I2:=Inv.made (C:=C) I
 have Y:=makes_of (M:=model X.prog X.w) I.kIn M.makes
 refine wpAny_call (C5h I.kIn M.makes M.init (fun self=>Looks.of_pure (oi_bind self)) ?_)
 have e2:((s.heap.push emptyDict).push (instObj C s.heap.objs.size)).get? (s.heap.objs.size+1)=some (instObj C s.heap.objs.size):=by
   have:=Heap.get?_push_size (s.heap.push emptyDict) (o:=instObj C s.heap.objs.size) rfl
   rwa[Heap.size_push] at this
 have t1:Looks (model X.prog X.w) ((s.heap.push emptyDict).push (instObj C s.heap.objs.size)) (typeOf (.ref (s.heap.objs.size+1))) (.ref C):=(Looks.ld e2).andThen .now
 have t2:Looks (model X.prog X.w) ((s.heap.push emptyDict).push (instObj C s.heap.objs.size)) (isInstance (.ref (s.heap.objs.size+1)) (.type "object")) true:=t1.andThen (Y.top.keeps fun b o e=>Heap.get?_push_of_some _ (Heap.get?_push_of_some _ e))
 refine codeAny_call_builtin oi_plain entry_oi (@check_slot (model X.prog X.w) _ _ _ "object.__init__" "object" "__init__" (.ref (s.heap.objs.size+1)) [] [] _ oi_kind oi_split t2 (oi_args (.ref (s.heap.objs.size+1))) ?_)
 rw[oi_run]
 exact wpAny_pure (And.intro rfl ⟨V.ref (s.heap.objs.size+1),_,I2,rfl,hq⟩)
theorem A5b(M:Mk0 X.K C)(hg:Gl X x)(hm:X.mg x=some (.ref C))(hdb:(x==("__debug__":Str))=false:=by decide):PE X (.Call (.Name x p) [] [] pos) (G1m C):=by
 intro pins s σ H Q I h
 refine wpAny_Call_Name_kw (Z8 I hg hm ?_ hdb)
 exact callWith_K0 I.kIn M.kp (D6r M I h)
noncomputable def B6p (C:Addr) (m:Str) (sp:Sp) (dvs:List V) (EH:EK) (ta:TE) (t:TA):TE:=fun σ H Q=>ta σ H fun x H1=>∃a dx fs,x= .ref a/\H1 a=some (.ins C dx fs)/\fs.lookup m=none/\
 t σ H1 fun vs H2=>sp (x::(vs++dvs)) H2 Q (fun C d H'=>EH C d σ H')
theorem G8f{pl:Sem Bool}(he:PE X o ta)(c:Cls X.K C)(hm:A7s X.K C m f)(F:G0 X.prog X.w X.K X.mg X.base (CX1 X.prog X.w) j f fd ps sp)(hr:A0p k X.A)(hb:V9 X.K fd ps ds)(hd:G7 dvs ds)(hx:V1 X EH)(ha:PA X (e::es) t)
   (hj:j<=k:=by decide) (hex:X.ex=[]:=by rfl)
   (hst:starEach (e::es) X.env=(false,eval e X.env)::starEach es X.env:=by rfl) (hpl:(backTo pos (starEach es X.env)).any (·.1)=false:=by rfl)
   (ht:eval (.Call (.Attribute o m apos) (e::es) [] pos) X.env=(do
     let ov<-eval o X.env
     standAt apos.atName
     let(f,first)<-holding [ov] (getMethod ov m pl)
     callWith pos f first (backTo pos (starEach (e::es) X.env)) (backToKw pos (keywordEach [] X.env))):=by rfl):
   PE X (.Call (.Attribute o m apos) (e::es) [] pos) (B6p C m sp dvs EH ta t):=by
 intro pins s σ H Q I h
 refine methodCall_KW (pl:=pl) (thn (he pins s σ H _ I h) fun u s1 hh_=>?_) ht
 obtain⟨x,H1,I1,rx,a,dx,fs,ex,ea,l,q⟩:=hh_
 subst ex
 obtain rfl:u=Value.ref a:=rx
 refine A2g I1 ea c hm l ?_
 refine callWith_K (first:=[.ref a]) (h₀:=X.base) I.ok.mod.kin hm.kp (thn (ha pos pins s1 σ H1 _ I1 q) fun us s2 ⟨vs,H2,I2,r,q2⟩=>⟨I2.kIn,?_⟩) hst hpl
 exact A9y (us:= .ref a::us) (vs:= .ref a::vs) (F.mono hj) hr hb hd hx hex I2 (.cons rfl r) q2
theorem C0n{pl:Sem Bool}(he:PE X o ta)(c:Cls X.K C)(hm:A7s X.K C m f)(F:G0 X.prog X.w X.K X.mg X.base (CX1 X.prog X.w) j f fd ps sp)(hr:A0p k X.A)(hb:V9 X.K fd ps ds)(hd:G7 dvs ds)(hx:V1 X EH)
   (hj:j<=k:=by decide) (hex:X.ex=[]:=by rfl)
   (ht:eval (.Call (.Attribute o m apos) [] [] pos) X.env=(do
     let ov<-eval o X.env
     standAt apos.atName
     let(f,first)<-holding [ov] (getMethod ov m pl)
     callWith pos f first (backTo pos (starEach [] X.env)) (backToKw pos (keywordEach [] X.env))):=by rfl):
   PE X (.Call (.Attribute o m apos) [] [] pos) (B6p C m sp dvs EH ta B6m):=by
 intro pins s σ H Q I h
 refine methodCall_KW (pl:=pl) (thn (he pins s σ H _ I h) fun u s1 hh_=>?_) ht
 obtain⟨x,H1,I1,rx,a,dx,fs,ex,ea,l,q⟩:=hh_
 subst ex
 obtain rfl:u=Value.ref a:=rx
 refine A2g I1 ea c hm l ?_
 exact callWith_K0 (first:=[.ref a]) I1.kIn hm.kp (A9y (us:=[.ref a]) (vs:=[.ref a]) (F.mono hj) hr hb hd hx hex I1 (.cons rfl .nil) q)
noncomputable def C8g (C:Addr) (sp:Sp) (dvs:List V) (EH:EK) (t:TA):TE:=fun σ H Q=>t σ H fun vs H1=>∀x dx,H1 x=none ->H1 dx=none ->dx≠x ->
 sp (.ref x::(vs++dvs)) (upd (upd H1 dx (.own x)) x (.ins C dx [])) (fun v H2=>v= .non/\Q (.ref x) H2) (fun C d H'=>EH C d σ H')
end
theorem D9g{n:Nat}(h:n<=sizeLine):Builtin.Str.tooLong n=false:=by
 unfold Builtin.Str.tooLong
 exact decide_eq_false (by omega)
section
variable{X:Cx}
end
structure D1k(K:Frag)(x qual:Str)(st:Stmt)(dV:Value)(f:Addr)(fd:FuncData):Prop where
 ex:∃(oc:Value) (od:Option Addr) (kV doc pm:Value) (an:Option Addr) (cdv ct:Value) (osl:Array (Option Value)),
   fd=fnOf x qual (U1 st) (J0 st) (A5 st) dV kV doc pm an cdv ct/\K.lookup f=some ⟨oc,od,.func fd,osl⟩/\codeIn K cdv qual=true
 kp:keepIn K (.ref f)=true
section
variable{P:Program}{w:World}{K:Frag}{mg:Str ->Option Value}{base:Heap}
theorem C2y{x qual:Str}{st:Stmt}{dV:Value}{f:Addr}{oc:Value}{od an:Option Addr}{osl:Array (Option Value)}{kV doc pm cdv ct:Value}(l:K.lookup f=some ⟨oc,od,.func (fnOf x qual (U1 st) (J0 st) (A5 st) dV kV doc pm an cdv ct),osl⟩)
   (c:codeIn K cdv qual=true) (k:keepIn K (.ref f)=true):D1k K x qual st dV f (fnOf x qual (U1 st) (J0 st) (A5 st) dV kV doc pm an cdv ct):=⟨⟨oc,od,kV,doc,pm,an,cdv,ct,osl,rfl,l,c⟩,k⟩
theorem C1c{fd:FuncData}{ps:List Str}{ds:List Value}{T:Addr}{o:Obj}{items:Array Value}{n:Nat}(hd:fd.defaults= .ref T)(ho:K.lookup T=some o)(hs:o.data= .seq items n)
   (h:∀us:List Value,(us++ds).length=ps.length ->∃k,bindArgs fd ⟨us,[]⟩=seqItems? fd.defaults>>=k/\k (some items)=pure (ps.zip (us++ds))):V9 K fd ps ds:=fun s us X hl=>by
 obtain⟨k,h1,h2⟩:=h us hl
 exact binds_K X hd ho hs h1 h2
end
section
variable{X:Cx}{k j:Nat}{f C:Addr}{fd:FuncData}{ps ks:List Str}{sp:Sp}{EH:EK}{x m:Str}{p pos apos:Pos}{e o:Expr}{es:List Expr}{kws:List Keyword}{ta:TE}{t tk:TA}{g:List Value ->List Value ->List Value}{gV:List V ->List V ->List V}
end
section
variable{X:Cx}{K:Frag}{e:Expr}{f:Str}{pos:Pos}{ta:TE}
theorem B7r(h:X.K=K):IxR X (G7g K):=by subst h;exact V2
theorem A6d(h:X.K=K):OpR X (compareOp .In) (rIn K false):=by subst h;exact A8g
theorem A5z(h:X.K=K):OpR X (compareOp .NotIn) (rIn K true):=by subst h;exact A7p
theorem B2y(h:X.K=K):A1b X (.type "list") (fun xs H Q=>∃p ys,xs=[.ref p]/\(SqL K H p ys\/SqT K H p ys)/\∀l,H l=none ->Q (.ref l) (upd H l (.lst ys))):=by subst h;exact A3u
end
end L2
namespace TR
open PySem L2 PySem.W PyProof.Rows
structure Own(mg:Str ->Option Value):Prop where
 isi:mg "isinstance"=none
 int_:mg "int"=none
 bool_:mg "bool"=none
 str_:mg "str"=none
 list_:mg "list"=none
 tuple_:mg "tuple"=none
 dict_:mg "dict"=none
 len_:mg "len"=none
 range_:mg "range"=none
 min_:mg "min"=none
 max_:mg "max"=none
 abs_:mg "abs"=none
 any_:mg "any"=none
 all_:mg "all"=none
 sum_:mg "sum"=none
 repr_:mg "repr"=none
 enumerate_:mg "enumerate"=none
 reversed_:mg "reversed"=none
 zip_:mg "zip"=none
 sorted_:mg "sorted"=none
 divmod_:mg "divmod"=none
 set_:mg "set"=none
 ValueError_:mg "ValueError"=none
structure Kit(K:Frag):Prop where
 int_int:kitOne K (.type "int") (.type "int")=some true
 int_bool:kitOne K (.type "int") (.type "bool")=some false
 int_str:kitOne K (.type "int") (.type "str")=some false
 int_list:kitOne K (.type "int") (.type "list")=some false
 int_tuple:kitOne K (.type "int") (.type "tuple")=some false
 int_dict:kitOne K (.type "int") (.type "dict")=some false
 bool_int:kitOne K (.type "bool") (.type "int")=some true
 bool_bool:kitOne K (.type "bool") (.type "bool")=some true
 bool_str:kitOne K (.type "bool") (.type "str")=some false
 bool_list:kitOne K (.type "bool") (.type "list")=some false
 bool_tuple:kitOne K (.type "bool") (.type "tuple")=some false
 bool_dict:kitOne K (.type "bool") (.type "dict")=some false
 str_int:kitOne K (.type "str") (.type "int")=some false
 str_bool:kitOne K (.type "str") (.type "bool")=some false
 str_str:kitOne K (.type "str") (.type "str")=some true
 str_list:kitOne K (.type "str") (.type "list")=some false
 str_tuple:kitOne K (.type "str") (.type "tuple")=some false
 str_dict:kitOne K (.type "str") (.type "dict")=some false
 list_int:kitOne K (.type "list") (.type "int")=some false
 list_bool:kitOne K (.type "list") (.type "bool")=some false
 list_str:kitOne K (.type "list") (.type "str")=some false
 list_list:kitOne K (.type "list") (.type "list")=some true
 list_tuple:kitOne K (.type "list") (.type "tuple")=some false
 list_dict:kitOne K (.type "list") (.type "dict")=some false
 tuple_int:kitOne K (.type "tuple") (.type "int")=some false
 tuple_bool:kitOne K (.type "tuple") (.type "bool")=some false
 tuple_str:kitOne K (.type "tuple") (.type "str")=some false
 tuple_list:kitOne K (.type "tuple") (.type "list")=some false
 tuple_tuple:kitOne K (.type "tuple") (.type "tuple")=some true
 tuple_dict:kitOne K (.type "tuple") (.type "dict")=some false
 dict_int:kitOne K (.type "dict") (.type "int")=some false
 dict_bool:kitOne K (.type "dict") (.type "bool")=some false
 dict_str:kitOne K (.type "dict") (.type "str")=some false
 dict_list:kitOne K (.type "dict") (.type "list")=some false
 dict_tuple:kitOne K (.type "dict") (.type "tuple")=some false
 dict_dict:kitOne K (.type "dict") (.type "dict")=some true
 NoneType_int:kitOne K (.type "NoneType") (.type "int")=some false
 NoneType_bool:kitOne K (.type "NoneType") (.type "bool")=some false
 NoneType_str:kitOne K (.type "NoneType") (.type "str")=some false
 NoneType_list:kitOne K (.type "NoneType") (.type "list")=some false
 NoneType_tuple:kitOne K (.type "NoneType") (.type "tuple")=some false
 NoneType_dict:kitOne K (.type "NoneType") (.type "dict")=some false
theorem scK{N P:List Str}{sc:Scope}(a:sc.kind= .function:=by rfl)(b:sc.isCoroutine=false:=by rfl)(c:sc.isGenerator=false:=by rfl)(d:N.Nodup:=by decide+kernel)(e:N.take P.length=P:=by rfl)(f:∀x∈P,sc.names.lookup x=some .local\/sc.names.lookup x=some .cell:=by decide+kernel)(g:∀y∈sc.names,y.2≠ .free:=by decide+kernel):B8 N P sc:=⟨a,b,c,d,e,f,g⟩
theorem B4u{K:Frag}{H:Hp}(i:Int):TyE K H (.int i) (.type "int"):= .of (.int i)
theorem G7n{K:Frag}{H:Hp}(b:Bool):TyE K H (.bl b) (.type "bool"):= .of (.bl b)
theorem B4s{K:Frag}{H:Hp}(z:Str):TyE K H (.str z) (.type "str"):= .of (.str z)
theorem G0f{K:Frag}{H:Hp}:TyE K H .non (.type "NoneType"):= .of .non
theorem B8e{K:Frag}{H:Hp}{a:Addr}{xs:List V}(h:H a=some (.lst xs)):TyE K H (.ref a) (.type "list"):= .of (.lst h)
theorem G0m{K:Frag}{H:Hp}{a:Addr}{xs:List V}(h:H a=some (.tup xs)):TyE K H (.ref a) (.type "tuple"):= .of (.tup h)
theorem G6s{K:Frag}{H:Hp}{a:Addr}{xs:List (Key×V)}(h:H a=some (.dK xs)):TyE K H (.ref a) (.type "dict"):= .of (.dK h)
noncomputable def A2s (lo hi:Int) (v:V):Prop:=∃i,v= .int i/\lo<=i/\i<=hi
noncomputable def A4e (K:Frag) (H:Hp) (lo hi:Int) (v:V):Prop:=∃t b1 b2,TyE K H v t/\kitOne K t (.type "int")=some b1/\kitOne K t (.type "bool")=some b2/\((b1&& !b2)=false\/∃i,v= .int i/\(i<lo\/hi<i))
section
variable{K:Frag}{H:Hp}{lo hi:Int}
theorem D7s(T:Kit K){i:Int}(h:i<lo\/hi<i):A4e K H lo hi (.int i):=⟨_,_,_,B4u i,T.int_int,T.int_bool,.inr ⟨i,rfl,h⟩⟩
theorem G3j(T:Kit K)(b:Bool):A4e K H lo hi (.bl b):=⟨_,_,_,G7n b,T.bool_int,T.bool_bool,.inl rfl⟩
theorem D8v(T:Kit K)(z:Str):A4e K H lo hi (.str z):=⟨_,_,_,B4s z,T.str_int,T.str_bool,.inl rfl⟩
theorem D7m(T:Kit K):A4e K H lo hi .non:=⟨_,_,_,G0f,T.NoneType_int,T.NoneType_bool,.inl rfl⟩
theorem D6q(T:Kit K){a:Addr}{xs:List V}(h:H a=some (.lst xs)):A4e K H lo hi (.ref a):=⟨_,_,_,B8e h,T.list_int,T.list_bool,.inl rfl⟩
end
noncomputable def Exc (p:Addr) (H H':Hp):Prop:=∀b o,H b=some o ->b≠p ->H' b=some o
theorem Exc.refl(p:Addr)(H:Hp):Exc p H H:=fun _ _ h _=>h
theorem Exc.trans{p:Addr}{H H1 H2:Hp}(a:Exc p H H1)(b:Exc p H1 H2):Exc p H H2:=fun c o h n=>b c o (a c o h n) n
theorem Exc.upd{p:Addr}{H:Hp}{o:HO}:Exc p H (L2.upd H p o):=fun b u e n=>by rw[C9 n];exact e
theorem Exc.of{p:Addr}{H H':Hp}(s:B5 H H'):Exc p H H':=fun b o h _=>s b o h
noncomputable def Has (P:Program) (w:World) (K:Frag) (mg:Str ->Option Value) (base:Heap) (C:Addr) (m:Str) (k:Nat) (ps:List Str) (sp:Sp):Prop:=∃f fd,A7s K C m f/\G0 P w K mg base (CX1 P w) k f fd ps sp/\V9 K fd ps []
noncomputable def A4f (z:Str) (b:Bool):List Str:=if b then [z] else []
structure G8w(K:Frag)(C C1 C2 C3 C4 C5:Addr)(b1 b2 b3 b4 b5:Bool):Prop where
 k:B3d K C
 h1:kitOne K (.ref C) (.ref C1)=some b1
 h2:kitOne K (.ref C) (.ref C2)=some b2
 h3:kitOne K (.ref C) (.ref C3)=some b3
 h4:kitOne K (.ref C) (.ref C4)=some b4
 h5:kitOne K (.ref C) (.ref C5)=some b5
 hv:kitOne K (.ref C) (.type "ValueError")=some true
theorem J0f{us:List Value}(h:us.length=2):∃a b,us=[a,b]:=by
 obtain⟨a,t,rfl⟩:=List.exists_cons_of_length_eq_add_one h
 obtain⟨b,t,rfl⟩:=List.exists_cons_of_length_eq_add_one (Nat.succ.inj h)
 exact⟨a,b,by rw[List.eq_nil_of_length_eq_zero (Nat.succ.inj (Nat.succ.inj h))]⟩
theorem G1d{us:List Value}(h:us.length=3):∃a b c,us=[a,b,c]:=by
 obtain⟨a,t,rfl⟩:=List.exists_cons_of_length_eq_add_one h
 obtain⟨b,c,e⟩:=J0f (Nat.succ.inj h)
 exact⟨a,b,c,by rw[e]⟩
theorem G6n{us:List Value}(h:us.length=4):∃a b c d,us=[a,b,c,d]:=by
 obtain⟨a,t,rfl⟩:=List.exists_cons_of_length_eq_add_one h
 obtain⟨b,c,d,e⟩:=G1d (Nat.succ.inj h)
 exact⟨a,b,c,d,by rw[e]⟩
theorem J0u{us:List Value}(h:us.length=5):∃a b c d e,us=[a,b,c,d,e]:=by
 obtain⟨a,t,rfl⟩:=List.exists_cons_of_length_eq_add_one h
 obtain⟨b,c,d,e,z⟩:=G6n (Nat.succ.inj h)
 exact⟨a,b,c,d,e,by rw[z]⟩
theorem D8w{us ds:List Value}{n:Nat}(h:(us++ds).length=n):us.length=n-ds.length:=by rw[List.length_append] at h;omega
end TR
namespace L2
open PySem PySem.Spec PyProof.Rows
section
variable{κ:Type} [DecidableEq κ]
noncomputable def A8c (kvs:List (κ×V)) (k:κ):Option V:=(kvs.find? fun kv=>decide (kv.1=k)).map (·.2)
noncomputable def A8a (kvs:List (κ×V)) (k:κ) (v:V):List (κ×V):=
 if(kvs.any fun kv=>decide (kv.1=k))=true then kvs.map (fun kv=>if kv.1=k then(kv.1,v) else kv) else kvs++ [(k,v)]
theorem B1c{p:κ×V}{r:List (κ×V)}{k:κ}(e:p.1=k):A8c (p::r) k=some p.2:=by simp[A8c,List.find?_cons,e]
theorem B2f{p:κ×V}{r:List (κ×V)}{k:κ}(e:¬p.1=k):A8c (p::r) k=A8c r k:=by simp[A8c,List.find?_cons,e]
theorem B8n(k:κ):∀kvs:List (κ×V),(kvs.any fun kv=>decide (kv.1=k))=(A8c kvs k).isSome
 | []=>rfl
 | p::r=>by
   rw[List.any_cons]
   by_cases e:p.1=k
   . simp only[B1c e,decide_eq_true e,Bool.true_or,Option.isSome_some]
   . rw[B2f e,decide_eq_false e,Bool.false_or];exact B8n k r
theorem A9c(kvs:List (κ×V))(k:κ)(v:V):(A8a kvs k v).length<=kvs.length+1:=by
 unfold A8a
 split
 . rw[List.length_map];omega
 rw[List.length_append,List.length_cons,List.length_nil];omega
theorem A4g.isSome_eq{o:Option V}{u:Option Value}(r:A4g o u):o.isSome=u.isSome:=by
 cases o with
 | none=>cases u with
   |none=>rfl
   |some _=>exact(show False from r).elim
 | some _=>cases u with
   |none=>exact(show False from r).elim
   |some _=>rfl
theorem KV.val{kvs:List (κ×V)}{vs:List (κ×Value)}(r:KV kvs vs)(k:κ):A4g (A8c kvs k) (valueAt vs k):=by
 unfold KV at r
 induction r with
 |nil=>exact True.intro
 | @cons p q ps qs h t ih=>
   obtain⟨h1,h2⟩:=h
   by_cases e:p.1=k
   . have e':q.1=k:=h1.symm.trans e
     have b:valueAt (q::qs) k=some q.2:=by simp[valueAt,List.find?_cons,e']
     rw[B1c e,b];exact h2
   . have e':¬q.1=k:=fun z=>e (h1.trans z)
     have b:valueAt (q::qs) k=valueAt qs k:=by simp[valueAt,List.find?_cons,e']
     rw[B2f e,b];exact ih
theorem KV.any{kvs:List (κ×V)}{vs:List (κ×Value)}(r:KV kvs vs)(k:κ):(kvs.any fun kv=>decide (kv.1=k))=vs.any fun kv=>decide (kv.1=k):=by
 unfold KV at r
 induction r with
 |nil=>rfl
 |cons h t ih=>rw[List.any_cons,List.any_cons,ih,h.1]
theorem KV.repl{kvs:List (κ×V)}{vs:List (κ×Value)}(r:KV kvs vs)(k:κ){y:V}{u:Value}(ry:U9 y u):
   KV (kvs.map fun kv=>if kv.1=k then(kv.1,y) else kv) (vs.map fun kv=>if kv.1=k then(kv.1,u) else kv):=by
 unfold KV at r ⊢
 induction r with
 |nil=>exact .nil
 | @cons p q ps qs h t ih=>
   rw[List.map_cons,List.map_cons]
   refine .cons ?_ ih
   obtain⟨h1,h2⟩:=h
   by_cases e:p.1=k
   . rw[if_pos e,if_pos (h1.symm.trans e)];exact⟨h1,ry⟩
   . rw[if_neg e,if_neg (fun z=>e (h1.trans z))];exact⟨h1,h2⟩
theorem KV.put{kvs:List (κ×V)}{vs:List (κ×Value)}(r:KV kvs vs)(k:κ){y:V}{u:Value}(ry:U9 y u):KV (A8a kvs k y) (stored vs k u):=by
 unfold A8a stored
 rw[r.any k]
 by_cases e:(vs.any fun kv=>decide (kv.1=k))=true
 . rw[if_pos e,if_pos e];exact r.repl k ry
 rw[if_neg e,if_neg e];exact Paired.snoc r ⟨rfl,ry⟩
theorem KV.length{kvs:List (κ×V)}{vs:List (κ×Value)}(r:KV kvs vs):kvs.length=vs.length:=Paired.length r
end
theorem C8t{P:Program}{w:World}{k:Key}{u:Value}(r:U9 (kV k) u):(A0g P w).is k u=true:=by
 cases k with
 |inl i=>obtain⟨t,e⟩:=(show∃t,u=Value.int i t from r);subst e;exact B7y P w i t
 |inr x=>obtain⟨t,e⟩:=(show∃t,u=Value.str x t from r);subst e;exact B8q P w x t
theorem B4f{P:Program}{w:World}:∀{ks:List Key} {us:List Value},G7 (ks.map kV) us ->ItemsAre (A0g P w) ks us
 | [],_,r=>by rw[List.map_nil] at r;cases r;exact .nil
 | k::ks,_,r=>by
   rw[List.map_cons] at r
   cases r with
   |cons h t=>exact .cons (C8t h) (B4f t)
noncomputable abbrev KT (H:Hp):List (List Key×V) ->List (List Key×Addr×Value) ->Prop:=Paired fun p q=>p.1=q.1/\H q.2.1=some (.tup (p.1.map kV))/\U9 p.2 q.2.2
theorem KT.val{H:Hp}{kvs:List (List Key×V)}{xs:List (List Key×Addr×Value)}(r:KT H kvs xs)(k:List Key):A4g (A8c kvs k) ((atKey xs k).map (·.2)):=by
 induction r with
 |nil=>exact True.intro
 | @cons p q ps qs h t ih=>
   obtain⟨h1,_,h2⟩:=h
   by_cases e:p.1=k
   . have e':q.1=k:=h1.symm.trans e
     have b:atKey (q::qs) k=some q.2:=by simp[atKey,List.find?_cons,e']
     rw[B1c e,b];exact h2
   . have e':¬q.1=k:=fun z=>e (h1.trans z)
     have b:atKey (q::qs) k=atKey qs k:=by simp[atKey,List.find?_cons,e']
     rw[B2f e,b];exact ih
theorem KT.repl{H:Hp}{kvs:List (List Key×V)}{xs:List (List Key×Addr×Value)}(r:KT H kvs xs)(k:List Key){y:V}{u:Value}(ry:U9 y u):
   KT H (kvs.map fun kv=>if kv.1=k then(kv.1,y) else kv) (xs.map (putAt k u)):=by
 induction r with
 |nil=>exact .nil
 | @cons p q ps qs h t ih=>
   rw[List.map_cons,List.map_cons]
   refine .cons ?_ ih
   obtain⟨h1,h2,h3⟩:=h
   unfold putAt
   by_cases e:p.1=k
   . rw[if_pos e,if_pos (h1.symm.trans e)];exact⟨h1,h2,ry⟩
   . rw[if_neg e,if_neg (fun z=>e (h1.trans z))];exact⟨h1,h2,h3⟩
theorem KT.put{H:Hp}{kvs:List (List Key×V)}{xs:List (List Key×Addr×Value)}(r:KT H kvs xs)(k:List Key){b:Addr}{y:V}{u:Value}(hb:H b=some (.tup (k.map kV)))(ry:U9 y u):
   KT H (A8a kvs k y) (storedH xs k b u):=by
 have e:(kvs.any fun kv=>decide (kv.1=k))=(atKey xs k).isSome:=by
   rw[B8n,(r.val k).isSome_eq,Option.isSome_map]
 unfold A8a storedH
 rw[e]
 by_cases q:(atKey xs k).isSome=true
 . rw[if_pos q,if_pos q];exact r.repl k ry
 rw[if_neg q,if_neg q];exact Paired.snoc r ⟨rfl,hb,ry⟩
theorem KT.keeps{H H':Hp}{kvs:List (List Key×V)}{xs:List (List Key×Addr×Value)}(r:KT H kvs xs)(ht:∀b ys,H b=some (.tup ys) ->H' b=some (.tup ys)):KT H' kvs xs:=
 Paired.mapP r fun _ _ z=>⟨z.1,ht _ _ z.2.1,z.2.2⟩
section
variable{P:Program}{w:World}{H:Hp}{h:Heap}{a:Addr}
theorem G0d{u:HO}(ok:HOk P w H h)(e:Rd H a u):Y9 P w H h a u:=e.ok ok
theorem G0r{kvs:List (Key×V)}(ok:HOk P w H h)(e:Rd H a (.dK kvs)):kvs.length<=sizeLine/\(a==sysModules)=false/\∃vs,KV kvs vs/\h.DictOf (A0g P w) a vs:=
 show Y9 P w H h a (.dK kvs) from G0d ok e
theorem G8m{kvs:List (Key×V)}(ok:HOk P w H h)(e:H a=some (.dK kvs)):kvs.length<=sizeLine/\(a==sysModules)=false/\∃vs,KV kvs vs/\h.DictOf (A0g P w) a vs:=G0r ok (.inl e)
theorem B9q{ks:List Key}(ok:HOk P w H h)(e:H a=some (.tup (ks.map kV))):(tupleKind (A0g P w)).is h ks a:=by
 obtain⟨_,its,r,o,h1,h2,n,h3⟩:=(show Y9 P w H h a (.tup (ks.map kV)) from ok a _ e)
 exact⟨o,its.toArray,n,h1,h2,h3,by simpa using B4f r⟩
theorem G0n{kvs:List (List Key×V)}(ok:HOk P w H h)(e:Rd H a (.dT kvs)):kvs.length<=sizeLine/\(a==sysModules)=false/\
   ∃xs,KT H kvs xs/\h.DictOfH (tupleKind (A0g P w)) a xs:=by
 obtain⟨z,y,xs,r,o,es,ep,h1,h2,h3,h4,h5⟩:=(show Y9 P w H h a (.dT kvs) from G0d ok e)
 refine⟨z,y,xs,r,o,es,ep,h1,h2,h3,h4,fun x hx=>?_,h5⟩
 have all:∀{l:List (List Key×V)} {m:List (List Key×Addr×Value)},KT H l m ->∀x∈m,(tupleKind (A0g P w)).is h x.1 x.2.1:=by
   intro l m q
   induction q with
   |nil=>intro x hx;exact nomatch hx
   | @cons p q ps qs hq t ih=>
     intro x hx
     rcases List.mem_cons.mp hx with e|hx
     . subst e
       exact B9q ok (by rw[<-hq.1];exact hq.2.1)
     . exact ih x hx
 exact all r x hx
theorem G5w{kvs:List (List Key×V)}(ok:HOk P w H h)(e:H a=some (.dT kvs)):kvs.length<=sizeLine/\(a==sysModules)=false/\
   ∃xs,KT H kvs xs/\h.DictOfH (tupleKind (A0g P w)) a xs:=G0n ok (.inl e)
end
noncomputable def C6z (H:Hp) (a:Addr) (y:V) (r:Option V):Prop:=
 (∃kvs k,Rd H a (.dK kvs)/\y=kV k/\r=A8c kvs k)\/∃kvs k b,Rd H a (.dT kvs)/\y= .ref b/\H b=some (.tup (k.map kV))/\r=A8c kvs k
noncomputable def D1g (H:Hp) (a:Addr) (y v:V) (H':Hp):Prop:=
 (∃kvs k,H a=some (.dK kvs)/\y=kV k/\kvs.length<sizeLine/\H'=upd H a (.dK (A8a kvs k v)))\/
 ∃kvs k b,H a=some (.dT kvs)/\y= .ref b/\H b=some (.tup (k.map kV))/\kvs.length<sizeLine/\H'=upd H a (.dT (A8a kvs k v))
theorem C6z.k{H:Hp}{a:Addr}{kvs:List (Key×V)}{k:Key}(e:H a=some (.dK kvs)):C6z H a (kV k) (A8c kvs k):= .inl ⟨kvs,k,.inl e,rfl,rfl⟩
theorem D1g.k{H:Hp}{a:Addr}{kvs:List (Key×V)}{k:Key}{v:V}(e:H a=some (.dK kvs))(hl:kvs.length<sizeLine):D1g H a (kV k) v (upd H a (.dK (A8a kvs k v))):= .inl ⟨kvs,k,e,rfl,hl,rfl⟩
section
variable{X:Cx}{pins:List (Addr×Obj)}{σ:St}{H:Hp}{s:Shared}{a:Addr}{y v:V}{u r:Value}{o:Option V}{A:Around}{E:Value ->Shared ->Prop}
theorem J1p{Q:Value ->Shared ->Prop}(hu:A.units+1<cLine)(I:Inv X pins σ H s)(g:C6z H a y o)(ry:U9 y u)(h:∀s',Inv X pins σ H s' ->Q (.bool o.isSome) s'):
   wpAny (model X.prog X.w) A (compareOp .In u (.ref a)) Q E s:=by
 rcases g with⟨kvs,k,e,ey,l⟩|⟨kvs,k,b,e,ey,eb,l⟩
 . subst ey
   obtain⟨z,hd,vs,rel,dd⟩:=G0r I.hok e
   refine wpAny_in_of (C8t ry) hd dd.mapOf ?_
   rw[<-(rel.val k).isSome_eq, <-l]
   exact h _ (I.tok _)
 subst ey
 cases(show u=Value.ref b from ry)
 obtain⟨z,hd,xs,rel,dd⟩:=G0n I.hok e
 refine wpAny_in_heap (tupleKind_room_in1 hu) (B9q I.hok eb) hd dd ?_
 have q:=(rel.val k).isSome_eq
 rw[Option.isSome_map] at q
 rw[<-q, <-l]
 exact h _ (I.tok _)
theorem C3x{h':Heap}{t':Nat}{ob:HO}(I:Inv X pins σ H s)(mu:Mut (H a))(hs:Heap.SameBut a s.heap h')(he:∃q,h'.get? a=some q)(new:Y9 X.prog X.w (upd H a ob) h' a ob):
   Inv X pins σ (upd H a ob) {s with heap:=h',toks:=t'}:=
 I.write (x:=a) (e:=a) mu (.inl rfl) (fun b q hb z=>(hs.2 b hb).trans z) he new
theorem G1s{P:Program}{w:World}{H':Hp}{h':Heap}{kvs:List (Key×V)}{vs:List (Key×Value)}(z:kvs.length<=sizeLine)(hd:(a==sysModules)=false)(rel:KV kvs vs)(dd:h'.DictOf (A0g P w) a vs):
   Y9 P w H' h' a (.dK kvs):=⟨z,hd,vs,rel,dd⟩
theorem C6e{H':Hp}{Q:Unit ->Shared ->Prop}(hu:A.units+1<cLine)(I:Inv X pins σ H s)(g:D1g H a y v H')(ry:U9 y u)(rv:U9 v r)(h:∀s',Inv X pins σ H' s' ->Q () s'):
   wpAny (model X.prog X.w) A (setItem (.ref a) u r) Q E s:=by
 rcases g with⟨kvs,k,e,ey,l,eH⟩|⟨kvs,k,b,e,ey,eb,l,eH⟩
 . subst ey eH
   obtain⟨z,hd,vs,rel,dd⟩:=G8m I.hok e
   have hz:vs.length<=sizeLine:=by rw[<-rel.length];exact z
   have hl:(A8a kvs k v).length<=sizeLine:=by have:=A9c kvs k v;omega
   refine wpAny_setItem_pairs (hsz:=hz) (C8t ry) dd fun h' dd' hs=>h _ ?_
   have he:∃q,h'.get? a=some q:=let⟨q,_,_,hq,_⟩:=dd';⟨q,hq⟩
   exact C3x I (by rw[e];exact True.intro) hs he (G1s hl hd (rel.put k rv) dd')
 subst ey eH
 cases(show u=Value.ref b from ry)
 obtain⟨z,hd,xs,rel,dd⟩:=G5w I.hok e
 have hz:xs.length<=sizeLine:=by rw[<-Paired.length rel];exact z
 have hl:(A8a kvs k v).length<=sizeLine:=by have:=A9c kvs k v;omega
 refine wpAny_setItem_heap (hsz:=hz) (tupleKind_room_in1 hu) (B9q I.hok eb) dd fun h' dd' hs=>h _ ?_
 obtain⟨q,es,ep,hq,h2,h3,h4,_,h5⟩:=dd'
 refine C3x I (by rw[e];exact True.intro) hs ⟨q,hq⟩ ⟨hl,hd,_,(rel.put k eb rv).keeps fun c ys ec=>?_,q,es,ep,hq,h2,h3,h4,h5⟩
 rw[C9 (U4 ec e (fun z=>nomatch z))]
 exact ec
end
section
variable{X:Cx}{pins:List (Addr×Obj)}{σ:St}{H:Hp}{s:Shared}{a:Addr}{kvs:List (Key×V)}{k:Key}{u:Value}{A:Around}{E:Value ->Shared ->Prop}
end
noncomputable def J1n (ty td:TE):TE:=fun σ H Q=>ty σ H fun y H1=>td σ H1 fun x H2=>∃a o,x= .ref a/\C6z H2 a y o/\Q (.bl o.isSome) H2
noncomputable def G7q (td ty tv:TE):TS:=fun D σ H=>tv σ H fun v H1=>td σ H1 fun x H2=>ty σ H2 fun y H3=>∃a H4,x= .ref a/\D1g H3 a y v H4/\D.nx σ H4
section
variable{X:Cx}{o i e value:Expr}{pos pos' tpos:Pos}{td ty tv:TE}
theorem C9m(hu:X.A.units+1<cLine)(hi:PE X i ty)(ho:PE X o td):PC X .In i o (J1n ty td):=by
 intro pins s σ H Q I h
 refine thn (hi pins s σ H _ I h) fun iv s1 ⟨y,H1,I1,ry,q1⟩=>thn (ho pins s1 σ H1 _ I1 q1) fun u s2 hh_=>?_
 obtain⟨x,H2,I2,rx,a,ov,ex,g,q2⟩:=hh_
 subst ex
 obtain rfl:u=Value.ref a:=rx
 exact J1p hu I2 g ry fun s3 I3=>⟨.bl ov.isSome,H2,I3,rfl,q2⟩
theorem D9j(hu:X.A.units+1<cLine)(ho:PE X o td)(hi:PE X i ty)(hv:PE X value tv)(hs:swapsWith value (some (.Subscript o i pos')) pos.line X.env=pure false):
   PS X (.Assign [.Subscript o i pos'] value pos) (G7q td ty tv):=by
 intro pins s σ H D I h
 refine wpAny_Assign_Subscript (thn (hv pins s σ H _ I h) fun r s1 ⟨v,H1,I1,rv,q1⟩=>thn (ho pins s1 σ H1 _ I1 q1) fun u s2 ⟨x,H2,I2,rx,q2⟩=>thn (hi pins s2 σ H2 _ I2 q2) fun iv s3 hh_=>?_) hs
 obtain⟨y,H3,I3,ry,a,H4,ex,g,q3⟩:=hh_
 subst ex
 obtain rfl:u=Value.ref a:=rx
 exact C6e hu I3 g ry rv fun s4 I4=>⟨σ,H4,I4,q3⟩
end
section
variable{X:Cx}{pos:Pos}
end
end L2
namespace L2
open PySem PySem.Spec PyProof.Rows PySem.W
noncomputable def A1j (F:List Str) (env:Env):List (Str×Addr):=F.map fun x=>(x,(env.cells.lookup x).getD 0)
noncomputable def A3b (js:List Nat) (σ:St):St:=js.map fun j=>(σ[j]?).getD none
noncomputable abbrev Cx.compF (X:Cx) (scope:Scope) (N F:List Str) (C:Addr) (s₀:Shared) (H₀:Hp) (ex:List Addr) (pins:List (Addr×Obj)):Cx:=
 {X with N:=N++F,s₀:=s₀,H₀:=H₀,env:=compEnvC scope (A1j F X.env) C X.env,outer:=X.stack,ex:=ex,fn:=fun _=>false,pn:=pins,xe:=fun _ _=>False}
structure D6(N F:List Str)(js:List Nat)(sc:Scope)(XN:List Str)(env:Env):Prop where
 kind:sc.kind= .function
 cell:∀y∈sc.names,y.2≠ .cell
 loc:∀y∈sc.names,y.2= .local ->sc.names.lookup y.1=some .local
 nd:(N++F).Nodup
 clos:closureFor sc env=pure (A1j F env)
 fr:∀y∈(relabel sc env).names,y.2= .cell\/y.2= .free ->y.1∈F
 at_:∀(k:Nat) (x:Str),F[k]?=some x ->(∃j:Nat,js[k]?=some j/\XN[j]?=some x)/\(∃c,env.cells.lookup x=some c)/\env.kindOf x=some .cell/\(relabel sc env).names.lookup x=some .cell
 jl:js.length=F.length
noncomputable def A8b (n:Nat) (js:List Nat) (wi:TI) (g:TG) (tc:TT) (te:TE):TE:=fun σ H Q=>wi σ H fun J H1=>∀D,H1 D=none ->
 ∃ (m:Nat) (W:Nat ->List V ->Hp ->Prop),W 0 [] (upd H1 D (.lst []))/\∀i ys H2,W i ys H2 ->i<=m/\H2 D=some (.lst ys)/\((J.stop i H2/\Q (.ref D) H2)\/(i<m/\J.go i H2/\∀x H3,J.yld i H2 x H3 ->
   g x (List.replicate n none++A3b js σ) H3 fun σ4 H4=>tc σ4 H4 fun b H5=>if b=true then te σ4 H5 fun y H6=>H6 D=some (.lst ys)/\ys.length<sizeLine/\W (i+1) (ys++ [y]) (upd H6 D (.lst (ys++ [y]))) else W (i+1) ys H5))
noncomputable def B5s (n:Nat) (js:List Nat) (wi:TI) (g:TG) (te:TE):TE:=fun σ H Q=>wi σ H fun J H1=>∀D,H1 D=none ->
 ∃ (m:Nat) (W:Nat ->List V ->Hp ->Prop),W 0 [] (upd H1 D (.lst []))/\∀i ys H2,W i ys H2 ->i<=m/\H2 D=some (.lst ys)/\((J.stop i H2/\Q (.ref D) H2)\/(i<m/\J.go i H2/\∀x H3,J.yld i H2 x H3 ->
   g x (List.replicate n none++A3b js σ) H3 fun σ4 H4=>te σ4 H4 fun y H6=>H6 D=some (.lst ys)/\ys.length<sizeLine/\W (i+1) (ys++ [y]) (upd H6 D (.lst (ys++ [y])))))
theorem G2q{F:List Str}{env:Env}{x:Str}{c:Addr}(h:(A1j F env).lookup x=some c):x∈F/\c=(env.cells.lookup x).getD 0:=by
 have:=PySem.mem_of_lookup h
 obtain⟨y,hy,e⟩:=List.mem_map.mp this
 cases e
 exact⟨hy,rfl⟩
theorem C8u{env:Env}{x:Str}:∀{F:List Str},x∈F ->(A1j F env).lookup x=some ((env.cells.lookup x).getD 0)
 | y ::F,h=>by
   show List.lookup x ((y,(env.cells.lookup y).getD 0)::A1j F env)=_
   by_cases e:x=y
   . subst e;simp[List.lookup]
   . have hb:(x==y)=false:=beq_eq_false_iff_ne.mpr e
     rw[List.lookup_cons,hb]
     exact C8u (by rcases List.mem_cons.mp h with z|z;exact absurd z e;exact z)
section
variable{X:Cx}{N F:List Str}{js:List Nat}{scope:Scope}
theorem D6.sub(S:D6 N F js scope X.N X.env):∀x c,(A1j F X.env).lookup x=some c ->X.env.cells.lookup x=some c:=fun x c z=>by
 obtain⟨hx,rfl⟩:=G2q z
 obtain⟨k,hk⟩:=List.mem_iff_getElem?.mp hx
 obtain⟨_,⟨c,hc⟩,_⟩:=S.at_ k x hk
 rw[hc];rfl
theorem D6.has(S:D6 N F js scope X.N X.env){x:Str}(hx:x∈F):∃c,(A1j F X.env).lookup x=some c/\X.env.cells.lookup x=some c:=
 ⟨_,C8u hx,S.sub _ _ (C8u hx)⟩
theorem A5p{pins:List (Addr×Obj)}{σ:St}{H:Hp}{s:Shared}(S:D6 N F js scope X.N X.env)(I:Inv X pins σ H s){h':Heap}{m:Str ->Option Value}{C:Addr}(hc:∀x c v,X.env.cells.lookup x=some c ->s.heap.IsCell c v ->h'.IsCell c v):
   ∀(i:Nat) (x:Str) (v:V),(N++F)[i]?=some x ->(List.replicate N.length none++A3b js σ)[i]?=some (some v) ->∃u,U9 v u/\G8k (compEnvC scope (A1j F X.env) C X.env) h' m x u:=by
 intro i x v e1 e2
 by_cases hi:i<N.length
 . rw[List.getElem?_append_left (by simpa using hi),List.getElem?_replicate] at e2
   split at e2<;>cases e2
 rw[List.getElem?_append_right (by omega)] at e1
 rw[List.getElem?_append_right (by simp;omega)] at e2
 rw[List.length_replicate] at e2
 obtain⟨⟨j,hj,hx⟩,⟨c,hcc⟩,kx,kr⟩:=S.at_ _ x e1
 unfold A3b at e2
 rw[List.getElem?_map,hj] at e2
 have e2:(σ[j]?).getD none=some v:=Option.some.inj e2
 have e3:σ[j]?=some (some v):=by
   cases q:σ[j]? with
   |none=>rw[q] at e2;cases e2
   |some o=>rw[q] at e2;exact congrArg some e2
 obtain⟨m0,_,hl⟩:=I.loc
 obtain⟨u,r,l⟩:=hl j x v hx e3 (.inr (.inl kx))
 refine⟨u,r,.inr ⟨.inl kr,c,?_,?_⟩⟩
 . obtain⟨c',h1,h2⟩:=S.has (List.mem_of_getElem? e1)
   rw[hcc] at h2
   cases h2
   exact h1
 rcases l with⟨k,_⟩|⟨_,c',h1,h2⟩
 . rw[kx] at k;cases k
 rw[hcc] at h1
 cases h1
 exact hc x c _ hcc h2
theorem B5h(S:D6 N F js scope X.N X.env)(σ:St):(List.replicate N.length none++A3b js σ:St).length=(N++F).length:=by
 unfold A3b
 rw[List.length_append,List.length_replicate,List.length_map,S.jl,List.length_append]
theorem C4s{pins:List (Addr×Obj)}{σ:St}{H:Hp}{s:Shared}{it:Addr}{h':Heap}(S:D6 N F js scope X.N X.env)(I:Inv X pins σ H s)(hf:A0w X pins H it)(hit:∃o,s.heap.get? it=some o)(hnb:X.base.get? it=none)
   (hns:h'.Ns s.heap.objs.size (fun _=>none)) (hsb:∀b o,s.heap.get? b=some o ->h'.get? b=some o) {tk:Nat}:
   Inv (X.compF scope N F s.heap.objs.size s H [it] (X.pn++pins)) [] (List.replicate N.length none++A3b js σ) H {s with heap:=h',toks:=tk}:=by
 obtain⟨f0,f1,f2,f3,f4,f5⟩:=hf
 obtain⟨oi,ei⟩:=hit
 have lt:it<s.heap.objs.size:=Heap.lt_size ei
 have ck:∀c v,s.heap.IsCell c v ->h'.IsCell c v:=fun c v ⟨o,e,d⟩=>⟨o,hsb _ _ e,d⟩
 have inF:∀x,((compEnvC scope (A1j F X.env) s.heap.objs.size X.env).kindOf x=some .cell\/(compEnvC scope (A1j F X.env) s.heap.objs.size X.env).kindOf x=some .free) ->x∈F:=by
   intro x z
   have z:(relabel scope X.env).names.lookup x=some .cell\/(relabel scope X.env).names.lookup x=some .free:=z
   rcases z with z|z
   . exact S.fr _ (PySem.mem_of_lookup z) (.inl rfl)
   . exact S.fr _ (PySem.mem_of_lookup z) (.inr rfl)
 refine⟨⟨I.ok.mod,S.kind,I.ok.glob,I.ok.blt,Nat.le_refl _,fun x y c z z'=>I.ok.inj x y c (S.sub x c z) (S.sub y c z'),fun x z=>?_,fun x c z _=>(nomatch z),I.ok.hd,I.ok.frames,.inl rfl,fun b hb=>?_,I.bs,Nat.le_trans I.ok.bsz I.sz,fun b o e hb=>?_,fun b hb hfs=>?_,I.stack,I.stkFree⟩,
   rfl,I.bare,Un.kept hsb,⟨_,hns,fun i x v e1 e2 e3=>A5p S I (fun x c v _ z=>ck c v z) i x v e1 e2⟩,fun x c z=>?_,I.hok.fresh (Nat.le_refl _),fun x c z=>I.freeC x c (S.sub x c z),fun p hp=>?_,I.hok.kept hsb,B5h S σ⟩
 . obtain⟨c,h1,_⟩:=S.has (inF x z)
   exact⟨c,h1⟩
 . have e:b=it:=by simpa using hb
   subst e
   exact⟨Nat.ne_of_lt lt,fun x c z=>f4 x c (S.sub x c z)⟩
 . have e':b=it:=by simpa using hb
   subst e'
   rw[hnb] at e
   cases e
 . have e':b=it:=by simpa using hb
   subst e'
   rcases List.mem_cons.mp (I.stkSub b hfs) with z|z
   . exact f1 z
   . exact f2 z
 . obtain⟨v,z'⟩:=I.cell x c (S.sub x c z)
   exact⟨v,ck c v z'⟩
 have hp':p∈X.pn++pins:=by simpa using hp
 obtain⟨q1,q2,q3,q4,q5⟩:=I.pin p hp'
 refine⟨hsb _ _ q1,q2,Nat.ne_of_lt (Heap.lt_size q1),fun z=>?_,q5⟩
 rcases List.mem_cons.mp (I.stkSub p.1 z) with z|z
 . exact q3 z
 exact q4 z
theorem C5e{pins pl:List (Addr×Obj)}{σ σ':St}{H H':Hp}{s s':Shared}{it:Addr}(S:D6 N F js scope X.N X.env)(I:Inv X pins σ H s)(hf:A0w X pins H it)(J:Inv (X.compF scope N F s.heap.objs.size s H [it] (X.pn++pins)) pl σ' H' s'):
   Inv (X.compF scope N F s.heap.objs.size s H [it] (X.pn++pins)) [] (List.replicate N.length none++A3b js σ) H' s':=by
 obtain⟨m,hn,_⟩:=J.loc
 refine⟨J.ok,J.os,J.bare,J.base,⟨m,hn,fun i x v e1 e2 e3=>A5p S I (fun x c v z q=>?_) i x v e1 e2⟩,J.cell,J.free,J.freeC,fun p hp=>J.pin p (by
   have hp:p∈(X.pn++pins)++ []:=hp
   rw[List.append_nil] at hp
   exact List.mem_append_left _ hp),J.hok,B5h S σ⟩
 obtain⟨o,e,d⟩:=q
 have ne:c ∉ [it]:=fun w=>hf.2.2.2.2.1 x c z (by simpa using w)
 obtain⟨sl,q⟩:=J.base.any e (I.freeC x c z) ne
 exact⟨_,q,d⟩
theorem B1t{elt target iter c:Expr}{scope:Scope}{pos:Pos}{N F:List Str}{js:List Nat}{wi:TI}{g:TG}{tc:TT}{te:TE}(S:D6 N F js scope X.N X.env)(hd:Y4 X)(hi:PIH X target iter wi)(hex:X.ex=[])
   (hg:∀C s₀ H₀ ex pn,Y4 (X.compF scope N F C s₀ H₀ ex pn) ->PG (X.compF scope N F C s₀ H₀ ex pn) target g)
   (hc:∀C s₀ H₀ ex pn,Y4 (X.compF scope N F C s₀ H₀ ex pn) ->PT (X.compF scope N F C s₀ H₀ ex pn) c tc)
   (he:∀C s₀ H₀ ex pn,Y4 (X.compF scope N F C s₀ H₀ ex pn) ->PE (X.compF scope N F C s₀ H₀ ex pn) elt te)
   {pins:List (Addr×Obj)} {s:Shared} {σ:St} {H:Hp} {Q:VK} {RR:Value ->Env ->Result ->Shared ->Prop} (I:Inv X pins σ H s) (h:(A8b N.length js wi g tc te) σ H Q)
   (hRR:∀(D C:Addr) (s6:Shared) (H5:Hp) (mm:Str ->Option Value),Inv X pins σ H5 s6 ->s6.heap.Ns C mm ->A0w X pins H5 C ->Q (.ref D) H5 ->RR (.ref D) (compEnvC scope (A1j F X.env) C X.env) (.ok .next) s6):
   wpAny (model X.prog X.w) X.A (eval iter X.env) (fun v s1=>wpAny (model X.prog X.w) X.A (pyIter v) (fun itv s2=>wpAny (model X.prog X.w) X.A (newList []) (fun acc s3=>wpAny (model X.prog X.w) X.A (newFunctionEnv scope X.env.globals (A1j F X.env) [] X.env.qual none .none (some X.env)) (fun cenv s4=>
     codeAny (model X.prog X.w) X.A (.compStart (.ListComp elt [⟨target,iter,[c],0⟩] scope pos) 0 itv acc {cenv with scope:=relabel scope X.env}) (RR acc {cenv with scope:=relabel scope X.env}) s4) X.xe s3) X.xe s2) X.xe s1) X.xe s:=by
 refine thn (hi pins s σ H _ I h) fun v s1 h1=>thn h1 fun itv s2 h2=>?_
 obtain⟨it,tn,J,H2,rfl,I2,T,st2,f2,R⟩:=h2
 obtain⟨oi,ei,di⟩:=T.obj _ _ st2
 have hf2:=I2.hok.fresh (Nat.le_refl _)
 refine wpAny_newObj_type ?_
 have I3:Inv X pins σ (upd H2 s2.heap.objs.size (.lst [])) {s2 with heap:=s2.heap.push {cls:= .type "list",dict:=none,data:= .seq ([]:List Value).toArray}}:=Inv.lnew (t':=s2.toks) I2 .nil (Nat.zero_le _)
 refine wpAny_newFunctionEnv S.cell (by intro y hy;simp at hy) (fun h4 hns hsb=>?_) S.kind
 dsimp only at hns hsb ⊢
 generalize hG:s2.heap.push {cls:= .type "list",dict:=none,data:= .seq ([]:List Value).toArray}=G at I3 hns hsb ⊢
 generalize hD:s2.heap.objs.size=D at I3 hf2
 have nD:it≠D:=by rw[<-hD];exact Nat.ne_of_lt (Heap.lt_size ei)
 have eiG:G.get? it=some oi:=by rw[<-hG];exact Heap.get?_push_of_some _ ei
 have kp:∀b o,G.get? b=some o ->h4.get? b=some o:=fun b o e=>hsb.extBut b o (Nat.ne_of_lt (Heap.lt_size e)) (Heap.get?_push_of_some _ e)
 have f3:A0w X pins (upd H2 D (.lst [])) it:=⟨by rw[C9 nD];exact f2.1,f2.2⟩
 have nb:X.base.get? it=none:=by
   cases q:X.base.get? it with
   |none=>rfl
   | some o=>
     have:=(I.ok.bs it o q).1
     rcases f2.2.2.2.1 with z|z
     . rw[hex] at z;simp at z
     . exact absurd (Nat.lt_of_lt_of_le (Heap.lt_size this) z) (Nat.lt_irrefl _)
 have hns':h4.Ns G.objs.size (fun _=>none):=by
   obtain⟨o,es,ep,q1,q2,q3,q4⟩:=hns
   exact⟨o,es,ep,q1,q2,q3,fun x=>by rw[q4];rfl⟩
 have I4:=C4s (tk:=s2.toks+([]:List (Str×Value)).length) S I3 f3 ⟨oi,eiG⟩ nb hns' kp
 have hdc:Y4 (X.compF scope N F G.objs.size {s2 with heap:=G} (upd H2 D (.lst [])) [it] (X.pn++pins)):=by
   rcases hd with z|⟨x,o,u,vs,z,e,d,n⟩
   . exact .inl z
   . refine .inr ⟨x,o,u,vs,z,?_,d,n⟩
     have q:=I2.base.frzs x o u e
     show upd H2 D (.lst []) x=_
     rw[C9 fun w=>by rw[w,hf2] at q;cases q]
     exact q
 obtain⟨m,W,w0,turn⟩:=R D hf2
 have gg:=hg _ _ _ _ _ hdc
 have cc:=hc _ _ _ _ _ hdc
 have ee:=he _ _ _ _ _ hdc
 have fpc:∀{H':Hp} {σ':St} {s':Shared} {pl:List (Addr×Obj)},Inv (X.compF scope N F G.objs.size {s2 with heap:=G} (upd H2 D (.lst [])) [it] (X.pn++pins)) pl σ' H' s' ->H' it=none ->(∀p∈pl,p.1≠it) ->A0w (X.compF scope N F G.objs.size {s2 with heap:=G} (upd H2 D (.lst [])) [it] (X.pn++pins)) pl H' it:=by
   intro H' σ' s' pl J' hn hp
   refine⟨hn,Nat.ne_of_lt (Heap.lt_size eiG),?_,.inl (List.mem_singleton.mpr rfl),(fun x c z=>f2.2.2.2.2.1 x c (S.sub x c z)),fun p hpp=>?_⟩
   . intro z
     rcases List.mem_cons.mp (I.stkSub it z) with z|z
     . exact f2.2.1 z
     . exact f2.2.2.1 z
   . rcases List.mem_append.mp hpp with z|z
     . exact f2.2.2.2.2.2 p z
     . exact hp p z
 have loop:codeAny (model X.prog X.w) X.A (.compLoop (.ListComp elt [⟨target,iter,[c],0⟩] scope pos) 0 (.ref it) (.ref D) (compEnvC scope (A1j F X.env) G.objs.size X.env))
     (RR (.ref D) (compEnvC scope (A1j F X.env) G.objs.size X.env))
     {s2 with heap:=h4,toks:=s2.toks+([]:List (Str×Value)).length}:=by
   refine kct_loop (fun k s'=>∃i ys H',k=m+1-i/\Inv (X.compF scope N F G.objs.size {s2 with heap:=G} (upd H2 D (.lst [])) [it] (X.pn++pins)) [] (List.replicate N.length none++A3b js σ) H' s'/\tn i s'.heap/\H' it=none/\W i ys H') ?_ (m+1)
     ⟨0,[],_,rfl,I4,T.keep _ _ _ st2 fun o e=>kp it o (by rw[<-hG];exact Heap.get?_push_of_some _ e),f3.1,w0⟩
   rintro k s5 ⟨i,ys,H5,rfl,I5,st5,n5,w5⟩
   obtain⟨hi5,hD5,w5⟩:=turn i ys H5 w5
   rcases w5 with⟨stop,q⟩|⟨lt5,go,step⟩
   . refine wpAny_mono (T.done (X.compF scope N F G.objs.size {s2 with heap:=G} (upd H2 D (.lst [])) [it] (X.pn++pins)) rfl rfl rfl hdc i [] s5 _ H5 (fun _ _=>False) I5 (fpc I5 n5 (by simp)) st5 stop) (fun r s6 z=>?_) (fun _ _ z=>z.elim)
     obtain⟨rfl,I6⟩:=z
     obtain⟨mm,hn6,_⟩:=I6.loc
     have B6:=I6.base
     have J6:Inv X pins σ H5 s6:=by
       refine I3.call' (ch:=[it]) I6.os ⟨B6.keep,B6.slot,B6.free,B6.there,B6.tups,B6.frzs,B6.tbls⟩ I6.hok I6.bare (fun b hb=>?_)
       have e:b=it:=by simpa using hb
       subst e
       exact⟨f2.2.2.2.1,f2.2.1,f2.2.2.2.2.1,f2.2.2.2.2.2⟩
     have szG:X.s₀.heap.objs.size<=G.objs.size:=I3.sz
     refine hRR D G.objs.size s6 H5 mm J6 hn6 ⟨I6.free,?_,?_,.inr szG,?_,?_⟩ q
     . exact Nat.ne_of_gt I3.lt
     . intro z
       obtain⟨_,o,ho,_⟩:=I3.funs.mem z
       exact Nat.lt_irrefl _ (Heap.lt_size ho)
     . rintro x c z rfl
       obtain⟨v',o,ho,_⟩:=I3.cell x _ z
       exact Nat.lt_irrefl _ (Heap.lt_size ho)
     . rintro p hp z
       have zz:=(I3.pin p hp).1
       rw[z] at zz
       exact Nat.lt_irrefl _ (Heap.lt_size zz)
   . refine wpAny_mono (T.item (X.compF scope N F G.objs.size {s2 with heap:=G} (upd H2 D (.lst [])) [it] (X.pn++pins)) rfl rfl rfl hdc i [] s5 _ H5 (fun _ _=>False) I5 (fpc I5 n5 (by simp)) st5 go) (fun r s6 z=>?_) (fun _ _ z=>z.elim)
     obtain⟨u,rfl,z⟩:=z
     refine wpAny_mono z (fun _ s7 z=>?_) (fun _ _ z=>z.elim)
     obtain⟨x,I7,rx,yl,st7⟩:=z
     obtain⟨o7,e7,d7⟩:=T.obj _ _ st7
     obtain⟨p0,p1,p2,_⟩:=fpc I7 n5 (by simp)
     have I7':Inv (X.compF scope N F G.objs.size {s2 with heap:=G} (upd H2 D (.lst [])) [it] (X.pn++pins)) [(it,o7)] (List.replicate N.length none++A3b js σ) H5 s7:=I7.pins_of fun p hp=>by
       have e:p=(it,o7):=by simpa using hp
       subst e
       exact⟨e7,p0,p1,p2,d7⟩
     have back:∀{i':Nat} {ys':List V} {H':Hp} {σ':St} {s':Shared},i'=i+1 ->Inv (X.compF scope N F G.objs.size {s2 with heap:=G} (upd H2 D (.lst [])) [it] (X.pn++pins)) [(it,o7)] σ' H' s' ->W i' ys' H' ->
         ∃k',k'<m+1-i/\∃i ys H',k'=m+1-i/\Inv (X.compF scope N F G.objs.size {s2 with heap:=G} (upd H2 D (.lst [])) [it] (X.pn++pins)) [] (List.replicate N.length none++A3b js σ) H' s'/\tn i s'.heap/\H' it=none/\W i ys H':=by
       rintro i' ys' H' σ' s' rfl J' w'
       obtain⟨q1,q2,_⟩:=J'.pin (it,o7) (List.mem_append_right _ (List.mem_singleton.mpr rfl))
       refine⟨m+1-(i+1),by omega,i+1,ys',H',rfl,C5e S I3 f3 J',T.keep _ _ _ st7 fun o z=>?_,q2,w'⟩
       rw[e7] at z
       cases z
       exact q1
     refine wpAny_mono (gg [(it,o7)] s7 _ H5 x u _ I7' rx (step x H5 yl)) (fun _ s8 z=>?_) (fun _ _ z=>z.elim)
     obtain⟨σ8,H8,I8,q8⟩:=z
     refine wpAny_mono (cc [(it,o7)] s8 σ8 H8 _ I8 q8) (fun b s9 z=>?_) (fun _ _ z=>z.elim)
     obtain⟨H9,I9,q9⟩:=z
     cases b with
     | false=>
       simp only[Bool.false_eq_true,if_false] at q9 ⊢
       exact back rfl I9 q9
     | true=>
       simp only[if_true] at q9 ⊢
       refine wpAny_mono (ee [(it,o7)] s9 σ8 H9 _ I9 q9) (fun y s10 z=>?_) (fun _ _ z=>z.elim)
       obtain⟨yv,H10,I10,ry,hD10,hz10,w10⟩:=z
       refine wpAny_mono (A5g (X:=X.compF scope N F G.objs.size {s2 with heap:=G} (upd H2 D (.lst [])) [it] (X.pn++pins)) [(it,o7)] s10 σ8 H10 (.ref D) [yv] (.ref D) [y] (fun _ H11=>W (i+1) (ys++ [yv]) H11) I10 rfl (.cons ry .nil) ⟨D,ys,yv,rfl,rfl,hD10,hz10,w10⟩) (fun _ s11 z=>?_) (fun _ _ z=>z.elim)
       obtain⟨_,H11,I11,_,w11⟩:=z
       exact back rfl I11 w11
 exact codeAny_compStart_list loop (T.self _ 0 _ _ _ (T.keep _ _ _ st2 fun o e=>kp it o (by rw[<-hG];exact Heap.get?_push_of_some _ e)) loop)
theorem B7n{elt target iter:Expr}{c:Expr}{tc:TT}{pos:Pos}{wi:TI}{g:TG}{te:TE}(S:D6 N F js scope X.N X.env)(hd:Y4 X)(hi:PIH X target iter wi)(hex:X.ex=[])
   (hg:∀C s₀ H₀ ex pn,Y4 (X.compF scope N F C s₀ H₀ ex pn) ->PG (X.compF scope N F C s₀ H₀ ex pn) target g)
   (hc:∀C s₀ H₀ ex pn,Y4 (X.compF scope N F C s₀ H₀ ex pn) ->PT (X.compF scope N F C s₀ H₀ ex pn) c tc)
   (he:∀C s₀ H₀ ex pn,Y4 (X.compF scope N F C s₀ H₀ ex pn) ->PE (X.compF scope N F C s₀ H₀ ex pn) elt te)
   (hs:∀x,foldedSetIterable iter X.env x=pure x:=by intro _;rfl):PE X (.ListComp elt [⟨target,iter,[c],0⟩] scope pos) (A8b N.length js wi g tc te):=by
 intro pins s σ H Q I h
 rw[eval_ListComp]
 refine wpAny_comprehension_free (use:=none) rfl hs S.clos S.kind S.loc (B1t S hd hi hex hg hc he I h (RR:=fun acc ce r s'=>compPost (model X.prog X.w) X.A X.xe none (EP X pins σ Q) acc ce.locals r s') ?_)
 intro D C s6 H5 mm I6 n6 f6 q
 exact⟨mm,n6,fun h' sb=>⟨.ref D,H5,B3t I6 f6 sb,rfl,q⟩⟩
theorem C9p{i:Nat}{y:Str}{py spos:Pos}{elt target iter:Expr}{c:Expr}{tc:TT}{pos:Pos}{wi:TI}{g:TG}{te:TE}(S:D6 N F js scope X.N X.env)(hd:Y4 X)(hi:PIH X target iter wi)(hex:X.ex=[])
   (hg:∀C s₀ H₀ ex pn,Y4 (X.compF scope N F C s₀ H₀ ex pn) ->PG (X.compF scope N F C s₀ H₀ ex pn) target g)
   (hc:∀C s₀ H₀ ex pn,Y4 (X.compF scope N F C s₀ H₀ ex pn) ->PT (X.compF scope N F C s₀ H₀ ex pn) c tc)
   (he:∀C s₀ H₀ ex pn,Y4 (X.compF scope N F C s₀ H₀ ex pn) ->PE (X.compF scope N F C s₀ H₀ ex pn) elt te) (hN:X.N.Nodup) (hi':X.N[i]?=some y) (hy:Loc X.env.scope y)
   (hf:X.fn y=true\/X.env.scope.names.lookup y=some .local:=by first|exact .inl rfl|exact .inr rfl|assumption)
   (hsw:swapsWith (.ListComp elt [⟨target,iter,[c],0⟩] scope pos) (some (.Name y py)) spos.line X.env=pure true:=by rfl)
   (hs:∀x,foldedSetIterable iter X.env x=pure x:=by intro _;rfl):PS X (.Assign [.Name y py] (.ListComp elt [⟨target,iter,[c],0⟩] scope pos) spos) (D9p (A8b N.length js wi g tc te) (B8s i)):=by
 intro pins s σ H D I h
 rw[exec_Assign_Name_used _ _ _ _ hsw]
 refine wpAny_bind (wpAny_standAt (wpAny_bind ?_))
 show wpAny _ X.A (do let _<-comprehension (.ListComp elt [⟨target,iter,[c],0⟩] scope pos) scope X.env _ (newList []) false (eval iter X.env) (some (assign (.Name y py) X.env))) _ _ s
 refine wpAny_bind (wpAny_mono (wpAny_comprehension_free (Q:=fun _ s'=>SP X pins D .next s') rfl hs S.clos S.kind S.loc (B1t S hd hi hex hg hc he I h (RR:=fun acc ce r s'=>compPost (model X.prog X.w) X.A X.xe (some (assign (.Name y py) X.env)) (fun _ s'=>SP X pins D .next s') acc ce.locals r s') ?_))
   (fun _ s' hq=>wpAny_pure (wpAny_pure hq)) fun _ _ e=>e)
 intro D' C s6 H5 mm I6 n6 f6 q
 refine wpAny_assign_Name (A8e (v:= .ref D') I6 hN hi' hy rfl (fun s7 I7 st=>?_) hf)
 obtain⟨a,sb,ha⟩:=st
 have na:C≠a:=by
   rcases ha with rfl|ha
   . exact f6.2.1
   . exact(f6.2.2.2.2.1 y a ha).symm
 exact⟨mm,n6.sameBut sb na,fun h' sb'=>⟨_,_,B3t I7 f6 sb',q⟩⟩
end
structure D1j(N F:List Str)(sc:Scope):Prop where
 kind:sc.kind= .function
 cell:∀y∈sc.names,y.2≠ .cell
 loc:∀y∈sc.names,y.2= .local ->sc.names.lookup y.1=some .local
 fr:∀y∈sc.names,y.2= .free ->y.1∈F
 nd:(N++F).Nodup
theorem A6a{sc:Scope}{env:Env}{F:List Str}(cell:∀y∈sc.names,y.2≠ .cell)(fr:∀y∈sc.names,y.2= .free ->y.1∈F):∀y∈(relabel sc env).names,y.2= .cell\/y.2= .free ->y.1∈F:=by
 intro y hy h
 obtain⟨⟨n,k⟩,hm,e⟩:=List.mem_map.mp hy
 dsimp only at e
 split at e
 . rename_i hc
   subst e
   simp only[Bool.and_eq_true] at hc
   exact fr (n,k) hm (by simpa using hc.1.1)
 subst e
 rcases h with h|h
 . exact absurd h (cell (n,k) hm)
 exact fr (n,k) hm h
theorem D6.of1{N:List Str}{x:Str}{j:Nat}{sc:Scope}{XN:List Str}{env:Env}(S:D1j N [x] sc)(clos:closureFor sc env=pure (A1j [x] env))(hj:XN[j]?=some x)(hc:∃c,env.cells.lookup x=some c)(hk:env.kindOf x=some .cell)
   (hr:(relabel sc env).names.lookup x=some .cell):D6 N [x] [j] sc XN env:=
 ⟨S.kind,S.cell,S.loc,S.nd,clos,A6a S.cell S.fr,fun k y h=>match k,h with
   |0,h=>by cases h;exact⟨⟨j,rfl,hj⟩,hc,hk,hr⟩
   |k+1,h=>by simp at h,rfl⟩
theorem D6.of2{N:List Str}{x y:Str}{j k:Nat}{sc:Scope}{XN:List Str}{env:Env}(S:D1j N [x,y] sc)(clos:closureFor sc env=pure (A1j [x,y] env))(hj:XN[j]?=some x)(hc:∃c,env.cells.lookup x=some c)(hk:env.kindOf x=some .cell)
   (hr:(relabel sc env).names.lookup x=some .cell) (hj':XN[k]?=some y) (hc':∃c,env.cells.lookup y=some c) (hk':env.kindOf y=some .cell) (hr':(relabel sc env).names.lookup y=some .cell):D6 N [x,y] [j,k] sc XN env:=
 ⟨S.kind,S.cell,S.loc,S.nd,clos,A6a S.cell S.fr,fun i z h=>match i,h with
   |0,h=>by cases h;exact⟨⟨j,rfl,hj⟩,hc,hk,hr⟩
   |1,h=>by cases h;exact⟨⟨k,rfl,hj'⟩,hc',hk',hr'⟩
   |i+2,h=>by simp at h,rfl⟩
theorem A1y(z:Str):∀zs:List Str,inV (.str z) (zs.map V.str)=zs.contains z
 | []=>rfl
 | y::zs=>by
   show(eqV (.str y) (.str z)||inV (.str z) (zs.map V.str))=_
   rw[A1y z zs,List.contains_cons]
   show((y==z)||_)=_
   rw[BEq.comm]
theorem A0z:∀zs:List Str,(zs.map V.str).all A6t=true
 | []=>rfl
 |_::zs=>A0z zs
theorem A6s{K:Frag}{H:Hp}{σ σf:L2.St}{a:Addr}{zs:List Str}{f:Str ->Bool}{tc:TT}{te:TE}{Q:VK}(hl:∀H,SqT K H a (zs.map V.str))(hz:zs.length<=100)
   (ht:∀(z:Str) (H':Hp) (Qb:Bool ->Hp ->Prop),B5 H H' ->Qb (f z) H' ->tc (some (.str z)::σf) H' Qb) (he:∀(z:Str) (H':Hp) (Qv:VK),Qv (.str z) H' ->te (some (.str z)::σf) H' Qv)
   (k:∀D H',B5 H H' ->H D=none ->H' D=some (.lst ((zs.filter f).map V.str)) ->Q (.ref D) H') {js:List Nat} (hj:A3b js σ=σf):A8b 1 js (G2m K (tC (.ref a))) (B8s 0) tc te σ H Q:=by
 refine⟨a,rfl,⟨_,hl H⟩,fun D hD=>⟨zs.length,fun i ys H2=>i<=zs.length/\ys=((zs.take i).filter f).map V.str/\H2=upd H D (.lst ys),⟨Nat.zero_le _,rfl,rfl⟩,?_⟩⟩
 rintro i ys H2 ⟨hi,rfl,rfl⟩
 refine⟨hi,A6,?_⟩
 have sm:B5 H (upd H D (.lst (((zs.take i).filter f).map V.str))):=B5.upd hD
 have lz:(((zs.take i).filter f).map V.str).length<=100:=by
   rw[List.length_map]
   exact Nat.le_trans (List.length_filter_le _ _) (by rw[List.length_take];omega)
 by_cases hlt:i<zs.length
 . refine .inr ⟨hlt,⟨_,V.str zs[i],hl _,by simp[hlt]⟩,fun x H3 y=>?_⟩
   obtain⟨rfl,y⟩:=y
   have ex:x=V.str zs[i]:=by
     have:=y _ (hl _)
     simp[hlt] at this
     exact this.symm
   subst ex
   rw[hj]
   show tc (some (.str zs[i])::σf) _ _
   refine ht _ _ _ sm ?_
   have et:(zs.take (i+1)).filter f=(zs.take i).filter f++(if f zs[i] then [zs[i]] else []):=by
     rw[List.take_succ_eq_append_getElem hlt,List.filter_append]
     congr 1
     cases hb:f zs[i]<;>simp[hb]
   cases hb:f zs[i] with
   | false=>
     refine Y1 ⟨hlt,?_,rfl⟩
     rw[et,hb];simp
   | true=>
     refine Z3 (he _ _ _ ⟨A6,Nat.lt_of_le_of_lt lz (A0r (by decide)),hlt,?_,?_⟩)
     . rw[et,hb];simp
     . rw[D7j]
 have e:i=zs.length:=by omega
 subst e
 refine .inl ⟨⟨_,hl _,by simp⟩,k D _ sm hD ?_⟩
 rw[List.take_length]
 exact A6
end L2
namespace L2
open PySem
section
variable{prog:Program}{w:World}{A:Around}{E:Value ->Shared ->Prop}{h:Heap}{g:Array GenState}{d:Drawn}{t:Nat}{os:OsState}
variable{nm q:Str}{C N:Addr}{bs bm bmB:List Value}{hdct:Bool}{sn:List Str}{sub:List Value}{ab:Bool}{col:Option Bool}{dd:Option Addr}{k0 k1 k2 k3 k5:Option Value}{B newId initId:String}
theorem A5t(F:ExcBaseFacts B newId initId bmB)(T:OwnTail h bmB bm){mN:Str ->Option Value}{rest:List Value}{fI:Addr}{oI:Obj}{Q:Fin ->Shared ->Prop}
   (hC:h.get? C=some (excClassObj nm q C N bs bm hdct sn sub ab col dd k0 k1 k2 k3 k5 newId)) (hn:h.Ns N mN) (hi:mN "__init__"=some (.ref fI))
   (hfI:h.get? fI=some oI) (hfc:oI.cls= .type "function")
   (hq:∀h' e,Heap.MadeExcOf h h' e (.ref C) rest ->
     wpAny (model prog w) A (call (.ref fI) (.ref e::rest)) (fun r s'=>r= .none/\Q (.done (.ret (.ref e))) s') E ⟨h',g,d,t,os⟩) (hrest:rest.length<=sizeLine):
   wpAny (model prog w) A (Builtin.«type.__call__» ⟨.ref C :: rest, []⟩) Q E ⟨h, g, d, t, os⟩ := by
 repeat (first|with_reducible refine wpAny_loadPart_at hC ?_|with_reducible refine wpAny_madeBy_exc hC ?_|wp_step)
 refine codeAny_call_builtin_code (Code.quiet_builtin _ F.quiet) (wpAny_check_new_subT F T hC ?_)
 refine codeAny_exc_new_subT F T hC ?_ hrest
 show wpAny _ _ _ _ _ _
 have hC₁:=Heap.get?_push_of_some {cls:= .ref C,data:= .fields #[.ref h.objs.size,.none,.none,.none,.bool false,.none]}
   (Heap.get?_push_of_some {cls:= .type "tuple",data:= .seq rest.toArray} hC)
 have hfI₁:=Heap.get?_push_of_some {cls:= .ref C,data:= .fields #[.ref h.objs.size,.none,.none,.none,.bool false,.none]}
   (Heap.get?_push_of_some {cls:= .type "tuple",data:= .seq rest.toArray} hfI)
 have hn₁:((h.push {cls:= .type "tuple",data:= .seq rest.toArray}).push {cls:= .ref C,data:= .fields #[.ref h.objs.size,.none,.none,.none,.bool false,.none]}).Ns N mN:=
   let⟨o,es,ep,e,r⟩:=hn;⟨o,es,ep,Heap.get?_push_of_some _ (Heap.get?_push_of_some _ e),r⟩
 have hget:((h.push {cls:= .type "tuple",data:= .seq rest.toArray}).push
     {cls:= .ref C,data:= .fields #[.ref h.objs.size,.none,.none,.none,.bool false,.none]}).get? (h.objs.size+1)=some
     {cls:= .ref C,data:= .fields #[.ref h.objs.size,.none,.none,.none,.bool false,.none]}:=by heap_get
 have hcC:(Value.ref C::bm).contains (.ref C)=true:=by simp
 have T₁:=T.keeps (h':=(h.push {cls:= .type "tuple",data:= .seq rest.toArray}).push {cls:= .ref C,data:= .fields #[.ref h.objs.size,.none,.none,.none,.bool false,.none]})
   fun b o e=>Heap.get?_push_of_some _ (Heap.get?_push_of_some _ e)
 unfold isInstance
 repeat (first|with_reducible refine wpAny_loadPart_at hget ?_|(with_reducible refine wpAny_isSubtype_exc hC₁ ?_;rw[hcC])|wp_step)
 show wpAny _ _ (typeLookup (.ref C) _) _ _ _
 refine wpAny_typeLookup_tail hC₁ hn₁ T₁ F.mroIs F.init.lookup ?_
 rw[hi]
 refine wpAny_holding (wpAny_bind ?_)
 unfold bindSpecial
 refine wpAny_bind (wpAny_typeOf (T:="function") ⟨_,hfI₁,hfc⟩ ?_)
 rw[if_pos (by decide)]
 refine wpAny_pure (wpAny_bind (wpAny_mono (hq _ (h.objs.size+1) ⟨fun b o hb=>Heap.get?_push_of_some _ (Heap.get?_push_of_some _ hb),Heap.get?_none_of_le (Nat.le_succ _),h.objs.size,hget,Heap.get?_none_of_le (Nat.le_refl _),?_⟩) (fun r s' hr=>?_) fun _ _ x=>x))
 . exact Heap.get?_push_of_some _ (Heap.get?_push_at rfl rfl)
 obtain⟨rfl,hQ⟩:=hr
 wp_walk
 exact hQ
theorem B2m(F:ExcBaseFacts B newId initId bmB)(T:OwnTail h bmB bm){mN:Str ->Option Value}{rest:List Value}{fI:Addr}{oI:Obj}{Q:Value ->Shared ->Prop}
   (hC:h.get? C=some (excClassObj nm q C N bs bm hdct sn sub ab col dd k0 k1 k2 k3 k5 newId)) (hn:h.Ns N mN) (hi:mN "__init__"=some (.ref fI))
   (hfI:h.get? fI=some oI) (hfc:oI.cls= .type "function")
   (hq:∀h' e,Heap.MadeExcOf h h' e (.ref C) rest ->
     wpAny (model prog w) (A.under (.builtin "type.__call__" ⟨.ref C::rest,[]⟩)) (call (.ref fI) (.ref e::rest)) (fun r s'=>r= .none/\Q (.ref e) s') E ⟨h',g,d,t,os⟩) (hrest:rest.length<=sizeLine):
   wpAny (model prog w) A (call (.ref C) rest) Q E ⟨h,g,d,t,os⟩:=by
 have f1:=tc_lookup
 have f2:=tc_bind (.ref C)
 have hT:(⟨h,g,d,t,os⟩:Shared).TypeIs (.ref C) "type":=⟨_,hC,rfl⟩
 refine wpAny_call (codeAny_of_tree ?_)
 show wpAny _ _ (callAny (.ref C) _) _ _ _
 repeat (any_goals (first|assumption|with_reducible refine wpAny_loadPart_at hC ?_|wp_step))
 refine⟨rfl,?_⟩
 refine codeAny_call_builtin_at (Code.quiet_builtin _ (by decide+kernel)) entry_typeCall (wpAny_check_type_call_sub hC (A5t (hrest:=hrest) F T hC hn hi hfI hfc fun h' e hm=>?_))
 exact hq h' e hm
end
section
variable{M:Model}{prog:Program}{w:World}{A:Around}{E:Value ->Shared ->Prop}{s:Shared}{env:Env}
variable{nm q:Str}{C N:Addr}{bs bm bmB:List Value}{hdct:Bool}{sn:List Str}{sub:List Value}{ab:Bool}{col:Option Bool}{dd:Option Addr}{k0 k1 k2 k3 k5:Option Value}{B newId initId:String}
theorem A4x{x:Sem Value}{Q:Flow ->Shared ->Prop}(hbase:bm.contains (.type "BaseException")=true)(hh:A.handled=none)
   (h:wpAny M A x (fun v s₁=>∃e t de,v= .ref e/\s₁.heap.get? C=some (excClassObj nm q C N bs bm hdct sn sub ab col dd k0 k1 k2 k3 k5 newId)/\
     s₁.heap.get? e=some {cls:= .ref C,dict:=de,data:= .fields #[.ref t,.none,.none,.none,.bool false,.none]}/\E (.ref e) s₁) E s):
   wpAny M A (raiseStmt env (some x) none) Q E s:=by
 have hcB:(Value.ref C::bm).contains (.type "BaseException")=true:=by rw[List.contains_cons,hbase,Bool.or_true]
 unfold raiseStmt
 refine wpAny_bind (wpAny_mono h (fun v s₁ h₁=>?_) fun _ _ x=>x)
 obtain⟨e,t,de,rfl,hC,he,hE⟩:=h₁
 obtain⟨hp,g,d,tk,os⟩:=s₁
 repeat (first|with_reducible refine wpAny_loadPart_at he ?_|with_reducible refine wpAny_loadPart_at hC ?_|(with_reducible refine wpAny_isSubtype_exc hC ?_;rw[hcB])|wp_step)
 exact wpAny_raiseNew_none hh hE
theorem A7x(F:ExcBaseFacts B newId initId bmB){mN:Str ->Option Value}{x:Str}{np cpos pos:Pos}{args:List Expr}{Q:Flow ->Shared ->Prop}{fI:Addr}{oI:Obj}
   (hbase:bm.contains (.type "BaseException")=true) (hh:A.handled=none) (hplain:(backTo cpos (starEach args env)).any (·.1)=false) (hi:mN "__init__"=some (.ref fI)) (hfc:oI.cls= .type "function")
   (h:wpAny (model prog w) A (eval (.Name x np) env) (fun f s₁=>f= .ref C/\wpAny (model prog w) A (evalArgs (.ref C) true (backTo cpos (starEach args env)) [])
     (fun a s₂=>a.kw=[]/\a.pos.length<=sizeLine/\s₂.heap.get? C=some (excClassObj nm q C N bs bm hdct sn sub ab col dd k0 k1 k2 k3 k5 newId)/\s₂.heap.Ns N mN/\OwnTail s₂.heap bmB bm/\s₂.heap.get? fI=some oI/\
       ∀ h' e,Heap.MadeExcOf s₂.heap h' e (.ref C) a.pos ->wpAny (model prog w) (A.under (.builtin "type.__call__" ⟨.ref C::a.pos,[]⟩)) (call (.ref fI) (.ref e::a.pos))
         (fun r s₃=>r= .none/\s₃.heap.get? C=some (excClassObj nm q C N bs bm hdct sn sub ab col dd k0 k1 k2 k3 k5 newId)/\(∃t de,s₃.heap.get? e=some {cls:= .ref C,dict:=de,data:= .fields #[.ref t,.none,.none,.none,.bool false,.none]})/\E (.ref e) s₃) E {s₂ with heap:=h'}) E s₁) E s):
   wpAny (model prog w) A (exec (.Raise (some (.Call (.Name x np) args [] cpos)) none pos) env) Q E s:=by
 rw[arm_exec_Raise]
 first
   |refine wpAny_bind (wpAny_standAt (A4x (C:=C) (nm:=nm) (q:=q) (N:=N) (bs:=bs) (bm:=bm) (hdct:=hdct) (sn:=sn) (sub:=sub) (ab:=ab) (col:=col) (dd:=dd) (k0:=k0) (k1:=k1) (k2:=k2) (k3:=k3) (k5:=k5) (newId:=newId) hbase hh (wpAny_bind (wpAny_mono (wpAny_Call_ofName (wpAny_mono h (fun f s₁ h₁=>?_) fun _ _ x=>x)) (fun v s₃ h₃=>wpAny_bind (wpAny_standAt (wpAny_pure h₃))) fun _ _ x=>x))))
   |(simp only[evalOpt,Option.map];refine wpAny_bind (wpAny_standAt (A4x (C:=C) (nm:=nm) (q:=q) (N:=N) (bs:=bs) (bm:=bm) (hdct:=hdct) (sn:=sn) (sub:=sub) (ab:=ab) (col:=col) (dd:=dd) (k0:=k0) (k1:=k1) (k2:=k2) (k3:=k3) (k5:=k5) (newId:=newId) hbase hh (wpAny_bind (wpAny_mono (wpAny_Call_ofName (wpAny_mono h (fun f s₁ h₁=>?_) fun _ _ x=>x)) (fun v s₃ h₃=>wpAny_bind (wpAny_standAt (wpAny_pure h₃))) fun _ _ x=>x)))))
 obtain⟨rfl,h₁⟩:=h₁
 unfold callWith
 refine wpAny_bind (wpAny_holding (wpAny_mono h₁ (fun a s₂ h₂=>wpAny_bind (wpAny_standAt ?_)) fun _ _ x=>x))
 obtain⟨apos,akw⟩:=a
 obtain⟨hkw,hlen,hC,hn,T,hf,h₂⟩:=h₂
 obtain rfl:akw=[]:=hkw
 obtain⟨hp,g,d,tk,os⟩:=s₂
 simp only[hplain]
 refine wpAny_bind (wpAny_keeperOf_exc hC ?_)
 refine wpAny_bind (B2m F T hC hn hi hf hfc (fun h' e hm=>wpAny_mono (h₂ h' e hm) (fun r s₃ z=>⟨z.1,wpAny_bind (wpAny_holding (wpAny_point (wpAny_pure ?_)))⟩) fun _ _ x=>x) hlen)
 obtain⟨_,hC3,⟨t,de,he⟩,hE⟩:=z
 exact⟨e,t,de,rfl,hC3,he,hE⟩
end
end L2
namespace L2
open PySem PySem.Spec PyProof.Rows PySem.W
noncomputable abbrev C2r:List Value:=[.type "ValueError",.type "Exception",.type "BaseException",.type "object"]
structure C1u(K:Frag)(C fI:Addr):Prop where
 cls:∃nm q N bs bm sn sub ab col dd k0 k1 k2 k3 k5,K.lookup C=some (excClassObj nm q C N bs bm true sn sub ab col dd k0 k1 k2 k3 k5 "ValueError.__new__")/\nsOkIn K N=true/\nsIn K N "__init__"=some (some (.ref fI))/\tailIn K C2r bm=true
 fn:∃o,K.lookup fI=some o/\o.cls= .type "function"
 sa:findIn K (.ref C) "__setattr__"=some (some (.builtin "object.__setattr__"))
 ob:mroIn K C (.type "object")=some true
theorem C1p{K:Frag}{h:Heap}{N:Addr}{mg:Str ->Option Value}{n:Str}{v:Value}(X:K.In h)(G:h.Ns N mg)(e:nsIn K N n=some (some v)):mg n=some v:=by
 obtain⟨o,es,ep,ho,hd,_,hf⟩:=G
 unfold nsIn at e
 split at e
 . rename_i c d es' n' sl q
   have:=X _ _ q
   rw[ho] at this
   cases this
   cases hd
   split at e
   . rename_i en he
     cases e
     rw[<-hf]
     unfold nsFind findBy
     rw[<-Array.find?_toList,he]
     rfl
   . split at e<;>cases e
 cases e
theorem A9g{h:Heap}(self:Value):∀{l:List Value},OwnTail h C2r l ->refuseLoop self "__setattr__" l=pure ()
 |_,.base=>PySem.F.store_ValueError.passes self
 |_,.own _ _ _ t=>by rw[refuseLoop_ref];exact A9g self t
section
variable{prog:Program}{w:World}{A:Around}{s:Shared}{K:Frag}{C e fI:Addr}{t:Addr}{R:Result ->Shared ->Prop}{name:Str}{tk:Tok}{v:Value}
theorem D9r(X:K.In s.heap)(F:C1u K C fI)(he:s.heap.get? e=some (Z2 (.ref C) t none .none))(ht:findIn K (.ref C) name=some none)
   (h:∀h' tk' d,(∀b ob,b≠e ->s.heap.get? b=some ob ->h'.get? b=some ob) ->h'.get? e=some (Z2 (.ref C) t (some d) .none) ->h'.Ns1 d (fun y=>if y=name then some v else none) ->s.heap.get? d=none ->d≠e ->
     R (.ok (.ret .none)) {s with heap:=h',toks:=tk'}):
   codeAny (model prog w) A (.call (.builtin "object.__setattr__") ⟨[.ref e,.str name tk,v],[]⟩) R s:=by
 have SF:=PySem.F.store_object
 obtain⟨nm,q,N,bs,bm,sn,sub,ab,col,dd,k0,k1,k2,k3,k5,lC,nO,nI,tl⟩:=F.cls
 have hC:=X _ _ lC
 have I:PySem.W.InstAt s.heap e (Z2 (.ref C) t none .none) C none:=⟨he,rfl,rfl,trivial⟩
 have hc:clsIn K C=some {name:=nm,bases:=bs,mro:= .ref C::bm,ns:=N,qualname:=q,hasDict:=true,slotNames:=sn,subclasses:=sub,abstract:=ab,collection:=col,hasDel:=false}:=by
   unfold clsIn
   rw[lC]
 have sub':Looks (model prog w) s.heap (isInstance (.ref e) (.type "object")) true:=I.type.andThen (looks_mroIn X F.ob)
 refine codeAny_call_builtin SF.slot.plain SF.entry (@check_slot (model prog w) _ _ s "object.__setattr__" "object" "__setattr__" (.ref e) [.str name tk,v] [] _ SF.kind SF.split sub' (SF.args (.ref e) (.str name tk) v) ?_)
 have hm:Looks (model prog w) s.heap (mroOf (.ref C)) (.ref C::bm):=(looks_clsIn X hc).andThen .now
 have L3:Looks (model prog w) s.heap (Builtin.ObjectAttr.storeTaker? none) none:= .now
 rw[osa_eq,refuse_eq]
 refine wpAny_bind (wpAny_bind (I.type.here (wpAny_bind (hm.here ?_))))
 rw[refuseLoop_ref,A9g _ (tail_of_in X tl)]
 refine wpAny_pure (wpAny_bind (I.type.here (wpAny_bind ((looks_findIn X ht).here (wpAny_bind (L3.here ?_))))))
 dsimp only
 refine wpAny_bind (wpAny_pure (wpAny_bind (wpAny_bind (wpAny_loadPart he (wpAny_bind (PySem.W.Looks.here (PySem.W.looks_clsIn X hc) ?_))))))
 have hx₁:(s.heap.push {cls:= .type "dict",data:= .dict #[]}).get? e=some (Z2 (.ref C) t none .none):=Heap.get?_push_of_some _ he
 have hxs:e≠s.heap.objs.size:=Nat.ne_of_lt (Heap.lt_size he)
 show wpAny (model prog w) A.in1 (do
     let d<-alloc {cls:=Value.type "dict",data:=Data.dict #[]}
     update e fun o=>{cls:=o.cls,dict:=some d,data:=o.data,slots:=o.slots}
     pure (some d)) _ _ _
 refine wpAny_bind (wpAny_alloc' ?_)
 refine wpAny_bind (wpAny_update' hx₁ ?_)
 refine wpAny_pure ?_
 have hgd:((s.heap.push {cls:= .type "dict",data:= .dict #[]}).update e fun o=>{cls:=o.cls,dict:=some s.heap.objs.size,data:=o.data,slots:=o.slots}).get? s.heap.objs.size
     =some {cls:= .type "dict",data:= .dict #[]}:=
   (Heap.get?_update_ne _ _ _ _ hxs.symm).trans (Heap.get?_push_at rfl rfl)
 have hnd:((s.heap.push {cls:= .type "dict",data:= .dict #[]}).update e fun o=>{cls:=o.cls,dict:=some s.heap.objs.size,data:=o.data,slots:=o.slots}).Ns s.heap.objs.size (fun _=>none):=
   ⟨_, #[],_,hgd,rfl,fun e he=>absurd he (by simp),fun _=>rfl⟩
 show wpAny _ _ (Builtin.ObjectAttr.storeInDict s.heap.objs.size (.str name tk) name v) _ _ _
 unfold Builtin.ObjectAttr.storeInDict Builtin.ObjectAttr.newKeyGuard
 refine wpAny_bind (wpAny_pure (wpAny_bind (wpAny_nsSet1 (Heap.Ns1.of_empty hnd) fun h' hn' hs=>?_)))
 obtain⟨oD,esD,epD,hoD,hdD,hcD⟩:=hn'.count (Within.cons name v Within.nil)
 refine wpAny_bind (wpAny_lookBehind hoD (by rw[hdD];exact pastItsLine_dict (Nat.le_trans hcD (by rw[List.length_cons,List.length_nil,sizeLine_eq];omega))) ?_)
 have hx':h'.get? e=some (Z2 (.ref C) t (some s.heap.objs.size) .none):=(hs.2 e hxs).trans (Heap.get?_update_self _ hx₁ rfl)
 refine wpAny_pure (h h' _ s.heap.objs.size (fun b ob hbx hb=>?_) hx' hn' (Heap.get?_none_of_le (Nat.le_refl _)) hxs.symm)
 exact(hs.2 b (Nat.ne_of_lt (Heap.lt_size hb))).trans ((Heap.get?_update_ne _ _ _ _ hbx).trans (Heap.get?_push_of_some _ hb))
end
noncomputable def A2q (e C t:Addr) (d:Option Addr):Heap ->Prop:=fun h=>h.get? e=some (Z2 (.ref C) t d .none)
theorem C8y{P:Program}{w:World}{H:Hp}{h:Heap}{e C t:Addr}{d:Option Addr}(q:h.get? e=some (Z2 (.ref C) t d .none)):Y9 P w H h e (.ext (A2q e C t d)):=
 ⟨q,⟨_,q⟩,fun _ _ z k=>k _ z⟩
section
variable{X:Cx}{pins:List (Addr×Obj)}{σ:St}{H:Hp}{s:Shared}
theorem Inv.trackO{a:Addr}{ho:HO}(I:Inv X pins σ H s)(n:Nw X pins H a)(ok:Y9 X.prog X.w (upd H a ho) s.heap a ho):Inv X pins σ (upd H a ho) s:=by
 have ne:∀b u,H b=some u ->b≠a:=fun b u z q=>by rw[q,n.un] at z;cases z
 have up:∀b,b≠a ->upd H a ho b=H b:=fun b hb=>C9 hb
 refine⟨I.ok,I.os,I.bare,⟨I.base.keep,I.base.slot,fun b u z m hx=>?_,I.base.there,fun b xs z=>?_,fun b u v z=>?_,fun b ps z=>?_⟩,I.loc,I.cell,?_,fun x c z=>?_,fun p hp=>?_,fun b u z=>?_,I.len⟩
 . rw[up b fun q=>by rw[q,n.old] at z;cases z]
   exact I.base.free b u z m hx
 . have:=I.base.tups b xs z
   rw[up b (ne b _ this)];exact this
 . have:=I.base.frzs b u v z
   rw[up b (ne b _ this)];exact this
 . obtain⟨more,this⟩:=I.base.tbls b ps z
   exact⟨more,by rw[up b (ne b _ this)];exact this⟩
 . rw[up _ (Ne.symm n.loc)];exact I.free
 . rw[up _ (n.cell x c z)];exact I.freeC x c z
 . obtain⟨q1,q2,q3⟩:=I.pin p hp
   exact⟨q1,by rw[up _ (n.pin p hp)];exact q2,q3⟩
 by_cases hb:b=a
 . subst hb
   rw[A6] at z
   cases z
   exact ok
 rw[up b hb] at z
 exact(I.hok b u z).stay (fun _ _ _ q=>q) (fun c q=>by rw[up c (ne c _ q)];exact q) (fun c xs q=>by rw[up c (ne c _ q)];exact q)
noncomputable def rem (H:Hp) (a:Addr):Hp:=fun b=>if b=a then none else H b
theorem B1f{a:Addr}:rem H a a=none:=by unfold rem;rw[if_pos rfl]
theorem A3m{a b:Addr}(h:b≠a):rem H a b=H b:=by unfold rem;rw[if_neg h]
theorem Inv.forget{a:Addr}{φ:Heap ->Prop}(I:Inv X pins σ H s)(e:H a=some (.ext φ)):Inv X pins σ (rem H a) s:=by
 have ne:∀b u,H b=some u ->(∀φ,u≠ .ext φ) ->b≠a:=fun b u z q w=>by rw[w,e] at z;cases z;exact q _ rfl
 have non:∀b,H b=none ->rem H a b=none:=fun b z=>by
   by_cases q:b=a
   . rw[q];exact B1f
   . rw[A3m q];exact z
 refine⟨I.ok,I.os,I.bare,⟨I.base.keep,I.base.slot,fun b u z m hx=>non b (I.base.free b u z m hx),I.base.there,fun b xs z=>?_,fun b u v z=>?_,fun b ps z=>?_⟩,I.loc,I.cell,non _ I.free,fun x c z=>non _ (I.freeC x c z),fun p hp=>?_,fun b u z=>?_,I.len⟩
 . have:=I.base.tups b xs z
   rw[A3m (ne b _ this (fun _ q=>nomatch q))];exact this
 . have:=I.base.frzs b u v z
   rw[A3m (ne b _ this (fun _ q=>nomatch q))];exact this
 . obtain⟨more,this⟩:=I.base.tbls b ps z
   exact⟨more,by rw[A3m (ne b _ this (fun _ q=>nomatch q))];exact this⟩
 . obtain⟨q1,q2,q3⟩:=I.pin p hp
   exact⟨q1,non _ q2,q3⟩
 have hb:b≠a:=fun q=>by rw[q,B1f] at z;cases z
 rw[A3m hb] at z
 exact(I.hok b u z).stay (fun _ _ _ q=>q) (fun c q=>by rw[A3m (ne c _ q (fun _ w=>nomatch w))];exact q) (fun c xs q=>by rw[A3m (ne c _ q (fun _ w=>nomatch w))];exact q)
end
noncomputable def G8s (C:Addr) (ta tv:TE) (f:Str):TS:=fun D σ H=>tv σ H fun y H1=>ta σ H1 fun x H2=>∃e t,x= .ref e/\H2 e=some (.ext (A2q e C t none))/\
 ∀d,H2 d=none ->d≠e ->D.nx σ (upd (upd H2 e (.ext (A2q e C t (some d)))) d (.xd [(f,y)]))
section
variable{X:Cx}{o value:Expr}{f:Str}{pos pos':Pos}{ta tv:TE}{C fI:Addr}
theorem D9n(F:C1u X.K C fI)(hf:findIn X.K (.ref C) f=some none)(ha:PE X o ta)(hv:PE X value tv)(hs:swapsWith value (some (.Attribute o f pos')) pos.line X.env=pure false)(hex:X.ex=[]:=by rfl):
   PS X (.Assign [.Attribute o f pos'] value pos) (G8s C ta tv f):=by
 intro pins s σ H D I h
 refine plainObj_wpAny_Assign_Attribute (thn (hv pins s σ H _ I h) fun u s1 ⟨y,H1,I1,ry,q⟩=>thn (ha pins s1 σ H1 _ I1 q) fun ov s2 hh_=>?_) hs
 obtain⟨x,H2,I2,rx,e,t,ex,ea,q2⟩:=hh_
 subst ex
 obtain rfl:ov=Value.ref e:=rx
 have he:s2.heap.get? e=some (Z2 (.ref C) t none .none):=(I2.hok e _ ea).1
 refine set_plain I2.kIn (⟨he,rfl,rfl,trivial⟩:PySem.W.InstAt s2.heap e (Z2 (.ref C) t none .none) C none) F.sa (D9r (s:={s2 with toks:=s2.toks+1}) I2.kIn F he hf fun h' tk' d k1 k2 k3 k4 k5=>?_)
 have nd:H2 d=none:=I2.hok.new k4
 have I3:Inv X pins σ (upd H2 e (.ext (A2q e C t (some d)))) {s2 with heap:=h',toks:=tk'}:=
   I2.write (x:=e) (e:=e) (by rw[ea];exact trivial) (.inl rfl) (fun b u hb z=>k1 b u hb z) ⟨_,k2⟩ (C8y k2)
 have nw:Nw X pins (upd H2 e (.ext (A2q e C t (some d)))) d:=I2.nw hex k4 (by rw[C9 k5];exact nd)
 refine⟨σ,_,I3.trackO (ho:= .xd [(f,y)]) nw ⟨_,k3,fun g=>?_⟩,q2 d nd k5⟩
 show A4g (List.lookup g [(f,y)]) (if g=f then some u else none)
 by_cases z:g=f
 . rw[if_pos z,z]
   have:List.lookup f [(f,y)]=some y:=by simp[List.lookup]
   rw[this];exact ry
 rw[if_neg z]
 have:List.lookup g [(f,y)]=none:=by
   have hb:(g==f)=false:=beq_eq_false_iff_ne.mpr z
   simp[List.lookup,hb]
 rw[this];exact trivial
end
noncomputable def B0k (C:Addr) (f:Str):Sp:=fun vs H Q _=>∃e t v,vs=[.ref e,v]/\H e=some (.ext (A2q e C t none))/\∀d,H d=none ->d≠e ->Q .non (upd (upd H e (.ext (A2q e C t (some d)))) d (.xd [(f,v)]))
noncomputable def C2p (C:Addr) (f:Str) (EH:EK) (t:TA):TS:=fun _ σ H=>t σ H fun vs H1=>∃v,vs=[v]/\∀d H2,B5 H1 H2 ->H1 d=none ->H2 d=some (.xd [(f,v)]) ->EH (.ref C) (some d) σ H2
section
variable{X:Cx}{x f:Str}{p cpos pos:Pos}{e:Expr}{t:TA}{C fI:Addr}{fdI:FuncData}{ps:List Str}{EH:EK}{j k:Nat}
theorem C6j(hm:X.mg x=some (.ref C))(F:C1u X.K C fI)(G:G0 X.prog X.w X.K X.mg X.base CX0 j fI fdI ps (B0k C f))(bI:V9 X.K fdI ps [])(hr:A0p k X.A)(hx:V1 X EH)(ha:PA X [e] t)(hj:j+1<=k:=by decide)(hg:Gl X x:=by rfl)(hex:X.ex=[]:=by rfl)
   (hdb:(x==("__debug__":Str))=false:=by decide) (he:starEach [e] X.env=(false,eval e X.env)::starEach [] X.env:=by rfl) (hpl:(backTo cpos (starEach [] X.env)).any (·.1)=false:=by rfl):
   PS X (.Raise (some (.Call (.Name x p) [e] [] cpos)) none pos) (C2p C f EH t):=by
 intro pins s σ H D I h
 obtain⟨nm,q,N,bs,bm,sn,sub,ab,col,dd,k0,k1,k2,k3,k5,lC,nO,nI,tl⟩:=F.cls
 obtain⟨oI,lI,cI⟩:=F.fn
 have T0:OwnTail X.base C2r bm:=tail_of_in I.ok.mod.kin tl
 have hN0:X.base.Ns N (X.base.nsMap N):= .of_isNs (isNs_of_in I.ok.mod.kin nO)
 have hi0:X.base.nsMap N "__init__"=some (.ref fI):=C1p I.ok.mod.kin hN0 nI
 refine A7x (C:=C) (nm:=nm) (q:=q) (N:=N) (bs:=bs) (bm:=bm) (hdct:=true) (sn:=sn) (sub:=sub) (ab:=ab) (col:=col) (dd:=dd) (k0:=k0) (k1:=k1) (k2:=k2) (k3:=k3) (k5:=k5) (oI:=oI) PySem.F.excBase_ValueError (mN:=X.base.nsMap N) (T0.hasType PySem.F.excBase_ValueError.hasBase) hr.hd
   (by rw[he];show(false||(backTo cpos (starEach [] X.env)).any (·.1))=false;rw[hpl];rfl) hi0 cI (Z8 I hg hm ⟨rfl,?_⟩ hdb)
 have ha':=ha cpos pins s σ H _ I h
 rw[he] at ha' ⊢
 refine Calls.evalArgs_plain (wpAny_mono ha' (fun us s2 hh_=>?_) fun _ _ y=>y)
 obtain⟨vs,H1,I1,r,v,ev,z⟩:=hh_
 subst ev
 obtain⟨u,rfl,ru⟩:=r.one
 refine⟨rfl,D3 (by show 1<=1000;decide),I1.kIn _ _ lC,hN0.keeps I1.bk,T0.keeps I1.bk,I1.kIn _ _ lI,fun h' a m=>?_⟩
 obtain⟨t',e1,tn,e2⟩:=m.there
 have I2:Inv X pins σ H1 {s2 with heap:=h'}:=I1.kept (t':=s2.toks) m.keeps
 have na:H1 a=none:=I1.hok.new m.new
 have I3:=I2.trackO (ho:= .ext (A2q a C t' none)) (I1.nw hex m.new na) (C8y e1)
 have sp0:B0k C f [.ref a,v] (upd H1 a (.ext (A2q a C t' none))) (fun v0 H'=>v0= .non/\∃d,H1 d=none/\d≠a/\H'=upd (upd (upd H1 a (.ext (A2q a C t' none))) a (.ext (A2q a C t' (some d)))) d (.xd [(f,v)])) E0:=
   ⟨a,t',v,rfl,A6,fun d nd nda=>⟨rfl,d,by rw[C9 nda] at nd;exact nd,nda,rfl⟩⟩
 have rr:G7 [.ref a,v] [.ref a,u]:= .cons rfl (.cons ru .nil)
 have hl:([Value.ref a,u]++ []).length=ps.length:=by
   have:=G.len _ _ _ _ sp0
   rw[<-this];rfl
 refine wpAny_call (codeAny_mono (G.run _ X.stack _ _ ⟨[.ref a,u],[]⟩ ([.ref a,u]++ []) [.ref a,v] _ E0 ((hr.mono hj).make C [u] []) (I3.env0.make C [u] []) (bI _ [.ref a,u] I3.kIn hl) rr sp0) fun r s' hq=>?_)
 cases r with
 |error e=>exact hq.elim
 | ok fl=>
   cases fl with
   | ret u0=>
     obtain⟨v0,H',I4,rv,ev,d,nd,nda,eH⟩:=I3.after hq
     subst ev eH
     have ea:(upd (upd (upd H1 a (.ext (A2q a C t' none))) a (.ext (A2q a C t' (some d)))) d (.xd [(f,v)])) a=some (.ext (A2q a C t' (some d))):=by
       rw[C9 (Ne.symm nda),A6]
     have g1:s'.heap.get? a=some (Z2 (.ref C) t' (some d) .none):=(I4.hok a _ ea).1
     refine⟨rv,I4.kIn _ _ lC,⟨t',some d,g1⟩,?_⟩
     refine hx pins σ _ s' a t' (.ref C) (some d) (I4.forget ea) ⟨I1.nw hex m.new B1f,.none,g1,.inl rfl,fun T z=>nomatch z⟩ (z d _ (fun b ob q=>?_) nd ?_)
     . have nb:b≠a:=D8 q na
       have nbd:b≠d:=D8 q nd
       rw[A3m nb,C9 nbd,C9 nb,C9 nb]
       exact q
     . rw[A3m nda,A6]
   |next=>exact hq.elim
   |brk=>exact hq.elim
   |cont=>exact hq.elim
end
theorem D0a{prog:Program}{w:World}{A:Around}{E:Value ->Shared ->Prop}{s:Shared}{K:Frag}{a C:Addr}{oa:Obj}{od:Option Obj}{name:Str}{v:Value}{b:Bool}{Q:Value ->Shared ->Prop}(F:B3d K C)(X:K.In s.heap)(I:PySem.W.InstAt s.heap a oa C od)
   (hf:findObj K C od name=some (.value v)) (hh:handedIn v=true) (h:Q v {s with toks:=s.toks+1}):wpAny (model prog w) A (getAttr (.ref a) name b) Q E s:=by
 obtain⟨hp,g,d,t,os⟩:=s
 have L0:=I.type (M:=model prog w)
 have L1:=looks_findIn (M:=model prog w) X F.ga
 have L2:=looks_findIn (M:=model prog w) X F.gh
 have L3:Looks (model prog w) hp (isInstance (.ref a) (.type "BaseException")) true:=L0.andThen (looks_subIn X F.be)
 have L4:=looks_find (M:=model prog w) X I hf
 have hk:builtinKind "BaseException.__getattribute__"=some .slot:=by decide+kernel
 have hsplit:splitId "BaseException.__getattribute__"=some ("BaseException","__getattribute__"):=by decide+kernel
 have hargs:=PySem.F.args_bexc_ga (.ref a) (.str name t)
 have hb:=PySem.F.attr_ValueError.ga.bind (.ref a)
 unfold getAttr getAttrBy
 refine wpAny_bind (wpAny_mkText (wpAny_holding (wpAny_bind (L0.at (wpAny_bind (L1.at ?_))))))
 dsimp only
 rw[if_neg (show¬((onTheHeap (Value.ref C)&&Value.builtin "BaseException.__getattribute__"==Value.builtin "object.__getattribute__")=true) by
   rw[show(Value.builtin "BaseException.__getattribute__"==Value.builtin "object.__getattribute__")=false by decide+kernel,Bool.and_false];exact Bool.false_ne_true)]
 unfold getAttrByItsOwn
 refine wpAny_bind (m:=hookBefore (.ref C)) (L2.at ?_)
 refine wpAny_bind (wpAny_attempt (wpAny_holding ?_))
 unfold callGetattribute
 rw[if_neg (show¬((b&&onTheHeap (Value.builtin "BaseException.__getattribute__"))=true) by
   rw[show onTheHeap (Value.builtin "BaseException.__getattribute__")=false from rfl,Bool.and_false];exact Bool.false_ne_true)]
 unfold boundAndCalled
 rw[hb]
 refine wpAny_bind (wpAny_pure ?_)
 refine wpAny_call (codeAny_call_builtin PySem.F.attr_ValueError.ga.plain PySem.F.entry_bexc_ga ?_)
 have chk:∀{A':Around} {Q':Unit ->Shared ->Prop} {E':Value ->Shared ->Prop},Q' () ⟨hp,g,d,t+1,os⟩ ->wpAny (model prog w) A' (checkBuiltinCall "BaseException.__getattribute__" ⟨[.ref a,.str name t],[]⟩) Q' E' ⟨hp,g,d,t+1,os⟩:=by
   intro A' Q' E' hq
   simp only[checkBuiltinCall,hk,hsplit]
   refine wpAny_bind ?_
   refine L3.at ?_
   repeat (first|assumption|wp_step)
 refine chk ?_
 show wpAny _ _ (Builtin.«object.__getattribute__» ⟨[.ref a, .str name t], []⟩) _ _ _
 unfold Builtin.«object.__getattribute__»
 refine wpAny_bind (wpAny_pure ?_)
 refine wpAny_bind (wpAny_pure ?_)
 refine wpAny_bind (L0.at (wpAny_bind (L4.at ?_)))
 dsimp only
 refine wpAny_pure ?_
 exact handed_on hh h
noncomputable def G0p (K:Frag) (ta:TE) (f:Str):TE:=fun σ H Q=>ta σ H fun x H1=>∃a C t T d u fs v,x= .ref a/\H1 a=some (.frz (Z2 (.ref C) t (some d) T) u)/\H1 d=some (.xd fs)/\B3d K C/\(∃cd,clsIn K C=some cd/\cd.hasDict=true)/\findIn K (.ref C) f=some none/\fs.lookup f=some v/\Q v H1
section
variable{X:Cx}{e:Expr}{f:Str}{pos:Pos}{ta:TE}
theorem D7n(he:PE X e ta)(hb:attributeBase e f X.env (eval e X.env)=eval e X.env):PE X (.Attribute e f pos) (G0p X.K ta f):=by
 intro pins s σ H Q I h
 refine C3m hb (thn (he pins s σ H _ I h) fun u s1 hh_=>?_)
 obtain⟨x,H1,I1,rx,a,C,t,T,d,u0,fs,v,ex,ea,hd,k,⟨cd,hc,hD⟩,hn,l,q⟩:=hh_
 subst ex
 obtain rfl:u=Value.ref a:=rx
 have o1:s1.heap.get? a=some (Z2 (.ref C) t (some d) T):=(I1.hok a _ ea).1
 obtain⟨mA,nA,rA⟩:=(show∃mA,s1.heap.Ns1 d mA/\∀f,A4g (fs.lookup f) (mA f) from I1.hok d _ hd)
 obtain⟨od,o2,lk⟩:=A7w nA
 obtain⟨uv,hu,ru⟩:=A4g.some_of (v:=v) (o:=mA f) (by rw[<-l];exact rA f)
 have J:PySem.W.InstAt s1.heap a (Z2 (.ref C) t (some d) T) C (some od):=⟨o1,rfl,rfl,o2⟩
 have hf:findObj X.K C (some od) f=some (.value uv):=by
   unfold findObj
   rw[hc,Option.bind_some,hn,Option.bind_some]
   show((PySem.W.ownOf cd (some od) f).bind _)=_
   unfold PySem.W.ownOf
   rw[hD,if_pos rfl]
   show((lookIn f od).bind _)=_
   rw[lk f,hu]
   rfl
 exact D0a k I1.kIn J hf (B3w ru) ⟨v,H1,I1.tok _,ru,q⟩
end
noncomputable def A4w (z:Str) (n:Int):Str:=if n<1 then Str.empty else if(n==1||z.length==0)=true then z else⟨(List.replicate n.toNat z.cps).foldl (· ++ ·) #[]⟩
noncomputable def G1b:R2:=fun x y H Q=>∃z n,x= .str z/\y= .int n/\ -(2^63)<=n/\n<2^63/\z.length*n.toNat<=sizeLine/\Q (.str (A4w z n)) H
theorem B4h(z:Array Nat):∀(k:Nat) (acc:Array Nat),((List.replicate k z).foldl (· ++ ·) acc).toList=acc.toList++(List.replicate k z.toList).flatten
 |0,acc=>by simp
 | k+1,acc=>by
   rw[List.replicate_succ,List.foldl_cons,B4h z k,Array.toList_append,List.replicate_succ,List.flatten_cons,List.append_assoc]
theorem A1m(z:Str):z.cps.toList.length=z.length:=Array.length_toList
theorem A9f(z:Str)(n:Int):(A4w z n).cps.toList=(List.replicate n.toNat z.cps.toList).flatten:=by
 unfold A4w
 split
 . have:n.toNat=0:=by omega
   rw[this];rfl
 split
 . rename_i h1 h2
   rcases Bool.or_eq_true _ _|>.mp h2 with h|h
   . have:n=1:=by simpa using h
     subst this
     simp
   . have e:z.length=0:=by simpa using h
     have e2:z.cps.toList=[]:=List.eq_nil_of_length_eq_zero (by rw[A1m];exact e)
     rw[e2]
     have:∀k:Nat,(List.replicate k ([]:List Nat)).flatten=[]:=fun k=>by simp
     rw[this]
 show((List.replicate n.toNat z.cps).foldl (· ++ ·) #[]).toList=_
 rw[B4h]
 rfl
theorem B1z(z:Str)(n:Int):(A4w z n).length=n.toNat*z.length:=by
 rw[<-A1m,A9f,C3f,A1m]
section
variable{X:Cx}
theorem B9u:OpR X (binaryOp .Mult) G1b:=by
 intro pins s σ H x y v u Q I rx ry h
 obtain⟨z,n,rfl,rfl,h1,h2,hz,q⟩:=h
 obtain⟨t,rfl⟩:=rx
 obtain⟨t',rfl⟩:=ry
 have lo:¬n< -(2^63:Int):=by omega
 have hi:¬n>=(2^63:Int):=by omega
 have hl:=B1z z n
 have hs:(A4w z n).length<=sizeLine:=by rw[hl,Nat.mul_comm];exact hz
 refine PySem.P.mul_str (by rw[decide_eq_false lo,decide_eq_false hi];rfl) (fun n1 n2=>?_) (fun n1 n2=>D9g hz) ?_
 . intro g
   have p:0<n:=by omega
   have e:((z.length*n.toNat:Nat):Int)=(z.length:Int)*n:=by rw[Int.natCast_mul,Int.toNat_of_nonneg (by omega)]
   have c:((z.length*n.toNat:Nat):Int)<=(sizeLine:Nat):=Int.ofNat_le.mpr hz
   have k:(sizeLine:Nat)<=2^63-1:=by decide
   have k':((sizeLine:Nat):Int)<=(2^63-1:Int):=by
     have:=Int.ofNat_le.mpr k
     exact this
   have:(z.length:Int)<=(2^63-1)/n:=(Int.le_ediv_iff_mul_le p).mpr (by omega)
   omega
 unfold A4w at q hs
 split
 . rw[if_pos (by assumption)] at q
   exact⟨by decide,.str _,H,I.tok _,⟨_,rfl⟩,q⟩
 rw[if_neg (by assumption)] at q hs
 split
 . rw[if_pos (by assumption)] at q
   exact⟨.str _,H,I,⟨_,rfl⟩,q⟩
 rw[if_neg (by assumption)] at q hs
 exact⟨hs,.str _,H,I.tok _,⟨_,rfl⟩,q⟩
end
noncomputable def C4h (n:Nat):Str:=("1":Str)++A4w ("0":Str) (n:Int)
theorem C4v(n:Nat):(List.replicate n [48]).flatten=List.replicate n 48:=by
 induction n with
 |zero=>rfl
 |succ n ih=>rw[List.replicate_succ,List.flatten_cons,ih,List.replicate_succ];rfl
theorem A5m(n:Nat):(C4h n).cps.toList=49::List.replicate n 48:=by
 unfold C4h
 show(("1":Str).cps++(A4w ("0":Str) (n:Int)).cps).toList=_
 rw[Array.toList_append,A9f]
 have a:("1":Str).cps.toList=[49]:=by decide+kernel
 have b:("0":Str).cps.toList=[48]:=by decide+kernel
 rw[a,b]
 show [49]++(List.replicate n [48]).flatten=_
 rw[C4v]
 rfl
theorem B7z(n:Nat):(C4h n).length=n+1:=by
 rw[<-A1m,A5m]
 simp
theorem C0d(n:Nat):∀a:Nat,(List.replicate n 48).foldl (fun acc c=>acc*10+(c-48)) a=a*10^n:=by
 induction n with
 |zero=>intro a;simp
 | succ n ih=>
   intro a
   rw[List.replicate_succ,List.foldl_cons,ih,Nat.pow_succ]
   show(a*10+0)*10^n=_
   rw[Nat.add_zero,Nat.mul_assoc,Nat.mul_comm 10]
section
variable{X:Cx}
theorem B9a(hc:X.A.handled=none):A1b X (.builtin "all") (fun xs H Q=>∃(l:Addr) (bs:List Bool),xs=[.ref l]/\SqL X.K H l (bs.map V.bl)/\Q (.bl (bs.all id)) H):=by
 intro pins s σ H xs us Q I r h
 obtain⟨l,bs,rfl,hl,q⟩:=h
 obtain⟨u,rfl,ru⟩:=G7.one r
 cases ru
 obtain⟨its,rv,p,hz⟩:=I.list hl
 obtain⟨o,e,_⟩:=id p.isList
 have hlt:l<s.heap.objs.size:=Heap.lt_size e
 have hlen:its.length=bs.length:=by rw[<-rv.length,List.length_map]
 refine call_all_walk (wpAny_pyIter_list p.isList ?_)
 refine⟨s.heap.objs.size,[s.heap.objs.size,l],[s.heap.objs.size],its.toArray.size,_,_,fun i=>(bs[i]?).getD true,rfl,Walks.list (A:=X.A.in1) hc _ l (Nat.ne_of_lt hlt) its.toArray,⟨⟨_,Heap.get?_push_size _ rfl,rfl,rfl⟩,p.isList.push _⟩,fun i v s' Q' E' hP hQ=>?_,fun h' tk hk=>?_⟩
 . have hP:its[i]?=some v:=by simpa using hP
   have hi:i<bs.length:=by rw[<-hlen];exact(List.getElem?_eq_some_iff.mp hP).1
   obtain⟨u',hu',ru'⟩:=rv.get (i:=i) (x:=V.bl bs[i]) (by simp[hi])
   rw[hP] at hu'
   cases hu'
   cases ru'
   have z:(bs[i]?).getD true=bs[i]:=by simp[hi]
   dsimp only at hQ
   rw[z] at hQ
   exact wpAny_truthy_bool hQ
 have z:((List.range its.toArray.size).all fun i=>(bs[i]?).getD true)=bs.all id:=by
   rw[List.size_toArray,hlen]
   exact LSm.range_all bs
 rw[z]
 exact⟨.bl (bs.all id),H,I.kept fun b x e=>hk b x (fun hm=>by rw[List.mem_singleton.mp hm] at e;exact Nat.lt_irrefl _ (Heap.lt_size e)) (Heap.get?_push_of_some _ e),rfl,q⟩
noncomputable def G7d:V ->List V ->Hp ->VK ->Prop:=fun x vs H Q=>∃i,x= .int i/\vs=[]/\Q (.int ((Builtin.Int.intBits i:Nat):Int)) H
theorem B2z:MtR X "int.bit_length" G7d:=by
 intro pins s σ H x xs v us Q I rx rs h
 obtain⟨i,rfl,rfl,q⟩:=h
 obtain⟨t,rfl⟩:=rx
 cases rs
 exact call_int_bit_length ⟨.int _,H,I.tok _,⟨_,rfl⟩,q⟩
end
section
variable{X:Cx}{a b:Expr}{rest:List Expr}{pos:Pos}{ta tb:TE}
end
section
variable{X:Cx}{j k:Nat}{f C:Addr}{fd:FuncData}{ps:List Str}{sp:Sp}{dvs:List V}{ds:List Value}{x m:Str}{p pos apos:Pos}{e o:Expr}{es:List Expr}{ta:TE}{t:TA}{st:Stmt}
theorem D8s{pins:List (Addr×Obj)}{σ:St}{H:Hp}{s:Shared}{Q:VK}{us:List Value}{vs:List V}(F:G0 X.prog X.w X.K X.mg X.base (CX1 X.prog X.w) k f fd ps sp)(hr:A0p k X.A)(hb:V9 X.K fd ps ds)(hd:G7 dvs ds)
   (I:Inv X pins σ H s) (r:G7 vs us) (h:sp (vs++dvs) H Q (fun C d H'=>EKF C d σ H')):wpAny (model X.prog X.w) X.A (call (.ref f) us) (EP X pins σ Q) X.xe s:=by
 have r2:G7 (vs++dvs) (us++ds):=r.append hd
 have hl:(us++ds).length=ps.length:=by rw[<-r2.length];exact F.len _ _ _ _ h
 refine wpAny_call (codeAny_mono (F.run X.A X.stack s H ⟨us,[]⟩ (us++ds) (vs++dvs) Q _ hr I.env0 (hb s us I.kIn hl) r2 h) fun r s' hq=>?_)
 cases r with
 | error e=>
   obtain⟨a,t,C,dd,H',_,_,_,_,_,hE,_⟩:=hq
   exact False.elim hE
 | ok fl=>
   cases fl with
   |ret u=>exact I.after hq
   |next=>exact False.elim hq
   |brk=>exact False.elim hq
   |cont=>exact False.elim hq
theorem A2x(D:Def X.K X.mg x ps st f fd)(F:G0 X.prog X.w X.K X.mg X.base (CX1 X.prog X.w) j f fd ps sp)(hr:A0p k X.A)(ha:PA X (e::es) t)(hj:j<=k:=by decide)(hg:Gl X x:=by rfl)(hdb:(x==("__debug__":Str))=false:=by decide)
   (he:starEach (e::es) X.env=(false,eval e X.env)::starEach es X.env:=by rfl) (hpl:(backTo pos (starEach es X.env)).any (·.1)=false:=by rfl):PE X (.Call (.Name x p) (e::es) [] pos) (A2u sp [] EKF t):=by
 intro pins s σ H Q I h
 refine wpAny_Call_Name_kw (Z8 I hg D.g ?_ hdb)
 refine PySem.W.callWith_K (h₀:=X.base) I.ok.mod.kin D.F.kp (thn (ha pos pins s σ H _ I h) fun us s1 ⟨vs,H1,I1,r,q⟩=>⟨I1.kIn,?_⟩) he hpl
 exact D8s (F.mono hj) hr D.b .nil I1 r q
end
section
variable{X:Cx}{N F:List Str}{js:List Nat}{scope:Scope}
theorem B3u{pins:List (Addr×Obj)}{σ:St}{H:Hp}{s:Shared}{fp:List Addr}{h':Heap}(S:D6 N F js scope X.N X.env)(I:Inv X pins σ H s)(hf:∀b∈fp,A0w X pins H b)(hit:∀b∈fp,∃o,s.heap.get? b=some o)(hnb:∀b∈fp,X.base.get? b=none)
   (hns:h'.Ns s.heap.objs.size (fun _=>none)) (hsb:∀b o,s.heap.get? b=some o ->h'.get? b=some o) {tk:Nat}:
   Inv (X.compF scope N F s.heap.objs.size s H fp (X.pn++pins)) [] (List.replicate N.length none++A3b js σ) H {s with heap:=h',toks:=tk}:=by
 have ck:∀c v,s.heap.IsCell c v ->h'.IsCell c v:=fun c v ⟨o,e,d⟩=>⟨o,hsb _ _ e,d⟩
 have inF:∀x,((compEnvC scope (A1j F X.env) s.heap.objs.size X.env).kindOf x=some .cell\/(compEnvC scope (A1j F X.env) s.heap.objs.size X.env).kindOf x=some .free) ->x∈F:=by
   intro x z
   have z:(relabel scope X.env).names.lookup x=some .cell\/(relabel scope X.env).names.lookup x=some .free:=z
   rcases z with z|z
   . exact S.fr _ (PySem.mem_of_lookup z) (.inl rfl)
   . exact S.fr _ (PySem.mem_of_lookup z) (.inr rfl)
 refine⟨⟨I.ok.mod,S.kind,I.ok.glob,I.ok.blt,Nat.le_refl _,fun x y c z z'=>I.ok.inj x y c (S.sub x c z) (S.sub y c z'),fun x z=>?_,fun x c z _=>(nomatch z),I.ok.hd,I.ok.frames,.inl rfl,fun b hb=>?_,I.bs,Nat.le_trans I.ok.bsz I.sz,fun b o e hb=>?_,fun b hb hfs=>?_,I.stack,I.stkFree⟩,
   rfl,I.bare,Un.kept hsb,⟨_,hns,fun i x v e1 e2 e3=>A5p S I (fun x c v _ z=>ck c v z) i x v e1 e2⟩,fun x c z=>?_,I.hok.fresh (Nat.le_refl _),fun x c z=>I.freeC x c (S.sub x c z),fun p hp=>?_,I.hok.kept hsb,B5h S σ⟩
 . obtain⟨c,h1,_⟩:=S.has (inF x z)
   exact⟨c,h1⟩
 . obtain⟨oi,ei⟩:=hit b hb
   exact⟨Nat.ne_of_lt (Heap.lt_size ei),fun x c z=>(hf b hb).2.2.2.2.1 x c (S.sub x c z)⟩
 . rw[hnb b hb] at e
   cases e
 . rcases List.mem_cons.mp (I.stkSub b hfs) with z|z
   . exact(hf b hb).2.1 z
   . exact(hf b hb).2.2.1 z
 . obtain⟨v,z'⟩:=I.cell x c (S.sub x c z)
   exact⟨v,ck c v z'⟩
 have hp':p∈X.pn++pins:=by simpa using hp
 obtain⟨q1,q2,q3,q4,q5⟩:=I.pin p hp'
 refine⟨hsb _ _ q1,q2,Nat.ne_of_lt (Heap.lt_size q1),fun z=>?_,q5⟩
 rcases List.mem_cons.mp (I.stkSub p.1 z) with z|z
 . exact q3 z
 exact q4 z
theorem B1n{pins pl:List (Addr×Obj)}{σ σ':St}{H H':Hp}{s s':Shared}{fp:List Addr}(S:D6 N F js scope X.N X.env)(I:Inv X pins σ H s)(hf:∀b∈fp,A0w X pins H b)(J:Inv (X.compF scope N F s.heap.objs.size s H fp (X.pn++pins)) pl σ' H' s'):
   Inv (X.compF scope N F s.heap.objs.size s H fp (X.pn++pins)) [] (List.replicate N.length none++A3b js σ) H' s':=by
 obtain⟨m,hn,_⟩:=J.loc
 refine⟨J.ok,J.os,J.bare,J.base,⟨m,hn,fun i x v e1 e2 e3=>A5p S I (fun x c v z q=>?_) i x v e1 e2⟩,J.cell,J.free,J.freeC,fun p hp=>J.pin p (by
   have hp:p∈(X.pn++pins)++ []:=hp
   rw[List.append_nil] at hp
   exact List.mem_append_left _ hp),J.hok,B5h S σ⟩
 obtain⟨o,e,d⟩:=q
 have ne:c ∉ fp:=fun w=>(hf c w).2.2.2.2.1 x c z rfl
 obtain⟨sl,q⟩:=J.base.any e (I.freeC x c z) ne
 exact⟨_,q,d⟩
theorem B9x{elt target iter c:Expr}{scope:Scope}{pos:Pos}{N F:List Str}{js:List Nat}{wi:TI}{g:TG}{tc:TT}{te:TE}(S:D6 N F js scope X.N X.env)(hd:Y4 X)(hc0:X.calm=true)(hi:PI X target iter wi)(hex:X.ex=[])
   (hg:∀C s₀ H₀ ex pn,Y4 (X.compF scope N F C s₀ H₀ ex pn) ->PG (X.compF scope N F C s₀ H₀ ex pn) target g)
   (hc:∀C s₀ H₀ ex pn,Y4 (X.compF scope N F C s₀ H₀ ex pn) ->PT (X.compF scope N F C s₀ H₀ ex pn) c tc)
   (he:∀C s₀ H₀ ex pn,Y4 (X.compF scope N F C s₀ H₀ ex pn) ->PE (X.compF scope N F C s₀ H₀ ex pn) elt te)
   {pins:List (Addr×Obj)} {s:Shared} {σ:St} {H:Hp} {Q:VK} {RR:Value ->Env ->Result ->Shared ->Prop} (I:Inv X pins σ H s) (h:(A8b N.length js wi g tc te) σ H Q)
   (hRR:∀(D C:Addr) (s6:Shared) (H5:Hp) (mm:Str ->Option Value),Inv X pins σ H5 s6 ->s6.heap.Ns C mm ->A0w X pins H5 C ->Q (.ref D) H5 ->RR (.ref D) (compEnvC scope (A1j F X.env) C X.env) (.ok .next) s6):
   wpAny (model X.prog X.w) X.A (eval iter X.env) (fun v s1=>wpAny (model X.prog X.w) X.A (pyIter v) (fun itv s2=>wpAny (model X.prog X.w) X.A (newList []) (fun acc s3=>wpAny (model X.prog X.w) X.A (newFunctionEnv scope X.env.globals (A1j F X.env) [] X.env.qual none .none (some X.env)) (fun cenv s4=>
     codeAny (model X.prog X.w) X.A (.compStart (.ListComp elt [⟨target,iter,[c],0⟩] scope pos) 0 itv acc {cenv with scope:=relabel scope X.env}) (RR acc {cenv with scope:=relabel scope X.env}) s4) X.xe s3) X.xe s2) X.xe s1) X.xe s:=by
 refine thn (hi pins s σ H _ I h) fun v s1 h1=>thn h1 fun itv s2 h2=>?_
 obtain⟨it,fp,tn,J,H2,rfl,I2,T,st2,f2,R⟩:=h2
 have ob2:=T.obj _ _ st2
 have hf2:=I2.hok.fresh (Nat.le_refl _)
 refine wpAny_newObj_type ?_
 have I3:Inv X pins σ (upd H2 s2.heap.objs.size (.lst [])) {s2 with heap:=s2.heap.push {cls:= .type "list",dict:=none,data:= .seq ([]:List Value).toArray}}:=Inv.lnew (t':=s2.toks) I2 .nil (Nat.zero_le _)
 refine wpAny_newFunctionEnv S.cell (by intro y hy;simp at hy) (fun h4 hns hsb=>?_) S.kind
 dsimp only at hns hsb ⊢
 generalize hG:s2.heap.push {cls:= .type "list",dict:=none,data:= .seq ([]:List Value).toArray}=G at I3 hns hsb ⊢
 generalize hD:s2.heap.objs.size=D at I3 hf2
 have nD:∀b∈fp,b≠D:=fun b hb=>by
   obtain⟨o,eo,_⟩:=ob2 b hb
   rw[<-hD];exact Nat.ne_of_lt (Heap.lt_size eo)
 have eiG:∀b∈fp,∃o,G.get? b=some o:=fun b hb=>by
   obtain⟨o,eo,_⟩:=ob2 b hb
   exact⟨o,by rw[<-hG];exact Heap.get?_push_of_some _ eo⟩
 have kp:∀b o,G.get? b=some o ->h4.get? b=some o:=fun b o e=>hsb.extBut b o (Nat.ne_of_lt (Heap.lt_size e)) (Heap.get?_push_of_some _ e)
 have f3:∀b∈fp,A0w X pins (upd H2 D (.lst [])) b:=fun b hb=>⟨by rw[C9 (nD b hb)];exact(f2 b hb).1,(f2 b hb).2⟩
 have nb:∀b∈fp,X.base.get? b=none:=fun b hb=>by
   cases q:X.base.get? b with
   |none=>rfl
   | some o=>
     have:=(I.ok.bs b o q).1
     rcases(f2 b hb).2.2.2.1 with z|z
     . rw[hex] at z;simp at z
     . exact absurd (Nat.lt_of_lt_of_le (Heap.lt_size this) z) (Nat.lt_irrefl _)
 have hns':h4.Ns G.objs.size (fun _=>none):=by
   obtain⟨o,es,ep,q1,q2,q3,q4⟩:=hns
   exact⟨o,es,ep,q1,q2,q3,fun x=>by rw[q4];rfl⟩
 have I4:=B3u (tk:=s2.toks+([]:List (Str×Value)).length) S I3 f3 eiG nb hns' kp
 have hdc:Y4 (X.compF scope N F G.objs.size {s2 with heap:=G} (upd H2 D (.lst [])) fp (X.pn++pins)):=by
   rcases hd with z|⟨x,o,u,vs,z,e,d,n⟩
   . exact .inl z
   . refine .inr ⟨x,o,u,vs,z,?_,d,n⟩
     have q:=I2.base.frzs x o u e
     show upd H2 D (.lst []) x=_
     rw[C9 fun w=>by rw[w,hf2] at q;cases q]
     exact q
 obtain⟨m,W,w0,turn⟩:=R D hf2
 have gg:=hg _ _ _ _ _ hdc
 have cc:=hc _ _ _ _ _ hdc
 have ee:=he _ _ _ _ _ hdc
 have fpc:∀{H':Hp} {σ':St} {s':Shared} {pl:List (Addr×Obj)},Inv (X.compF scope N F G.objs.size {s2 with heap:=G} (upd H2 D (.lst [])) fp (X.pn++pins)) pl σ' H' s' ->(∀b∈fp,H' b=none) ->(∀b∈fp,∀p∈pl,p.1≠b) ->∀b∈fp,A0w (X.compF scope N F G.objs.size {s2 with heap:=G} (upd H2 D (.lst [])) fp (X.pn++pins)) pl H' b:=by
   intro H' σ' s' pl J' hn hp b hb
   obtain⟨oi,ei⟩:=eiG b hb
   refine⟨hn b hb,Nat.ne_of_lt (Heap.lt_size ei),?_,.inl hb,(fun x c z=>(f2 b hb).2.2.2.2.1 x c (S.sub x c z)),fun p hpp=>?_⟩
   . intro z
     rcases List.mem_cons.mp (I.stkSub b z) with z|z
     . exact(f2 b hb).2.1 z
     . exact(f2 b hb).2.2.1 z
   . rcases List.mem_append.mp hpp with z|z
     . exact(f2 b hb).2.2.2.2.2 p z
     . exact hp b hb p z
 have loop:codeAny (model X.prog X.w) X.A (.compLoop (.ListComp elt [⟨target,iter,[c],0⟩] scope pos) 0 (.ref it) (.ref D) (compEnvC scope (A1j F X.env) G.objs.size X.env))
     (RR (.ref D) (compEnvC scope (A1j F X.env) G.objs.size X.env))
     {s2 with heap:=h4,toks:=s2.toks+([]:List (Str×Value)).length}:=by
   refine kct_loop (fun k s'=>∃i ys H',k=m+1-i/\Inv (X.compF scope N F G.objs.size {s2 with heap:=G} (upd H2 D (.lst [])) fp (X.pn++pins)) [] (List.replicate N.length none++A3b js σ) H' s'/\tn i s'.heap/\(∀b∈fp,H' b=none)/\W i ys H') ?_ (m+1)
     ⟨0,[],_,rfl,I4,T.keep _ _ _ st2 fun b hb o e=>kp b o (by rw[<-hG];exact Heap.get?_push_of_some _ e),fun b hb=>(f3 b hb).1,w0⟩
   rintro k s5 ⟨i,ys,H5,rfl,I5,st5,n5,w5⟩
   obtain⟨hi5,hD5,w5⟩:=turn i ys H5 w5
   rcases w5 with⟨stop,q⟩|⟨lt5,go,step⟩
   . refine wpAny_mono (T.done (X.compF scope N F G.objs.size {s2 with heap:=G} (upd H2 D (.lst [])) fp (X.pn++pins)) rfl rfl rfl hc0 i [] s5 _ H5 (fun _ _=>False) I5 (fpc I5 n5 (by simp)) st5 stop) (fun r s6 z=>?_) (fun _ _ z=>z.elim)
     obtain⟨rfl,I6⟩:=z
     obtain⟨mm,hn6,_⟩:=I6.loc
     have B6:=I6.base
     have J6:Inv X pins σ H5 s6:=by
       refine I3.call' (ch:=fp) I6.os ⟨B6.keep,B6.slot,B6.free,B6.there,B6.tups,B6.frzs,B6.tbls⟩ I6.hok I6.bare (fun b hb=>⟨(f2 b hb).2.2.2.1,(f2 b hb).2.1,(f2 b hb).2.2.2.2.1,(f2 b hb).2.2.2.2.2⟩)
     have szG:X.s₀.heap.objs.size<=G.objs.size:=I3.sz
     refine hRR D G.objs.size s6 H5 mm J6 hn6 ⟨I6.free,?_,?_,.inr szG,?_,?_⟩ q
     . exact Nat.ne_of_gt I3.lt
     . intro z
       obtain⟨_,o,ho,_⟩:=I3.funs.mem z
       exact Nat.lt_irrefl _ (Heap.lt_size ho)
     . rintro x c z rfl
       obtain⟨v',o,ho,_⟩:=I3.cell x _ z
       exact Nat.lt_irrefl _ (Heap.lt_size ho)
     . rintro p hp z
       have zz:=(I3.pin p hp).1
       rw[z] at zz
       exact Nat.lt_irrefl _ (Heap.lt_size zz)
   . refine wpAny_mono (T.item (X.compF scope N F G.objs.size {s2 with heap:=G} (upd H2 D (.lst [])) fp (X.pn++pins)) rfl rfl rfl hc0 i [] s5 _ H5 (fun _ _=>False) I5 (fpc I5 n5 (by simp)) st5 go) (fun r s6 z=>?_) (fun _ _ z=>z.elim)
     obtain⟨u,rfl,z⟩:=z
     refine wpAny_mono z (fun _ s7 z=>?_) (fun _ _ z=>z.elim)
     obtain⟨x,H7,I7,rx,yl,st7,fr7⟩:=z
     have ob7:=T.obj _ _ st7
     have I7':Inv (X.compF scope N F G.objs.size {s2 with heap:=G} (upd H2 D (.lst [])) fp (X.pn++pins)) (A0t fp s7.heap) (List.replicate N.length none++A3b js σ) H7 s7:=I7.pinned (fpc I7 fr7 (by simp)) ob7
     have back:∀{i':Nat} {ys':List V} {H':Hp} {σ':St} {s':Shared},i'=i+1 ->Inv (X.compF scope N F G.objs.size {s2 with heap:=G} (upd H2 D (.lst [])) fp (X.pn++pins)) (A0t fp s7.heap) σ' H' s' ->W i' ys' H' ->
         ∃k',k'<m+1-i/\∃i ys H',k'=m+1-i/\Inv (X.compF scope N F G.objs.size {s2 with heap:=G} (upd H2 D (.lst [])) fp (X.pn++pins)) [] (List.replicate N.length none++A3b js σ) H' s'/\tn i s'.heap/\(∀b∈fp,H' b=none)/\W i ys H':=by
       rintro i' ys' H' σ' s' rfl J' w'
       refine⟨m+1-(i+1),by omega,i+1,ys',H',rfl,B1n S I3 f3 J',T.keep _ _ _ st7 fun b hb o z=>(J'.pin (b,o) (List.mem_append_right _ (A0j hb z))).1,fun b hb=>?_,w'⟩
       obtain⟨o,eo,_⟩:=ob7 b hb
       exact(J'.pin (b,o) (List.mem_append_right _ (A0j hb eo))).2.1
     refine wpAny_mono (gg (A0t fp s7.heap) s7 _ H7 x u _ I7' rx (step x H7 yl)) (fun _ s8 z=>?_) (fun _ _ z=>z.elim)
     obtain⟨σ8,H8,I8,q8⟩:=z
     refine wpAny_mono (cc (A0t fp s7.heap) s8 σ8 H8 _ I8 q8) (fun b s9 z=>?_) (fun _ _ z=>z.elim)
     obtain⟨H9,I9,q9⟩:=z
     cases b with
     | false=>
       simp only[Bool.false_eq_true,if_false] at q9 ⊢
       exact back rfl I9 q9
     | true=>
       simp only[if_true] at q9 ⊢
       refine wpAny_mono (ee (A0t fp s7.heap) s9 σ8 H9 _ I9 q9) (fun y s10 z=>?_) (fun _ _ z=>z.elim)
       obtain⟨yv,H10,I10,ry,hD10,hz10,w10⟩:=z
       refine wpAny_mono (A5g (X:=X.compF scope N F G.objs.size {s2 with heap:=G} (upd H2 D (.lst [])) fp (X.pn++pins)) (A0t fp s7.heap) s10 σ8 H10 (.ref D) [yv] (.ref D) [y] (fun _ H11=>W (i+1) (ys++ [yv]) H11) I10 rfl (.cons ry .nil) ⟨D,ys,yv,rfl,rfl,hD10,hz10,w10⟩) (fun _ s11 z=>?_) (fun _ _ z=>z.elim)
       obtain⟨_,H11,I11,_,w11⟩:=z
       exact back rfl I11 w11
 exact codeAny_compStart_list loop (T.self _ 0 _ _ _ (T.keep _ _ _ st2 fun b hb o e=>kp b o (by rw[<-hG];exact Heap.get?_push_of_some _ e)) loop)
theorem A9b{elt target iter:Expr}{scope:Scope}{pos:Pos}{N F:List Str}{js:List Nat}{wi:TI}{g:TG}{te:TE}(S:D6 N F js scope X.N X.env)(hd:Y4 X)(hc0:X.calm=true)(hi:PI X target iter wi)(hex:X.ex=[])
   (hg:∀C s₀ H₀ ex pn,Y4 (X.compF scope N F C s₀ H₀ ex pn) ->PG (X.compF scope N F C s₀ H₀ ex pn) target g)
   (he:∀C s₀ H₀ ex pn,Y4 (X.compF scope N F C s₀ H₀ ex pn) ->PE (X.compF scope N F C s₀ H₀ ex pn) elt te)
   {pins:List (Addr×Obj)} {s:Shared} {σ:St} {H:Hp} {Q:VK} {RR:Value ->Env ->Result ->Shared ->Prop} (I:Inv X pins σ H s) (h:(B5s N.length js wi g te) σ H Q)
   (hRR:∀(D C:Addr) (s6:Shared) (H5:Hp) (mm:Str ->Option Value),Inv X pins σ H5 s6 ->s6.heap.Ns C mm ->A0w X pins H5 C ->Q (.ref D) H5 ->RR (.ref D) (compEnvC scope (A1j F X.env) C X.env) (.ok .next) s6):
   wpAny (model X.prog X.w) X.A (eval iter X.env) (fun v s1=>wpAny (model X.prog X.w) X.A (pyIter v) (fun itv s2=>wpAny (model X.prog X.w) X.A (newList []) (fun acc s3=>wpAny (model X.prog X.w) X.A (newFunctionEnv scope X.env.globals (A1j F X.env) [] X.env.qual none .none (some X.env)) (fun cenv s4=>
     codeAny (model X.prog X.w) X.A (.compStart (.ListComp elt [⟨target,iter,[],0⟩] scope pos) 0 itv acc {cenv with scope:=relabel scope X.env}) (RR acc {cenv with scope:=relabel scope X.env}) s4) X.xe s3) X.xe s2) X.xe s1) X.xe s:=by
 refine thn (hi pins s σ H _ I h) fun v s1 h1=>thn h1 fun itv s2 h2=>?_
 obtain⟨it,fp,tn,J,H2,rfl,I2,T,st2,f2,R⟩:=h2
 have ob2:=T.obj _ _ st2
 have hf2:=I2.hok.fresh (Nat.le_refl _)
 refine wpAny_newObj_type ?_
 have I3:Inv X pins σ (upd H2 s2.heap.objs.size (.lst [])) {s2 with heap:=s2.heap.push {cls:= .type "list",dict:=none,data:= .seq ([]:List Value).toArray}}:=Inv.lnew (t':=s2.toks) I2 .nil (Nat.zero_le _)
 refine wpAny_newFunctionEnv S.cell (by intro y hy;simp at hy) (fun h4 hns hsb=>?_) S.kind
 dsimp only at hns hsb ⊢
 generalize hG:s2.heap.push {cls:= .type "list",dict:=none,data:= .seq ([]:List Value).toArray}=G at I3 hns hsb ⊢
 generalize hD:s2.heap.objs.size=D at I3 hf2
 have nD:∀b∈fp,b≠D:=fun b hb=>by
   obtain⟨o,eo,_⟩:=ob2 b hb
   rw[<-hD];exact Nat.ne_of_lt (Heap.lt_size eo)
 have eiG:∀b∈fp,∃o,G.get? b=some o:=fun b hb=>by
   obtain⟨o,eo,_⟩:=ob2 b hb
   exact⟨o,by rw[<-hG];exact Heap.get?_push_of_some _ eo⟩
 have kp:∀b o,G.get? b=some o ->h4.get? b=some o:=fun b o e=>hsb.extBut b o (Nat.ne_of_lt (Heap.lt_size e)) (Heap.get?_push_of_some _ e)
 have f3:∀b∈fp,A0w X pins (upd H2 D (.lst [])) b:=fun b hb=>⟨by rw[C9 (nD b hb)];exact(f2 b hb).1,(f2 b hb).2⟩
 have nb:∀b∈fp,X.base.get? b=none:=fun b hb=>by
   cases q:X.base.get? b with
   |none=>rfl
   | some o=>
     have:=(I.ok.bs b o q).1
     rcases(f2 b hb).2.2.2.1 with z|z
     . rw[hex] at z;simp at z
     . exact absurd (Nat.lt_of_lt_of_le (Heap.lt_size this) z) (Nat.lt_irrefl _)
 have hns':h4.Ns G.objs.size (fun _=>none):=by
   obtain⟨o,es,ep,q1,q2,q3,q4⟩:=hns
   exact⟨o,es,ep,q1,q2,q3,fun x=>by rw[q4];rfl⟩
 have I4:=B3u (tk:=s2.toks+([]:List (Str×Value)).length) S I3 f3 eiG nb hns' kp
 have hdc:Y4 (X.compF scope N F G.objs.size {s2 with heap:=G} (upd H2 D (.lst [])) fp (X.pn++pins)):=by
   rcases hd with z|⟨x,o,u,vs,z,e,d,n⟩
   . exact .inl z
   . refine .inr ⟨x,o,u,vs,z,?_,d,n⟩
     have q:=I2.base.frzs x o u e
     show upd H2 D (.lst []) x=_
     rw[C9 fun w=>by rw[w,hf2] at q;cases q]
     exact q
 obtain⟨m,W,w0,turn⟩:=R D hf2
 have gg:=hg _ _ _ _ _ hdc
 have ee:=he _ _ _ _ _ hdc
 have fpc:∀{H':Hp} {σ':St} {s':Shared} {pl:List (Addr×Obj)},Inv (X.compF scope N F G.objs.size {s2 with heap:=G} (upd H2 D (.lst [])) fp (X.pn++pins)) pl σ' H' s' ->(∀b∈fp,H' b=none) ->(∀b∈fp,∀p∈pl,p.1≠b) ->∀b∈fp,A0w (X.compF scope N F G.objs.size {s2 with heap:=G} (upd H2 D (.lst [])) fp (X.pn++pins)) pl H' b:=by
   intro H' σ' s' pl J' hn hp b hb
   obtain⟨oi,ei⟩:=eiG b hb
   refine⟨hn b hb,Nat.ne_of_lt (Heap.lt_size ei),?_,.inl hb,(fun x c z=>(f2 b hb).2.2.2.2.1 x c (S.sub x c z)),fun p hpp=>?_⟩
   . intro z
     rcases List.mem_cons.mp (I.stkSub b z) with z|z
     . exact(f2 b hb).2.1 z
     . exact(f2 b hb).2.2.1 z
   . rcases List.mem_append.mp hpp with z|z
     . exact(f2 b hb).2.2.2.2.2 p z
     . exact hp b hb p z
 have loop:codeAny (model X.prog X.w) X.A (.compLoop (.ListComp elt [⟨target,iter,[],0⟩] scope pos) 0 (.ref it) (.ref D) (compEnvC scope (A1j F X.env) G.objs.size X.env))
     (RR (.ref D) (compEnvC scope (A1j F X.env) G.objs.size X.env))
     {s2 with heap:=h4,toks:=s2.toks+([]:List (Str×Value)).length}:=by
   refine B8b (fun k s'=>∃i ys H',k=m+1-i/\Inv (X.compF scope N F G.objs.size {s2 with heap:=G} (upd H2 D (.lst [])) fp (X.pn++pins)) [] (List.replicate N.length none++A3b js σ) H' s'/\tn i s'.heap/\(∀b∈fp,H' b=none)/\W i ys H') ?_ (m+1)
     ⟨0,[],_,rfl,I4,T.keep _ _ _ st2 fun b hb o e=>kp b o (by rw[<-hG];exact Heap.get?_push_of_some _ e),fun b hb=>(f3 b hb).1,w0⟩
   rintro k s5 ⟨i,ys,H5,rfl,I5,st5,n5,w5⟩
   obtain⟨hi5,hD5,w5⟩:=turn i ys H5 w5
   rcases w5 with⟨stop,q⟩|⟨lt5,go,step⟩
   . refine wpAny_mono (T.done (X.compF scope N F G.objs.size {s2 with heap:=G} (upd H2 D (.lst [])) fp (X.pn++pins)) rfl rfl rfl hc0 i [] s5 _ H5 (fun _ _=>False) I5 (fpc I5 n5 (by simp)) st5 stop) (fun r s6 z=>?_) (fun _ _ z=>z.elim)
     obtain⟨rfl,I6⟩:=z
     obtain⟨mm,hn6,_⟩:=I6.loc
     have B6:=I6.base
     have J6:Inv X pins σ H5 s6:=by
       refine I3.call' (ch:=fp) I6.os ⟨B6.keep,B6.slot,B6.free,B6.there,B6.tups,B6.frzs,B6.tbls⟩ I6.hok I6.bare (fun b hb=>⟨(f2 b hb).2.2.2.1,(f2 b hb).2.1,(f2 b hb).2.2.2.2.1,(f2 b hb).2.2.2.2.2⟩)
     have szG:X.s₀.heap.objs.size<=G.objs.size:=I3.sz
     refine hRR D G.objs.size s6 H5 mm J6 hn6 ⟨I6.free,?_,?_,.inr szG,?_,?_⟩ q
     . exact Nat.ne_of_gt I3.lt
     . intro z
       obtain⟨_,o,ho,_⟩:=I3.funs.mem z
       exact Nat.lt_irrefl _ (Heap.lt_size ho)
     . rintro x c z rfl
       obtain⟨v',o,ho,_⟩:=I3.cell x _ z
       exact Nat.lt_irrefl _ (Heap.lt_size ho)
     . rintro p hp z
       have zz:=(I3.pin p hp).1
       rw[z] at zz
       exact Nat.lt_irrefl _ (Heap.lt_size zz)
   . refine wpAny_mono (T.item (X.compF scope N F G.objs.size {s2 with heap:=G} (upd H2 D (.lst [])) fp (X.pn++pins)) rfl rfl rfl hc0 i [] s5 _ H5 (fun _ _=>False) I5 (fpc I5 n5 (by simp)) st5 go) (fun r s6 z=>?_) (fun _ _ z=>z.elim)
     obtain⟨u,rfl,z⟩:=z
     refine wpAny_mono z (fun _ s7 z=>?_) (fun _ _ z=>z.elim)
     obtain⟨x,H7,I7,rx,yl,st7,fr7⟩:=z
     have ob7:=T.obj _ _ st7
     have I7':Inv (X.compF scope N F G.objs.size {s2 with heap:=G} (upd H2 D (.lst [])) fp (X.pn++pins)) (A0t fp s7.heap) (List.replicate N.length none++A3b js σ) H7 s7:=I7.pinned (fpc I7 fr7 (by simp)) ob7
     have back:∀{i':Nat} {ys':List V} {H':Hp} {σ':St} {s':Shared},i'=i+1 ->Inv (X.compF scope N F G.objs.size {s2 with heap:=G} (upd H2 D (.lst [])) fp (X.pn++pins)) (A0t fp s7.heap) σ' H' s' ->W i' ys' H' ->
         ∃k',k'<m+1-i/\∃i ys H',k'=m+1-i/\Inv (X.compF scope N F G.objs.size {s2 with heap:=G} (upd H2 D (.lst [])) fp (X.pn++pins)) [] (List.replicate N.length none++A3b js σ) H' s'/\tn i s'.heap/\(∀b∈fp,H' b=none)/\W i ys H':=by
       rintro i' ys' H' σ' s' rfl J' w'
       refine⟨m+1-(i+1),by omega,i+1,ys',H',rfl,B1n S I3 f3 J',T.keep _ _ _ st7 fun b hb o z=>(J'.pin (b,o) (List.mem_append_right _ (A0j hb z))).1,fun b hb=>?_,w'⟩
       obtain⟨o,eo,_⟩:=ob7 b hb
       exact(J'.pin (b,o) (List.mem_append_right _ (A0j hb eo))).2.1
     refine wpAny_mono (gg (A0t fp s7.heap) s7 _ H7 x u _ I7' rx (step x H7 yl)) (fun _ s8 z=>?_) (fun _ _ z=>z.elim)
     obtain⟨σ8,H8,I8,q8⟩:=z
     refine wpAny_mono (ee (A0t fp s7.heap) s8 σ8 H8 _ I8 q8) (fun y s10 z=>?_) (fun _ _ z=>z.elim)
     obtain⟨yv,H10,I10,ry,hD10,hz10,w10⟩:=z
     refine wpAny_mono (A5g (X:=X.compF scope N F G.objs.size {s2 with heap:=G} (upd H2 D (.lst [])) fp (X.pn++pins)) (A0t fp s7.heap) s10 σ8 H10 (.ref D) [yv] (.ref D) [y] (fun _ H11=>W (i+1) (ys++ [yv]) H11) I10 rfl (.cons ry .nil) ⟨D,ys,yv,rfl,rfl,hD10,hz10,w10⟩) (fun _ s11 z=>?_) (fun _ _ z=>z.elim)
     obtain⟨_,H11,I11,_,w11⟩:=z
     exact back rfl I11 w11
 exact codeAny_compStart_list loop (T.self _ 0 _ _ _ (T.keep _ _ _ st2 fun b hb o e=>kp b o (by rw[<-hG];exact Heap.get?_push_of_some _ e)) loop)
theorem B7k{elt target iter:Expr}{c:Expr}{tc:TT}{pos:Pos}{wi:TI}{g:TG}{te:TE}(S:D6 N F js scope X.N X.env)(hd:Y4 X)(hc0:X.calm=true)(hi:PI X target iter wi)(hex:X.ex=[])
   (hg:∀C s₀ H₀ ex pn,Y4 (X.compF scope N F C s₀ H₀ ex pn) ->PG (X.compF scope N F C s₀ H₀ ex pn) target g)
   (hc:∀C s₀ H₀ ex pn,Y4 (X.compF scope N F C s₀ H₀ ex pn) ->PT (X.compF scope N F C s₀ H₀ ex pn) c tc)
   (he:∀C s₀ H₀ ex pn,Y4 (X.compF scope N F C s₀ H₀ ex pn) ->PE (X.compF scope N F C s₀ H₀ ex pn) elt te)
   (hs:∀x,foldedSetIterable iter X.env x=pure x:=by intro _;rfl):PE X (.ListComp elt [⟨target,iter,[c],0⟩] scope pos) (A8b N.length js wi g tc te):=by
 intro pins s σ H Q I h
 rw[eval_ListComp]
 refine wpAny_comprehension_free (use:=none) rfl hs S.clos S.kind S.loc (B9x S hd hc0 hi hex hg hc he I h (RR:=fun acc ce r s'=>compPost (model X.prog X.w) X.A X.xe none (EP X pins σ Q) acc ce.locals r s') ?_)
 intro D C s6 H5 mm I6 n6 f6 q
 exact⟨mm,n6,fun h' sb=>⟨.ref D,H5,B3t I6 f6 sb,rfl,q⟩⟩
theorem C4m{elt target iter:Expr}{pos:Pos}{wi:TI}{g:TG}{te:TE}(S:D6 N F js scope X.N X.env)(hd:Y4 X)(hc0:X.calm=true)(hi:PI X target iter wi)(hex:X.ex=[])
   (hg:∀C s₀ H₀ ex pn,Y4 (X.compF scope N F C s₀ H₀ ex pn) ->PG (X.compF scope N F C s₀ H₀ ex pn) target g)
   (he:∀C s₀ H₀ ex pn,Y4 (X.compF scope N F C s₀ H₀ ex pn) ->PE (X.compF scope N F C s₀ H₀ ex pn) elt te)
   (hs:∀x,foldedSetIterable iter X.env x=pure x:=by intro _;rfl):PE X (.ListComp elt [⟨target,iter,[],0⟩] scope pos) (B5s N.length js wi g te):=by
 intro pins s σ H Q I h
 rw[eval_ListComp]
 refine wpAny_comprehension_free (use:=none) rfl hs S.clos S.kind S.loc (A9b S hd hc0 hi hex hg he I h (RR:=fun acc ce r s'=>compPost (model X.prog X.w) X.A X.xe none (EP X pins σ Q) acc ce.locals r s') ?_)
 intro D C s6 H5 mm I6 n6 f6 q
 exact⟨mm,n6,fun h' sb=>⟨.ref D,H5,B3t I6 f6 sb,rfl,q⟩⟩
theorem A3e{i:Nat}{y:Str}{py spos:Pos}{elt target iter:Expr}{pos:Pos}{wi:TI}{g:TG}{te:TE}(S:D6 N F js scope X.N X.env)(hd:Y4 X)(hc0:X.calm=true)(hi:PI X target iter wi)(hex:X.ex=[])
   (hg:∀C s₀ H₀ ex pn,Y4 (X.compF scope N F C s₀ H₀ ex pn) ->PG (X.compF scope N F C s₀ H₀ ex pn) target g)
   (he:∀C s₀ H₀ ex pn,Y4 (X.compF scope N F C s₀ H₀ ex pn) ->PE (X.compF scope N F C s₀ H₀ ex pn) elt te) (hN:X.N.Nodup) (hi':X.N[i]?=some y) (hy:Loc X.env.scope y)
   (hf:X.fn y=true\/X.env.scope.names.lookup y=some .local:=by first|exact .inl rfl|exact .inr rfl|assumption)
   (hsw:swapsWith (.ListComp elt [⟨target,iter,[],0⟩] scope pos) (some (.Name y py)) spos.line X.env=pure true:=by rfl)
   (hs:∀x,foldedSetIterable iter X.env x=pure x:=by intro _;rfl):PS X (.Assign [.Name y py] (.ListComp elt [⟨target,iter,[],0⟩] scope pos) spos) (D9p (B5s N.length js wi g te) (B8s i)):=by
 intro pins s σ H D I h
 rw[exec_Assign_Name_used _ _ _ _ hsw]
 refine wpAny_bind (wpAny_standAt (wpAny_bind ?_))
 show wpAny _ X.A (do let _<-comprehension (.ListComp elt [⟨target,iter,[],0⟩] scope pos) scope X.env _ (newList []) false (eval iter X.env) (some (assign (.Name y py) X.env))) _ _ s
 refine wpAny_bind (wpAny_mono (wpAny_comprehension_free (Q:=fun _ s'=>SP X pins D .next s') rfl hs S.clos S.kind S.loc (A9b S hd hc0 hi hex hg he I h (RR:=fun acc ce r s'=>compPost (model X.prog X.w) X.A X.xe (some (assign (.Name y py) X.env)) (fun _ s'=>SP X pins D .next s') acc ce.locals r s') ?_))
   (fun _ s' hq=>wpAny_pure (wpAny_pure hq)) fun _ _ e=>e)
 intro D' C s6 H5 mm I6 n6 f6 q
 refine wpAny_assign_Name (A8e (v:= .ref D') I6 hN hi' hy rfl (fun s7 I7 st=>?_) hf)
 obtain⟨a,sb,ha⟩:=st
 have na:C≠a:=by
   rcases ha with rfl|ha
   . exact f6.2.1
   . exact(f6.2.2.2.2.1 y a ha).symm
 exact⟨mm,n6.sameBut sb na,fun h' sb'=>⟨_,_,B3t I7 f6 sb',q⟩⟩
end
theorem D6.of0{N:List Str}{sc:Scope}{XN:List Str}{env:Env}(S:D1j N [] sc)(clos:closureFor sc env=pure (A1j [] env)):D6 N [] [] sc XN env:=
 ⟨S.kind,S.cell,S.loc,S.nd,clos,A6a S.cell S.fr,fun k y h=>by simp at h,rfl⟩
theorem B2g:bootBuiltins "enumerate"=some (.type "enumerate"):=by decide+kernel
theorem C9e:bootBuiltins "zip"=some (.type "zip"):=by decide+kernel
section
variable{X:Cx}{pins:List (Addr×Obj)}{σ:St}{H:Hp}{s:Shared}{h':Heap}
theorem Inv.turnedL{t':Nat}{fp:List Addr}(I:Inv X pins σ H s)(k:∀b o,b ∉ fp ->s.heap.get? b=some o ->h'.get? b=some o)(hf:∀b∈fp,A0w X pins H b):Inv X pins σ H {s with heap:=h',toks:=t'}:=by
 have nit:∀b u,H b=some u ->b ∉ fp:=fun b u e z=>by rw[(hf b z).1] at e;cases e
 refine I.step (g':=s.gens) (d':=s.drawn) (ch:=fp) (fun b hb=>?_) (fun b o _ _ hc e _=>k b o hc e) (fun b o _ _ hc e _=>⟨o.slots,k b o hc e⟩) (fun _ _ _ _ n=>n)
   (fun b o hc e=>⟨o,k b o hc e⟩) (fun _ _ e=>e) (fun _ _ _ e=>e) (fun b ps e=>⟨#[],by rw[e];simp⟩) (fun m hm=>?_) (fun b u e=>?_) I.bare
 . obtain⟨_,f1,_,f3,f4,f5⟩:=hf b hb
   exact⟨f3,f1,f4,f5⟩
 . obtain⟨o,es,ep,ho,r⟩:=hm
   exact⟨o,es,ep,k _ o (fun z=>(hf _ z).2.1 rfl) ho,r⟩
 refine(I.hok b u e).stay (fun c v hc q=>k c v ?_ q) (fun _ q=>q) fun _ _ q=>q
 rcases hc with z|z
 . rw[z];exact nit b u e
 exact nit c _ z
theorem Inv.paired{t':Nat}{fp:List Addr}{x y:V}{u v:Value}(I:Inv X pins σ H s)(rx:U9 x u)(ry:U9 y v)(hf:∀b∈fp,A0w X pins H b)(hl:∀b∈fp,b<s.heap.objs.size)
   (k:∀b o,b ∉ fp ->s.heap.get? b=some o ->h'.get? b=some o) (hT:h'.get? s.heap.objs.size=some {cls:= .type "tuple",data:= .seq #[u,v]}):
   Inv X pins σ (upd H s.heap.objs.size (.tup [x,y])) {s with heap:=h',toks:=t'}/\∀b∈fp,upd H s.heap.objs.size (.tup [x,y]) b=none:=by
 have hn:∀b∈fp,upd H s.heap.objs.size (.tup [x,y]) b=none:=fun b hb=>by rw[C9 (Nat.ne_of_lt (hl b hb))];exact(hf b hb).1
 have I1:Inv X pins σ (upd H s.heap.objs.size (.tup [x,y])) {s with heap:=s.heap.push {cls:= .type "tuple",data:= .seq #[u,v]},toks:=t'}:=
   I.laid (fun b o z=>Heap.get?_push_of_some _ z) (Nat.le_refl _) ⟨D3 (by show 2<=1000;decide),[u,v],.cons rx (.cons ry .nil),⟨_,Heap.get?_push_size _ rfl,rfl,_,rfl⟩⟩
 have I2:Inv X pins σ (upd H s.heap.objs.size (.tup [x,y])) {heap:=h',gens:=s.gens,drawn:=s.drawn,toks:=t',os:=s.os}:=Inv.turnedL (s:={heap:=s.heap.push {cls:= .type "tuple",data:= .seq #[u,v]},gens:=s.gens,drawn:=s.drawn,toks:=t',os:=s.os}) (h':=h') (t':=t') (fp:=fp) I1 (fun b o hb z=>?_) (fun b hb=>⟨hn b hb,(hf b hb).2⟩)
 . exact⟨I2,hn⟩
 rcases Heap.get?_push_cases z with⟨rfl,rfl⟩|z
 . exact hT
 exact k b o hb z
end
noncomputable def Itz (K:Frag) (a b:Addr):It:=
 ⟨fun i H=>∃xs ys x y,SqL K H a xs/\SqL K H b ys/\xs[i]?=some x/\ys[i]?=some y,
  fun i H x H'=>∃t u v,x= .ref t/\H t=none/\H'=upd H t (.tup [u,v])/\(∀xs,SqL K H a xs ->xs[i]?=some u)/\∀ys,SqL K H b ys ->ys[i]?=some v,
  fun i H=>∃xs ys,SqL K H a xs/\SqL K H b ys/\(xs.length<=i\/ys.length<=i)⟩
theorem C8x{P:Program}{w:World}{K:Frag}{es:List Expr}{k:Nat}{pos:Pos}(a b z TI TO i1 i2:Addr)(D:ZipApart z TI TO i1 i2 a b):
   C7a P w K (.Tuple es k pos) (Itz K a b) [z,TI,TO,i1,i2] z (fun i h=>IsZip h z TI TO .none/\IsPair h TI (.ref i1) (.ref i2)/\(∃u v,IsPair h TO u v)/\h.IsListIter i1 a i/\h.IsListIter i2 b i) where
 mem:=by simp
 obj:=fun i h st c hc=>by
   obtain⟨hz,hTI,⟨u,v,hTO⟩,⟨o1,e1,c1,d1⟩,o2,e2,c2,d2⟩:=st
   rcases(by simpa using hc:c=z\/c=TI\/c=TO\/c=i1\/c=i2) with rfl|rfl|rfl|rfl|rfl
   . exact⟨_,hz,fun v z=>by
       have z':Data.fields _=Data.cell v:=z
       cases z'⟩
   . exact⟨_,hTI,fun v z=>by
       have z':Data.seq _ _=Data.cell v:=z
       cases z'⟩
   . exact⟨_,hTO,fun v z=>by
       have z':Data.seq _ _=Data.cell v:=z
       cases z'⟩
   . exact⟨o1,e1,fun v z=>by rw[d1] at z;cases z⟩
   . exact⟨o2,e2,fun v z=>by rw[d2] at z;cases z⟩
 keep:=fun i h h' st k=>by
   obtain⟨hz,hTI,⟨u,v,hTO⟩,h1,h2⟩:=st
   exact⟨k z (by simp) _ hz,k TI (by simp) _ hTI,⟨u,v,k TO (by simp) _ hTO⟩,h1.at fun o x=>k i1 (by simp) o x,h2.at fun o x=>k i2 (by simp) o x⟩
 item:=by
   intro X hP hw hK hc i pins s σ H E I hf st hg
   subst hP hw hK
   obtain⟨xs,ys,x,y,hq,hr,hx,hy⟩:=hg
   obtain⟨its,rv,p,_⟩:=I.list hq
   obtain⟨jts,rw',p',_⟩:=I.list hr
   obtain⟨u,hu,ru⟩:=rv.get hx
   obtain⟨v,hv,rv'⟩:=rw'.get hy
   obtain⟨hz,hTI,⟨c0,c1,hTO⟩,h1,h2⟩:=st
   have zlt:z<s.heap.objs.size:=Heap.lt_size hz
   have lts:∀c∈ [z,TI,TO,i1,i2],c<s.heap.objs.size:=fun c hc=>by
     obtain⟨o1,e1,_⟩:=id h1
     obtain⟨o2,e2,_⟩:=id h2
     rcases(by simpa using hc:c=z\/c=TI\/c=TO\/c=i1\/c=i2) with rfl|rfl|rfl|rfl|rfl
     . exact zlt
     . exact Heap.lt_size hTI
     . exact Heap.lt_size hTO
     . exact Heap.lt_size e1
     . exact Heap.lt_size e2
   refine wpAny_pyNext_zip_item D hz hTI hTO h1 h2 p.isList p'.isList (x:=u) (y:=v) (by simpa using hu) (by simpa using hv) fun g1 ho hTO1 h11 h21 hT hsz hk=>?_
   refine⟨_,rfl,wpAny_letOwnedTupleGo_zip ho fun g2 hz2 hs2=>?_⟩
   have hs2:Heap.SameBut z g1 g2:=hs2
   obtain⟨I2,hn⟩:=I.paired (h':=g2) (t':=s.toks) (fp:=[z,TI,TO,i1,i2]) ru rv' hf lts
     (fun c o hb q=>(hs2.2 c (fun w=>hb (by simp[w]))).trans (hk c o (fun w=>hb (by simp[w])) (fun w=>hb (by simp[w])) (fun w=>hb (by simp[w])) (fun w=>hb (by simp[w])) q)) ((hs2.2 _ (Nat.ne_of_gt zlt)).trans hT)
   refine⟨.ref s.heap.objs.size,_,I2,rfl,⟨_,x,y,rfl,I.hok.fresh (Nat.le_refl _),rfl,fun ws hw=>by rw[I.list_inj hw hq];exact hx,fun ws hw=>by rw[I.list_inj hw hr];exact hy⟩,⟨hz2,?_,⟨u,v,?_⟩,?_,?_⟩,hn⟩
   . exact(hs2.2 _ D.TIz).trans (hk TI _ D.TIz D.TITO D.TIi1 D.TIi2 hTI)
   . exact(hs2.2 _ D.TOz).trans hTO1
   . exact h11.at fun o q=>(hs2.2 _ D.i1z).trans q
   . exact h21.at fun o q=>(hs2.2 _ D.i2z).trans q
 done:=by
   intro X hP hw hK hc i pins s σ H E I hf st hg
   subst hP hw hK
   obtain⟨xs,ys,hq,hr,hx⟩:=hg
   obtain⟨its,rv,p,_⟩:=I.list hq
   obtain⟨jts,rw',p',_⟩:=I.list hr
   obtain⟨hz,hTI,⟨c0,c1,hTO⟩,h1,h2⟩:=st
   have hl:=rv.length
   have hl':=rw'.length
   refine wpAny_pyNext_zip_end (I.ok.hd hc) D hz hTI hTO h1 h2 p.isList p'.isList ?_ fun h' eb=>⟨rfl,I.turnedL (t':=s.toks) (fp:=[z,TI,TO,i1,i2]) (fun c o hb q=>eb c o (fun w=>hb (by simp[w])) (fun w=>hb (by simp[w])) (fun w=>hb (by simp[w])) (fun w=>hb (by simp[w])) q) hf⟩
   rcases hx with hx|hx
   . exact .inl (by simp;omega)
   . exact .inr (by simp;omega)
 self:=fun _ _ _ _ _ st h=>wpAny_pyIter_zip st.1 h
theorem C5c(n l l':Nat)(h1:l<n)(h2:l'<n):ZipApart (n+4) (n+2) (n+3) n (n+1) l l':=by
 constructor<;>(show @Ne Nat _ _;omega)
section
variable{X:Cx}{es:List Expr}{k:Nat}{tp:Pos}
noncomputable def J1s (K:Frag) (ta:TA):TI:=fun σ H R=>ta σ H fun vs H1=>∃a b,vs=[.ref a,.ref b]/\(∃xs,SqL K H1 a xs)/\(∃ys,SqL K H1 b ys)/\R (Itz K a b) H1
theorem D0f{a b:Expr}{ta:TA}{p pos:Pos}(hg:Gl X "zip")(hm:X.mg "zip"=none)(ha:PA X [a,b] ta)(hs:starEach [a,b] X.env=[(false,eval a X.env),(false,eval b X.env)]:=by rfl)(hs2:starEach [b] X.env=[(false,eval b X.env)]:=by rfl):
   PI X (.Tuple es k tp) (.Call (.Name "zip" p) [a,b] [] pos) (J1s X.K ta):=by
 intro pins s σ H R I h
 refine Call_ (A8m I hg hm C9e (PyProof.Rows.callWith_type1 (thn (ha pos pins s σ H _ I h) fun us s1 hh_=>?_) (by rw[hs,hs2]) (by rw[hs2];rfl)))
 obtain⟨vs,H1,I1,r1,q1⟩:=hh_
 obtain⟨l,l',e,⟨xs,hq⟩,⟨ys,hr⟩,q⟩:=q1
 subst e
 cases r1 with
 | cons r rr=>
   cases rr with
   | cons r' rr=>
     cases rr
     cases r
     cases r'
     obtain⟨its,rv,pl,_⟩:=I1.list hq
     obtain⟨jts,rw',pl',_⟩:=I1.list hr
     obtain⟨o1,e1,_⟩:=id pl.isList
     obtain⟨o2,e2,_⟩:=id pl'.isList
     have l1:=Heap.lt_size e1
     have l2:=Heap.lt_size e2
     refine call_zip_2 pl.isList pl'.isList fun h' hz hTI hTO h1 h2 hsz hk=>wpAny_pyIter_zip hz ?_
     have I2:Inv X pins σ H1 {s1 with heap:=h'}:=I1.kept (t':=s1.toks) hk
     have D:ZipApart (s1.heap.objs.size+4) (s1.heap.objs.size+2) (s1.heap.objs.size+3) s1.heap.objs.size (s1.heap.objs.size+1) l l':=C5c _ _ _ l1 l2
     refine⟨s1.heap.objs.size+4,[s1.heap.objs.size+4,s1.heap.objs.size+2,s1.heap.objs.size+3,s1.heap.objs.size,s1.heap.objs.size+1],_,_,H1,rfl,I2,C8x l l' _ _ _ _ _ D,⟨hz,hTI,⟨_,_,hTO⟩,h1,h2⟩,fun b hb=>?_,q⟩
     have hb:b=s1.heap.objs.size+4\/b=s1.heap.objs.size+2\/b=s1.heap.objs.size+3\/b=s1.heap.objs.size\/b=s1.heap.objs.size+1:=by simpa using hb
     have ge:s1.heap.objs.size<=b:=by
       rcases hb with rfl|rfl|rfl|rfl|rfl
       . exact Nat.le_add_right _ _
       . exact Nat.le_add_right _ _
       . exact Nat.le_add_right _ _
       . exact Nat.le_refl _
       . exact Nat.le_add_right _ _
     exact I1.fpOk ge (I1.hok.fresh ge)
end
noncomputable def D6m (D:Addr) (H H':Hp):Prop:=∀b o,H b=some o ->b≠D ->H' b=some o
theorem A3c{J:It}{g:TG}{te:TE}{σ0:St}{H1:Hp}{QD:Addr ->Hp ->Prop}{n:Nat}(R:Nat ->V ->Hp ->Prop)(hn:n<=1000)
   (mono:∀i y H' H'' D l,R i y H' ->H' D=some (.lst l) ->D6m D H' H'' ->R i y H'')
   (step:∀i H2 Qy,i<n ->B5 H1 H2 ->(∀y H6,B5 H2 H6 ->R i y H6 ->Qy y H6) ->J.go i H2/\∀x H3,J.yld i H2 x H3 ->g x σ0 H3 fun σ4 H4=>te σ4 H4 Qy)
   (stop:∀H2,B5 H1 H2 ->J.stop n H2)
   (k:∀D H' ys,B5 H1 H' ->H1 D=none ->H' D=some (.lst ys) ->ys.length=n ->(∀i y,ys[i]?=some y ->R i y H') ->QD D H'):∀D,H1 D=none ->
   ∃ (m:Nat) (W:Nat ->List V ->Hp ->Prop),W 0 [] (upd H1 D (.lst []))/\∀i ys H2,W i ys H2 ->i<=m/\H2 D=some (.lst ys)/\((J.stop i H2/\QD D H2)\/(i<m/\J.go i H2/\∀x H3,J.yld i H2 x H3 ->
     g x σ0 H3 fun σ4 H4=>te σ4 H4 fun y H6=>H6 D=some (.lst ys)/\ys.length<sizeLine/\W (i+1) (ys++ [y]) (upd H6 D (.lst (ys++ [y]))))):=by
 intro D hD
 refine⟨n,fun i ys H2=>i<=n/\ys.length=i/\H2 D=some (.lst ys)/\B5 H1 H2/\∀j y,ys[j]?=some y ->R j y H2,⟨Nat.zero_le _,rfl,A6,B5.upd hD,fun j y h=>by simp at h⟩,?_⟩
 rintro i ys H2 ⟨hi,hl,hd,sm,hR⟩
 refine⟨hi,hd,?_⟩
 by_cases hlt:i<n
 . refine .inr ⟨hlt,step i H2 _ hlt sm fun y H6 s6 r6=>?_⟩
   have d6:H6 D=some (.lst ys):=s6 _ _ hd
   have ex:D6m D H6 (upd H6 D (.lst (ys++ [y]))):=fun b o e hb=>by rw[C9 hb];exact e
   refine⟨d6,Nat.lt_of_le_of_lt (by omega:ys.length<=1000) (A0r (Nat.le_refl _)),hlt,by simp[hl],A6,fun b o e=>?_,fun j z hj=>?_⟩
   . rw[C9 (D8 e hD)]
     exact s6 _ _ (sm _ _ e)
   . by_cases hj':j<ys.length
     . rw[List.getElem?_append_left hj'] at hj
       exact mono j z H6 _ D ys (mono j z H2 H6 D ys (hR j z hj) hd fun b o e _=>s6 _ _ e) d6 ex
     . rw[List.getElem?_append_right (by omega)] at hj
       have e0:j-ys.length=0:=by
         apply Classical.byContradiction
         intro q
         rw[List.getElem?_eq_none (by simp;omega)] at hj
         cases hj
       rw[e0] at hj
       have ej:j=i:=by omega
       subst ej
       cases hj
       exact mono _ _ H6 _ D ys r6 d6 ex
 have e:i=n:=by omega
 subst e
 exact .inl ⟨stop H2 sm,k D H2 ys sm hD hd hl hR⟩
theorem C8p{J:It}{g:TG}{tc:TT}{te:TE}{σ0:St}{H1:Hp}{QD:Addr ->Hp ->Prop}{n:Nat}(f:Nat ->Bool)(R:Nat ->V ->Hp ->Prop)(hn:n<=1000)
   (mono:∀i y H' H'' D l,R i y H' ->H' D=some (.lst l) ->D6m D H' H'' ->R i y H'')
   (step:∀(i:Nat) (H2:Hp) (Qy:VK) (Qn:Hp ->Prop),i<n ->B5 H1 H2 ->(f i=true ->∀y H6,B5 H2 H6 ->R i y H6 ->Qy y H6) ->(f i=false ->∀H6,B5 H2 H6 ->Qn H6) ->J.go i H2/\∀x H3,J.yld i H2 x H3 ->g x σ0 H3 fun σ4 H4=>tc σ4 H4 fun b H5=>if b=true then te σ4 H5 Qy else Qn H5)
   (stop:∀H2,B5 H1 H2 ->J.stop n H2)
   (k:∀D H' ys,B5 H1 H' ->H1 D=none ->H' D=some (.lst ys) ->ys.length=((List.range n).filter f).length ->(∀(j i:Nat) (y:V),((List.range n).filter f)[j]?=some i ->ys[j]?=some y ->R i y H') ->QD D H'):∀D,H1 D=none ->
   ∃ (m:Nat) (W:Nat ->List V ->Hp ->Prop),W 0 [] (upd H1 D (.lst []))/\∀i ys H2,W i ys H2 ->i<=m/\H2 D=some (.lst ys)/\((J.stop i H2/\QD D H2)\/(i<m/\J.go i H2/\∀x H3,J.yld i H2 x H3 ->
     g x σ0 H3 fun σ4 H4=>tc σ4 H4 fun b H5=>if b=true then te σ4 H5 fun y H6=>H6 D=some (.lst ys)/\ys.length<sizeLine/\W (i+1) (ys++ [y]) (upd H6 D (.lst (ys++ [y]))) else W (i+1) ys H5)):=by
 intro D hD
 refine⟨n,fun i ys H2=>i<=n/\ys.length=((List.range i).filter f).length/\H2 D=some (.lst ys)/\B5 H1 H2/\∀(j i':Nat) (y:V),((List.range i).filter f)[j]?=some i' ->ys[j]?=some y ->R i' y H2,⟨Nat.zero_le _,rfl,A6,B5.upd hD,fun j i' y h=>by simp at h⟩,?_⟩
 rintro i ys H2 ⟨hi,hl,hd,sm,hR⟩
 refine⟨hi,hd,?_⟩
 by_cases hlt:i<n
 . have fl :((List.range i).filter f).length<=i:=Nat.le_trans (List.length_filter_le _ _) (by simp)
   refine .inr ⟨hlt,step i H2 _ _ hlt sm (fun hf y H6 s6 r6=>?_) (fun hf H6 s6=>?_)⟩
   . have d6:H6 D=some (.lst ys):=s6 _ _ hd
     have ex:D6m D H6 (upd H6 D (.lst (ys++ [y]))):=fun b o e hb=>by rw[C9 hb];exact e
     have ef:(List.range (i+1)).filter f=(List.range i).filter f++ [i]:=by rw[List.range_succ,List.filter_append,List.filter_cons,hf];rfl
     refine⟨d6,Nat.lt_of_le_of_lt (by omega:ys.length<=1000) (A0r (Nat.le_refl _)),hlt,by rw[ef,List.length_append,List.length_append,hl];rfl,A6,fun b o e=>?_,fun j i' z hi' hj=>?_⟩
     . rw[C9 (D8 e hD)]
       exact s6 _ _ (sm _ _ e)
     . rw[ef] at hi'
       by_cases hj':j<ys.length
       . rw[List.getElem?_append_left hj'] at hj
         rw[List.getElem?_append_left (by omega)] at hi'
         exact mono i' z H6 _ D ys (mono i' z H2 H6 D ys (hR j i' z hi' hj) hd fun b o e _=>s6 _ _ e) d6 ex
       . rw[List.getElem?_append_right (by omega)] at hj
         rw[List.getElem?_append_right (by omega)] at hi'
         have e0:j-ys.length=0:=by
           apply Classical.byContradiction
           intro q
           rw[List.getElem?_eq_none (by simp;omega)] at hj
           cases hj
         rw[e0] at hj
         rw[<-hl,e0] at hi'
         cases hj
         cases hi'
         exact mono _ _ H6 _ D ys r6 d6 ex
   . have ef:(List.range (i+1)).filter f=(List.range i).filter f:=by rw[List.range_succ,List.filter_append,List.filter_cons,hf];simp
     refine⟨hlt,by rw[ef];exact hl,s6 _ _ hd,sm.trans s6,fun j i' z hi' hj=>?_⟩
     rw[ef] at hi'
     exact mono i' z H2 H6 D ys (hR j i' z hi' hj) hd fun b o e _=>s6 _ _ e
 have e:i=n:=by omega
 subst e
 exact .inl ⟨stop H2 sm,k D H2 ys sm hD hd hl hR⟩
open AutoSeq1 (wpAny_loadPart')
section
variable{prog:Program}{w:World}{A:Around}{E:Value ->Shared ->Prop}{s:Shared}
theorem G2h{j c:Addr}{i:Nat}{its:Array Value}{x:Value}{Q:Value ->Shared ->Prop}(hi:s.heap.IsTupleIter j c i)(ht:s.heap.IsTuple c its)(hx:its[i]?=some x)
   (k:∀g,g.IsTupleIter j c (i+1) ->Heap.SameBut j s.heap g ->Q x {s with heap:=g}):wpAny (model prog w) A (Builtin.SmallTypes.nextOf (.ref j)) Q E s:=by
 obtain⟨o,ho,oc,od⟩:=id hi
 obtain⟨u,hu,_,n,ud⟩:=ht
 unfold Builtin.SmallTypes.nextOf
 refine wpAny_bind (wpAny_callSpecial?_slot (name:=Str.ofString "__next__") hi.typeIs F.slot_tuple_iterator_next (wpAny_call_entry F.slot_tuple_iterator_next hi.typeIs F.entry_tuple_iterator_next ?_ (F.args_tuple_iterator_next_1 _)))
 show wpAny _ _ (field (.ref j) 0>>=_) _ _ s
 refine wpAny_bind (wpAny_field ho od (x:= .ref c) rfl ?_)
 show wpAny _ _ (if(Value.ref c==Value.none)=true then _ else _) _ _ s
 rw[if_neg (show¬((Value.ref c==Value.none)=true) from Bool.false_ne_true)]
 show wpAny _ _ (field (.ref j) 1>>=_) _ _ s
 refine wpAny_bind (wpAny_field ho od (x:= .int i 0) rfl ?_)
 show wpAny _ _ (seqItems? (.ref c)>>=_) _ _ s
 refine wpAny_bind (wpAny_seqItems hu ud ?_)
 simp only[Int.toNat_natCast,hx]
 refine wpAny_bind (wpAny_setField ho od (by simp) (wpAny_pure ⟨x,rfl,wpAny_pure (k _ ?_ (Heap.SameBut.update ..))⟩))
 exact⟨_,Heap.get?_update_self _ ho (Obj.isFreed_of_fields (Obj.data_mapFields od _)),(Obj.cls_mapFields ..).trans oc,by rw[Obj.data_mapFields od];simp[rawInt]⟩
theorem B9k{j c:Addr}{i:Nat}{its:Array Value}{Q:Value ->Shared ->Prop}(hh:A.handled=none)(hi:s.heap.IsTupleIter j c i)(ht:s.heap.IsTuple c its)(hx:its[i]?=none)
   (k:∀g e,Heap.ExtBut j s.heap g ->(∃o,g.get? e=some o/\o.cls= .type "StopIteration") ->E (.ref e) {s with heap:=g}):wpAny (model prog w) A (Builtin.SmallTypes.nextOf (.ref j)) Q E s:=by
 obtain⟨o,ho,oc,od⟩:=id hi
 obtain⟨u,hu,_,n,ud⟩:=ht
 unfold Builtin.SmallTypes.nextOf
 refine wpAny_bind (wpAny_callSpecial?_slot (name:=Str.ofString "__next__") hi.typeIs F.slot_tuple_iterator_next (wpAny_call_entry F.slot_tuple_iterator_next hi.typeIs F.entry_tuple_iterator_next ?_ (F.args_tuple_iterator_next_1 _)))
 show wpAny _ _ (field (.ref j) 0>>=_) _ _ s
 refine wpAny_bind (wpAny_field ho od (x:= .ref c) rfl ?_)
 show wpAny _ _ (if(Value.ref c==Value.none)=true then _ else _) _ _ s
 rw[if_neg (show¬((Value.ref c==Value.none)=true) from Bool.false_ne_true)]
 show wpAny _ _ (field (.ref j) 1>>=_) _ _ s
 refine wpAny_bind (wpAny_field ho od (x:= .int i 0) rfl ?_)
 show wpAny _ _ (seqItems? (.ref c)>>=_) _ _ s
 refine wpAny_bind (wpAny_seqItems hu ud ?_)
 simp only[Int.toNat_natCast,hx]
 refine wpAny_bind (wpAny_rule (wpAny_bind (wpAny_setField ho od (by simp) ?_)))
 show wpAny _ _ (newExc (.type "StopIteration") ([]:List Value)>>=_) _ _ _
 refine wpAny_bind ?_
 simp only[newExc,newTuple]
 refine wpAny_bind (wpAny_newObj_type ?_ (by size_fits))
 refine wpAny_bind (m:=firstArgMember _ _) (wpAny_of_eq (a:=Value.none) (by simp only[firstArgMember];rfl) ?_)
 refine wpAny_newObj_type ?_ (by size_fits)
 simp only[raiseNew]
 refine wpAny_bind (wpAny_handled ?_)
 first|rw[show A.in1.handled=none from hh]|rw[hh]
 exact wpAny_bind (wpAny_pure (wpAny_throw (k _ _ (((Heap.SameBut.update ..).extBut.push _).push _) ⟨_,Heap.get?_push_size _ rfl,rfl⟩)))
theorem D8c{e j:Addr}{i:Nat}{old:Value}{R:Value ->Heap ->Prop}{Q:Value ->Shared ->Prop}(he:IsEnum s.heap e j i old)(ne:e≠j)
   (keep:∀x h g,R x h ->(∀o,h.get? j=some o ->g.get? j=some o) ->R x g)
   (nx:∀Q':Value ->Shared ->Prop,(∀x g,R x g ->Heap.SameBut j s.heap g ->Q' x {s with heap:=g}) ->wpAny (model prog w) A (Builtin.SmallTypes.nextOf (.ref j)) Q' E s)
   (k:∀x g,R x g ->IsEnumOut g e j ((i:Int)+1) x s.heap.objs.size ->g.get? s.heap.objs.size=some {cls:= .type "tuple",data:= .seq #[.int i s.toks,x]} ->
     (∀b o,b≠e ->b≠j ->s.heap.get? b=some o ->g.get? b=some o) ->Q (.ref s.heap.objs.size) {s with heap:=g,toks:=s.toks+1}):
   wpAny (model prog w) A (Builtin.«enumerate.__next__» ⟨[.ref e], []⟩) (fun fin s' => ∃ v, fin = .done (.ret v) /\ Q v s') E s := by
 obtain⟨hp,gs,dr,tk,os⟩:=s
 show wpAny _ _ (field (.ref e) 2>>=_) _ _ _
 refine wpAny_bind (wpAny_field he rfl (x:= .ref j) rfl ?_)
 refine wpAny_bind (nx _ fun x g1 r1 s1=>?_)
 have s1:Heap.SameBut j hp g1:=s1
 have e1:IsEnum g1 e j i old:=(s1.2 e ne).trans he
 show wpAny _ _ (field (.ref e) 3>>=_) _ _ ⟨g1,gs,dr,tk,os⟩
 refine wpAny_bind (wpAny_field e1 rfl (x:=rawInt i) rfl ?_)
 show wpAny _ _ (field (.ref e) 4>>=_) _ _ ⟨g1,gs,dr,tk,os⟩
 refine wpAny_bind (wpAny_field e1 rfl (x:= .none) rfl ?_)
 show wpAny _ _ (mkInt i>>=_) _ _ ⟨g1,gs,dr,tk,os⟩
 refine wpAny_bind (wpAny_mkInt ?_)
 show wpAny _ _ (setField (.ref e) 3 (rawInt ((i:Int)+1))>>=_) _ _ ⟨g1,gs,dr,tk+1,os⟩
 refine wpAny_bind (wpAny_setField_rec e1 (by simp) fun g2 e2 s2=>?_)
 have s2:Heap.SameBut e g1 g2:=s2
 have e2:IsEnum g2 e j ((i:Int)+1) old:=e2
 show wpAny _ _ (setField (.ref e) 4 .none>>=_) _ _ ⟨g2,gs,dr,tk+1,os⟩
 refine wpAny_bind (wpAny_setField_rec e2 (by simp) fun g3 e3 s3=>?_)
 have s3:Heap.SameBut e g2 g3:=s3
 have e3:IsEnum g3 e j ((i:Int)+1) old:=e3
 show wpAny _ _ (newTuple [.int i tk,x]>>=_) _ _ ⟨g3,gs,dr,tk+1,os⟩
 refine wpAny_bind (wpAny_newTuple ?_)
 have e4:IsEnum (g3.push {cls:= .type "tuple",data:= .seq #[.int i tk,x]}) e j ((i:Int)+1) old:=Heap.get?_push_of_some _ e3
 have sz:g3.objs.size=hp.objs.size:=by rw[s3.1,s2.1,s1.1]
 have t4:(g3.push {cls:= .type "tuple",data:= .seq #[.int i tk,x]}).get? hp.objs.size=some {cls:= .type "tuple",data:= .seq #[.int i tk,x]}:=by rw[<-sz];exact Heap.get?_push_size _ rfl
 have k4:∀b o,b≠e ->b≠j ->hp.get? b=some o ->(g3.push {cls:= .type "tuple",data:= .seq #[.int i tk,x]}).get? b=some o:=fun b o be bj hb=>Heap.get?_push_of_some _ (s3.extBut b o be (s2.extBut b o be (s1.extBut b o bj hb)))
 have r4:R x (g3.push {cls:= .type "tuple",data:= .seq #[.int i tk,x]}):=keep x g1 _ r1 fun o z=>Heap.get?_push_of_some _ (s3.extBut j o (Ne.symm ne) (s2.extBut j o (Ne.symm ne) z))
 generalize g3.push {cls:= .type "tuple",data:= .seq #[.int i tk,x]}=g4 at e4 t4 k4 r4
 have lt:e<hp.objs.size:=Heap.lt_size he
 show wpAny _ _ (Builtin.SmallTypes.ownedTupleIsFree (.ref e)>>=_) _ _ ⟨g4,gs,dr,tk+1,os⟩
 rw[sz]
 refine wpAny_bind ?_
 unfold Builtin.SmallTypes.ownedTupleIsFree
 refine wpAny_bind (wpAny_field e4 rfl (x:= .none) rfl (wpAny_pure ?_))
 simp only[if_true]
 refine wpAny_bind (wpAny_rule ?_)
 refine wpAny_bind (wpAny_field e4 rfl (x:=old) rfl ?_)
 refine wpAny_bind (wpAny_setField_rec e4 (by simp) fun g5 e5 s5=>?_)
 have s5:Heap.SameBut e g4 g5:=s5
 have e5:IsEnum g5 e j ((i:Int)+1) x:=e5
 show wpAny _ _ (Builtin.SmallTypes.ownedTupleHandOut (.ref e) (.ref hp.objs.size)>>=_) _ _ ⟨g5,gs,dr,tk+1,os⟩
 refine wpAny_bind ?_
 unfold Builtin.SmallTypes.ownedTupleHandOut
 refine wpAny_bind (wpAny_setField_rec e5 (by simp) fun g6 e6 s6=>?_)
 have s6:Heap.SameBut e g5 g6:=s6
 have e6:IsEnumOut g6 e j ((i:Int)+1) x hp.objs.size:=e6
 refine wpAny_setField_rec e6 (by simp) fun g7 e7 s7=>?_
 have s7:Heap.SameBut e g6 g7:=s7
 have up:∀b o,b≠e ->g4.get? b=some o ->g7.get? b=some o:=fun b o be z=>s7.extBut b o be (s6.extBut b o be (s5.extBut b o be z))
 exact wpAny_bind (wpAny_letGo (wpAny_pure ⟨_,rfl,k x g7 (keep x g4 g7 r4 fun o z=>up j o (Ne.symm ne) z) e7 (up _ _ (Nat.ne_of_gt lt) t4) fun b o be bj z=>up b o be (k4 b o be bj z)⟩))
theorem C8a{e j c:Addr}{i:Nat}{its:Array Value}{x old:Value}{Q:Option Value ->Shared ->Prop}(he:IsEnum s.heap e j i old)(hi:s.heap.IsTupleIter j c i)(ht:s.heap.IsTuple c its)(hx:its[i]?=some x)(ne:e≠j)
   (k:∀g,g.IsTupleIter j c (i+1) ->IsEnumOut g e j ((i:Int)+1) x s.heap.objs.size ->g.get? s.heap.objs.size=some {cls:= .type "tuple",data:= .seq #[.int i s.toks,x]} ->
     (∀b o,b≠e ->b≠j ->s.heap.get? b=some o ->g.get? b=some o) ->Q (some (.ref s.heap.objs.size)) {s with heap:=g,toks:=s.toks+1}):wpAny (model prog w) A (pyNext (.ref e)) Q E s:=by
 have hT:s.TypeIs (.ref e) "enumerate":=⟨_,he,rfl⟩
 unfold pyNext
 refine wpAny_bind (wpAny_attempt (wpAny_callSpecial?_slot (name:=Str.ofString "__next__") hT F.slot_enumerate_next (wpAny_call_entry F.slot_enumerate_next hT F.entry_enumerate_next ?_ (F.args_enumerate_next_1 _))))
 refine D8c (R:=fun y g=>y=x/\g.IsTupleIter j c (i+1)) he ne (fun y h g r kk=>⟨r.1,let⟨o,z,q⟩:=r.2;⟨o,kk o z,q⟩⟩) (fun Q' kk=>G2h hi ht hx fun g st sb=>kk x g ⟨rfl,st⟩ sb) fun y g r ho hT' hk=>?_
 obtain⟨rfl,st⟩:=r
 exact wpAny_pure (k g st ho hT' hk)
theorem D8a{e j c:Addr}{i:Nat}{its:Array Value}{old:Value}{Q:Option Value ->Shared ->Prop}(hh:A.handled=none)(he:IsEnum s.heap e j i old)(hi:s.heap.IsTupleIter j c i)(ht:s.heap.IsTuple c its)(hx:its[i]?=none)
   (k:∀g,Heap.ExtBut j s.heap g ->Q none {s with heap:=g}):wpAny (model prog w) A (pyNext (.ref e)) Q E s:=by
 have hT:s.TypeIs (.ref e) "enumerate":=⟨_,he,rfl⟩
 unfold pyNext
 refine wpAny_bind (wpAny_attempt (wpAny_callSpecial?_slot (name:=Str.ofString "__next__") hT F.slot_enumerate_next (wpAny_call_entry F.slot_enumerate_next hT F.entry_enumerate_next ?_ (F.args_enumerate_next_1 _))))
 show wpAny _ _ (field (.ref e) 2>>=_) _ _ _
 refine wpAny_bind (wpAny_field he rfl (x:= .ref j) rfl ?_)
 refine wpAny_bind (B9k hh hi ht hx fun g x eb so=>?_)
 obtain⟨o,ho,oc⟩:=so
 exact wpAny_bind (wpAny_isInstance (T:="StopIteration") (b:=true) ⟨o,ho,oc⟩ isSubtype_stop (wpAny_pure (k _ eb)))
theorem D6v(c:Addr)(its:Array Value)(ob:Obj)(oc:ob.cls= .type "tuple")(n:Nat)(od:ob.data= .seq its n):
   Meets (Builtin.«enumerate.__new__» ⟨[.type "enumerate", .ref c], []⟩) (fun _ R s => s.heap.get? c = some ob /\
     R (.ok (.ret (.ref (s.heap.push {cls:= .type "tuple_iterator",data:= .fields #[.ref c,.int 0 0]}).objs.size)))
       {s with heap:=(s.heap.push {cls:= .type "tuple_iterator",data:= .fields #[.ref c,.int 0 0]}).push {cls:= .type "enumerate",data:= .fields #[.none,.bool false,.ref s.heap.objs.size,rawInt 0,.none,.none]}}):=
 .of_wp fun prog w A R s h=>by
   obtain⟨hp,gs,dr,tk,os⟩:=s
   obtain⟨hc,h⟩:=h
   obtain⟨cl,dct,dt,sl⟩:=ob
   have oc:cl= .type "tuple":=oc
   have od:dt= .seq its n:=od
   subst oc od
   have hsub:=sub_enumerate
   have hL:Heap.IsTuple (Shared.heap ⟨hp,gs,dr,tk,os⟩) c its:=⟨_,hc,rfl,n,rfl⟩
   wp_walk using wpAny_loadPart' hc
   refine wpAny_stack_any fun st=>wpAny_pure ?_
   split
   . rename_i ty _ _ _ _ _
     cases(ty==Value.type "enumerate")
     . wp_walk using wpAny_loadPart' hc,wpAny_pyIter_tuple hL
       exact⟨_,rfl,h⟩
     . wp_walk using wpAny_loadPart' hc,wpAny_pyIter_tuple hL
       exact⟨_,rfl,h⟩
   . wp_walk using wpAny_loadPart' hc,wpAny_pyIter_tuple hL
     exact⟨_,rfl,h⟩
theorem A6g{c:Addr}{its:Array Value}{Q:Value ->Shared ->Prop}(hL:s.heap.IsTuple c its)
   (h:∀g,IsEnum g (s.heap.objs.size+1) s.heap.objs.size 0 .none ->g.IsTupleIter s.heap.objs.size c 0 ->(∀b o,s.heap.get? b=some o ->g.get? b=some o) ->Q (.ref (s.heap.objs.size+1)) {s with heap:=g}):
   wpAny (model prog w) A (call (.type "enumerate") [.ref c]) Q E s:=by
 obtain⟨ob,hc,oc,n,od⟩:=hL
 refine callType_new F.called_enumerate (by decide) (F.typeCall_enumerate_1 _) (F.newCall_enumerate_1 _) (fun obj=>F.args_object_init_2 obj _) F.entry_enumerate_new (D6v c its ob oc n od) ⟨hc,?_⟩
 have hz:(s.heap.push {cls:= .type "tuple_iterator",data:= .fields #[.ref c,.int 0 0]}).objs.size=s.heap.objs.size+1:=Heap.size_push ..
 show _/\_
 rw[hz]
 have he:IsEnum ((s.heap.push {cls:= .type "tuple_iterator",data:= .fields #[.ref c,.int 0 0]}).push {cls:= .type "enumerate",data:= .fields #[.none,.bool false,.ref s.heap.objs.size,rawInt 0,.none,.none]}) (s.heap.objs.size+1) s.heap.objs.size 0 .none:=by
   have q:=Heap.get?_push_size (s.heap.push {cls:= .type "tuple_iterator",data:= .fields #[.ref c,.int 0 0]}) (o:={cls:= .type "enumerate",data:= .fields #[.none,.bool false,.ref s.heap.objs.size,rawInt 0,.none,.none]}) rfl
   rw[hz] at q
   exact q
 exact⟨⟨_,he,rfl⟩,h _ he ⟨_,Heap.get?_push_of_some _ (Heap.get?_push_size _ rfl),rfl,rfl⟩ fun b o x=>Heap.get?_push_of_some _ (Heap.get?_push_of_some _ x)⟩
end
noncomputable def G3a (K:Frag) (a:Addr):It:=
 ⟨fun i H=>∃xs x,SqT K H a xs/\xs[i]?=some x,fun i H x H'=>∃t y,x= .ref t/\H t=none/\H'=upd H t (.tup [.int i,y])/\∀xs,SqT K H a xs ->xs[i]?=some y,fun i H=>∃xs,SqT K H a xs/\xs.length<=i⟩
theorem C0t{P:Program}{w:World}{K:Frag}{es:List Expr}{k:Nat}{pos:Pos}(a e it:Addr)(hei:e≠it):C7a P w K (.Tuple es k pos) (G3a K a) [e,it] e (fun i h=>(∃old,IsEnum h e it i old)/\h.IsTupleIter it a i) where
 mem:=by simp
 obj:=fun i h st b hb=>by
   obtain⟨⟨old,he⟩,o,eo,c,d⟩:=st
   rcases(by simpa using hb:b=e\/b=it) with rfl|rfl
   . exact⟨_,he,fun v z=>by
       have z':Data.fields _=Data.cell v:=z
       cases z'⟩
   . exact⟨o,eo,fun v z=>by rw[d] at z;cases z⟩
 keep:=fun i h h' st k=>by
   obtain⟨⟨old,he⟩,hit⟩:=st
   exact⟨⟨old,k e (by simp) _ he⟩,hit.at fun o x=>k it (by simp) o x⟩
 item:=by
   intro X hP hw hK hc i pins s σ H E I hf st hg
   subst hP hw hK
   obtain⟨xs,x,hq,hx⟩:=hg
   obtain⟨its,rv,p,hz⟩:=I.tuple hq
   obtain⟨u,hu,ru⟩:=rv.get hx
   obtain⟨⟨old,he⟩,hit⟩:=st
   have elt:e<s.heap.objs.size:=Heap.lt_size he
   have ilt:it<s.heap.objs.size:=by obtain⟨o,z,_⟩:=hit;exact Heap.lt_size z
   refine C8a he hit (show s.heap.IsTuple a its.toArray from p) (x:=u) (by simpa using hu) hei fun h1 hit1 ho hT hk=>?_
   refine⟨_,rfl,wpAny_letOwnedTupleGo_enum ho fun h2 he2 hs2=>?_⟩
   have hs2:Heap.SameBut e h1 h2:=hs2
   obtain⟨I2,hn⟩:=I.paired (h':=h2) (t':=s.toks+1) (fp:=[e,it]) (x:= .int i) (y:=x) (u:= .int i s.toks) (v:=u) ⟨_,rfl⟩ ru hf
     (fun b hb=>by rcases(by simpa using hb:b=e\/b=it) with rfl|rfl<;>assumption)
     (fun b o hb z=>(hs2.2 b (fun q=>hb (by simp[q]))).trans (hk b o (fun q=>hb (by simp[q])) (fun q=>hb (by simp[q])) z)) ((hs2.2 _ (Nat.ne_of_gt elt)).trans hT)
   refine⟨.ref s.heap.objs.size,_,I2,rfl,⟨_,x,rfl,I.hok.fresh (Nat.le_refl _),rfl,fun ys hy=>by rw[I.tuple_inj hy hq];exact hx⟩,⟨⟨u,?_⟩,hit1.at fun o y=>(hs2.2 it hei.symm).trans y⟩,hn⟩
   have:((i+1:Nat):Int)=(i:Int)+1:=by push_cast;rfl
   rw[this]
   exact he2
 done:=by
   intro X hP hw hK hc i pins s σ H E I hf st hg
   subst hP hw hK
   obtain⟨xs,hq,hx⟩:=hg
   obtain⟨its,rv,p,hz⟩:=I.tuple hq
   obtain⟨⟨old,he⟩,hit⟩:=st
   have hl:=rv.length
   exact D8a (I.ok.hd hc) he hit (show s.heap.IsTuple a its.toArray from p) (by simp;omega) fun h' eb=>⟨rfl,I.turnedL (t':=s.toks) (fp:=[e,it]) (fun b o hb z=>eb b o (fun q=>hb (by simp[q])) z) hf⟩
 self:=fun _ _ _ _ _ st h=>by
   obtain⟨⟨old,he⟩,hit⟩:=st
   exact wpAny_pyIter_enum he h
section
variable{X:Cx}{es:List Expr}{k:Nat}{tp:Pos}
noncomputable def G1z (K:Frag) (ta:TA):TI:=fun σ H R=>ta σ H fun vs H1=>∃a,vs=[.ref a]/\(∃xs,SqT K H1 a xs)/\R (G3a K a) H1
theorem C7n{a:Expr}{ta:TA}{p pos:Pos}(hg:Gl X "enumerate")(hm:X.mg "enumerate"=none)(ha:PA X [a] ta)(hs:starEach [a] X.env=[(false,eval a X.env)]:=by rfl):PI X (.Tuple es k tp) (.Call (.Name "enumerate" p) [a] [] pos) (G1z X.K ta):=by
 intro pins s σ H R I h
 refine Call_ (A8m I hg hm B2g (PyProof.Rows.callWith_type1 (thn (ha pos pins s σ H _ I h) fun us s1 hh_=>?_) hs rfl))
 obtain⟨vs,H1,I1,r1,q1⟩:=hh_
 obtain⟨l,e,⟨xs,hq⟩,q⟩:=q1
 subst e
 cases r1 with
 | cons r rr=>
   cases rr
   cases r
   obtain⟨its,rv,pl,hz⟩:=I1.tuple hq
   refine A6g (show s1.heap.IsTuple l its.toArray from pl) fun h' he hit hk=>wpAny_pyIter_enum he ?_
   have I2:Inv X pins σ H1 {s1 with heap:=h'}:=I1.kept (t':=s1.toks) hk
   refine⟨s1.heap.objs.size+1,[s1.heap.objs.size+1,s1.heap.objs.size],_,_,H1,rfl,I2,C0t l _ _ (Nat.succ_ne_self _),⟨⟨.none,he⟩,hit⟩,fun b hb=>?_,q⟩
   rcases(by simpa using hb:b=s1.heap.objs.size+1\/b=s1.heap.objs.size) with rfl|rfl
   . exact I1.fpOk (Nat.le_add_right _ _) (I1.hok.fresh (Nat.le_add_right _ _))
   . exact I1.fpOk (Nat.le_refl _) (I1.hok.fresh (Nat.le_refl _))
end
end L2
namespace L2
open PySem PySem.Spec PyProof.Rows PySem.W
section
variable{X:Cx}
theorem B5b:A1b X (.builtin "divmod") (fun xs H Q=>∃i j:Int,xs=[.int i,.int j]/\(0<j/\j.natAbs.log2<9000)/\∀p,H p=none ->Q (.ref p) (upd H p (.tup [.int (i/j),.int (i % j)]))):=by
 intro pins s σ H xs us Q I r h
 obtain⟨i,j,rfl,⟨h1,h2⟩,q⟩:=h
 obtain⟨u,w',rfl,⟨t,rfl⟩,⟨t',rfl⟩⟩:=B8x r
 refine divmod_int (by omega) ?_ (.inl (PyProof.noPylong_of_log2 h2))
 rw[Int.fdiv_eq_ediv_of_nonneg i (by omega),Int.fmod_eq_emod_of_nonneg i (by omega)]
 refine⟨.ref s.heap.objs.size,upd H s.heap.objs.size (.tup [.int (i/j),.int (i % j)]),I.laid (fun b o e=>Heap.get?_push_of_some _ e) (Nat.le_refl _) ⟨D3 (by show 2<=1000;decide),[.int (i/j) s.toks,.int (i % j) (s.toks+1)],.cons ⟨_,rfl⟩ (.cons ⟨_,rfl⟩ .nil),⟨_,Heap.get?_push_size s.heap rfl,rfl,0,rfl⟩⟩,rfl,q _ (I.hok.fresh (Nat.le_refl _))⟩
end
end L2
namespace L2
open PySem PySem.W PyProof.Rows
section
variable{X:Cx}{o e:Expr}{ta:TE}{m:Str}{apos pos:Pos}{j k:Nat}{ps:List Str}{ι:Type}{cw f:ι ->Addr}{fd:ι ->FuncData}{sp:ι ->Sp}{EH:EK}
end
section
variable{X:Cx}{a b e o:Expr}{es:List Expr}{ta tb te to:TE}{t:TA}{pos:Pos}{st:Stmt}{rest:List Stmt}{ts u:TS}
end
end L2
namespace L2
open PySem PySem.Spec PyProof.Rows PySem.W
section
variable{X:Cx}{x f:Str}{p cpos pos:Pos}{e:Expr}{t:TA}{C fI:Addr}{fdI:FuncData}{ps:List Str}{j k:Nat}
end
section
variable{X:Cx}{x y:Str}{e:Expr}{t:TE}{p q:Pos}{pos pos2:Pos}
end
end L2
namespace L2
open PySem PySem.Spec PyProof.Rows
end L2
namespace L2
open PySem PySem.Spec PyProof.Rows PySem.W
mutual
inductive RdR(H:Hp):V ->PyData ->Prop where
 |non:RdR H .non .none
 |bl (b:Bool):RdR H (.bl b) (.bool b)
 |int (i:Int):RdR H (.int i) (.int i)
 |str (x:Str):RdR H (.str x) (.str x)
 |tup {a:Addr} {xs:List V} {ds:List PyData} (h:H a=some (.tup xs)) (r:A5v H xs ds):RdR H (.ref a) (.tuple ds)
 |lst {a:Addr} {xs:List V} {ds:List PyData} (h:H a=some (.lst xs)) (n:a≠sysModules) (r:A5v H xs ds):RdR H (.ref a) (.list ds)
 |dct0 {a:Addr} (h:H a=some (.dK [])):RdR H (.ref a) (.dict [])
 |dct1 {a:Addr} {z:Str} {b:Bool} (h:H a=some (.dK [(.inr z,.bl b)])):RdR H (.ref a) (.dict [(.str z,.bool b)])
inductive A5v(H:Hp):List V ->List PyData ->Prop where
 |nil:A5v H [] []
 |cons {x:V} {xs:List V} {d:PyData} {ds:List PyData} (h:RdR H x d) (r:A5v H xs ds):A5v H (x::xs) (d::ds)
end
mutual
theorem RdR.same{H H':Hp}(s:∀b o,H b=some o ->H' b=some o):∀{x:V} {d:PyData},RdR H x d ->RdR H' x d
 |_,_,.non=> .non
 |_,_,.bl b=> .bl b
 |_,_,.int i=> .int i
 |_,_,.str x=> .str x
 |_,_,.tup h r=> .tup (s _ _ h) (A5v.same s r)
 |_,_,.lst h n r=> .lst (s _ _ h) n (A5v.same s r)
 |_,_,.dct0 h=> .dct0 (s _ _ h)
 |_,_,.dct1 h=> .dct1 (s _ _ h)
theorem A5v.same{H H':Hp}(s:∀b o,H b=some o ->H' b=some o):∀{x:List V} {d:List PyData},A5v H x d ->A5v H' x d
 |_,_,.nil=> .nil
 |_,_,.cons h r=> .cons (RdR.same s h) (A5v.same s r)
end
section
variable{X:Cx}
mutual
theorem RdR.reads{pins:List (Addr×Obj)}{σ:St}{H:Hp}{s:Shared}(I:Inv X pins σ H s):∀{x:V} {d:PyData} {u:Value},RdR H x d ->U9 x u ->∃as,Reads s.heap u d as/\sysModules ∉ as
 |_,_,_,.non,r=>by cases r;exact⟨_,.none,by simp⟩
 |_,_,_,.bl b,r=>by cases r;exact⟨_,.bool b,by simp⟩
 |_,_,_,.int i,r=>by obtain⟨t,rfl⟩:=r;exact⟨_,.int i t,by simp⟩
 |_,_,_,.str x,r=>by obtain⟨t,rfl⟩:=r;exact⟨_,.str x t,by simp⟩
 | _,_,_,.tup h q,r=>by
   cases r
   obtain⟨_,its,rv,o,e,c,n,d⟩:=I.hok _ _ h
   obtain⟨as,z,y⟩:=A5v.reads I q rv
   exact⟨_,.tuple e c d (by simpa using z),y⟩
 | _,_,_,.lst (a:=a) h nn q,r=>by
   cases r
   obtain⟨_,its,n,rv,e⟩:=I.hok _ _ h
   obtain⟨as,z,y⟩:=A5v.reads I q rv
   refine⟨_,.list e rfl rfl (by simpa using z),fun hm=>?_⟩
   rcases List.mem_cons.mp hm with hm|hm
   . exact nn hm.symm
   . exact y hm
 | _,_,_,.dct0 (a:=a) h,r=>by
   cases r
   obtain⟨_,nS,vs,kv,o,es,ep,e,c,d,_,ps,_⟩:=I.hok _ _ h
   cases kv
   cases hp:es.toList with
   |cons _ _=>rw[hp] at ps;cases ps
   | nil=>
     refine⟨_,.dict (kvs:=[]) e c.1 d (by rw[hp];exact .nil) (by rw[hp];exact .nil),fun hm=>?_⟩
     exact beq_eq_false_iff_ne.mp nS (by simpa using hm:sysModules=a).symm
 | _, _, _,.dct1 (a:=a) (z:=z) (b:=b) h,r=>by
   cases r
   obtain⟨_,nS,vs,kv,o,es,ep,e,c,d,_,ps,_⟩:=I.hok _ _ h
   cases kv with
   | cons k1 k2=>
     cases k2
     obtain⟨k1a,k1b⟩:=k1
     cases ps':es.toList with
     |nil=>rw[ps'] at ps;cases ps
     | cons en rest=>
       rw[ps'] at ps
       cases ps with
       | cons p1 p2 p3=>
         cases p3
         have hk:∃t,en.key= .str z t:=by
           rw[<-k1a] at p1
           have p1:Value.isStrOf z en.key=true:=p1
           cases hk:en.key<;>rw[hk] at p1<;>simp[Value.isStrOf] at p1
           subst p1
           exact⟨_,rfl⟩
         obtain⟨t,hk⟩:=hk
         have hv:en.val= .bool b:=p2.trans k1b
         refine⟨_,.dict (kvs:=[(.str z,.bool b)]) e c.1 d (by rw[ps'];show ReadsAll s.heap [en.key] [.str z] _;rw[hk];exact .cons (.str z t) .nil) (by rw[ps'];show ReadsAll s.heap [en.val] [.bool b] _;rw[hv];exact .cons (.bool b) .nil),fun hm=>?_⟩
         exact beq_eq_false_iff_ne.mp nS (by simpa using hm:sysModules=a).symm
theorem A5v.reads{pins:List (Addr×Obj)}{σ:St}{H:Hp}{s:Shared}(I:Inv X pins σ H s):∀{xs:List V} {ds:List PyData} {us:List Value},A5v H xs ds ->G7 xs us ->∃as,ReadsAll s.heap us ds as/\sysModules ∉ as
 |_,_,_,.nil,r=>by cases r;exact⟨_,.nil,by simp⟩
 | _,_,_,.cons h q,r=>by
   cases r with
   | cons r1 r2=>
     obtain⟨as,z,n1⟩:=RdR.reads I h r1
     obtain⟨bs,y,n2⟩:=A5v.reads I q r2
     exact⟨_,.cons z y,by simp[n1,n2]⟩
end
end
section
variable{X:Cx}{j k:Nat}{f C:Addr}{fd:FuncData}{ps:List Str}{sp:Sp}{dvs:List V}{ds:List Value}{x m:Str}{p pos apos:Pos}{e o:Expr}{es:List Expr}{ta:TE}{t:TA}{st:Stmt}
theorem C4u{pins:List (Addr×Obj)}{σ:St}{H:Hp}{s:Shared}{Q:VK}{us:List Value}{vs:List V}(M:Mk X.K C f)(F:G0 X.prog X.w X.K X.mg X.base (CX1 X.prog X.w) k f fd ps sp)(hr:A0p (k+1) X.A)(hb:V9 X.K fd ps ds)(hd:G7 dvs ds)
   (I:Inv X pins σ H s) (r:G7 vs us)
   (h:∀x dx,H x=none ->H dx=none ->dx≠x ->sp (.ref x::(vs++dvs)) (upd (upd H dx (.own x)) x (.ins C dx [])) (fun v H2=>v= .non/\Q (.ref x) H2) (fun C d H'=>EKF C d σ H')):
   wpAny (model X.prog X.w) X.A (call (.ref C) us) (EP X pins σ Q) X.xe s:=by
 have hq:=h (s.heap.objs.size+1) s.heap.objs.size (I.hok.fresh (Nat.le_succ _)) (I.hok.fresh (Nat.le_refl _)) (Nat.ne_of_lt (Nat.lt_succ_self _))
 have I2:=Inv.made (C:=C) I
 have r2:G7 (V.ref (s.heap.objs.size+1)::(vs++dvs)) (Value.ref (s.heap.objs.size+1)::(us++ds)):= .cons rfl (r.append hd)
 have hl:(Value.ref (s.heap.objs.size+1)::us++ds).length=ps.length:=by
   have e:=r2.length
   rw[F.len _ _ _ _ hq] at e
   exact e.symm
 refine wpAny_call (B8v (f:=f) I.kIn M.makes M.init (beq_iff_eq.mp M.fn) (codeAny_mono (F.run _ X.stack _ _ ⟨Value.ref (s.heap.objs.size+1)::us,[]⟩ (Value.ref (s.heap.objs.size+1)::(us++ds)) _ _ _ (hr.make C us [])
   (I2.env0.make C us []) (hb _ (Value.ref (s.heap.objs.size+1)::us) I2.kIn hl) r2 hq) fun r s' hq'=>?_))
 cases r with
 | error e=>
   obtain⟨a,t,C,dd,H',_,_,_,_,_,hE,_⟩:=hq'
   exact False.elim hE
 | ok fl=>
   cases fl with
   | ret u=>
     obtain⟨v,H',I3,rv,ev,q3⟩:=I2.after hq'
     subst ev
     exact⟨rv,⟨V.ref (s.heap.objs.size+1),H',I3,rfl,q3⟩⟩
   |next=>exact False.elim hq'
   |brk=>exact False.elim hq'
   |cont=>exact False.elim hq'
theorem G1n(M:Mk X.K C f)(F:G0 X.prog X.w X.K X.mg X.base (CX1 X.prog X.w) j f fd ps sp)(hr:A0p k X.A)(hm:X.mg x=some (.ref C))(hb:V9 X.K fd ps ds)(hd:G7 dvs ds)
   (ha:PA X (e::es) t) (hj:j+1<=k:=by decide) (hg:Gl X x:=by rfl) (hdb:(x==("__debug__":Str))=false:=by decide) (he:starEach (e::es) X.env=(false,eval e X.env)::starEach es X.env:=by rfl) (hpl:(backTo pos (starEach es X.env)).any (·.1)=false:=by rfl):
   PE X (.Call (.Name x p) (e::es) [] pos) (C8g C sp dvs EKF t):=by
 intro pins s σ H Q I h
 refine wpAny_Call_Name_kw (Z8 I hg hm ?_ hdb)
 refine callWith_K (h₀:=X.base) I.ok.mod.kin M.kp (thn (ha pos pins s σ H _ I h) fun us s1 ⟨vs,H1,I1,r,q⟩=>⟨I1.kIn,?_⟩) he hpl
 exact C4u M F (hr.mono hj) hb hd I1 r q
end
section
variable{cs:List Addr}{H H' H2:Hp}{b:Addr}{P:Program}{w:World}{h h':Heap}{fs:List Addr}
end
section
variable{X:Cx}{j k:Nat}{f:Addr}{fd:FuncData}{ps:List Str}{sp:Sp}{ds:List Value}{EH:EK}{x:Str}{p pos:Pos}{e:Expr}{es:List Expr}{t:TA}{st:Stmt}
end
section
variable{X:Cx}
end
theorem SqL.kept{K:Frag}{H H':Hp}{a:Addr}{xs:List V}(h:SqL K H a xs)(s:∀o,H a=some o ->(o= .lst xs\/∃oc,o= .frz oc (.lst xs)) ->H' a=some o):SqL K H' a xs:=by
 rcases h with(h|⟨o,h⟩)|h
 . exact .inl (.inl (s _ h (.inl rfl)))
 . exact .inl (.inr ⟨o,s _ h (.inr ⟨o,rfl⟩)⟩)
 exact .inr h
section
variable{X:Cx}{tg:Expr}
end
section
variable{X:Cx}
end
section
variable{prog:Program}{w:World}{A:Around}{E:Value ->Shared ->Prop}{s:Shared}
end
section
variable{X:Cx}{pos:Pos}
end
section
variable{X:Cx}{pos tpos pa pb:Pos}
end
section
variable{X:Cx}{N F:List Str}{js:List Nat}{scope:Scope}
end
section
variable{X:Cx}{tg:Expr}
end
section
variable{X:Cx}{pins:List (Addr×Obj)}{σ:St}{H:Hp}{s:Shared}
end
section
variable{X:Cx}{tg:Expr}
end
end L2
namespace TR
open PySem L2 PySem.W PyProof.Rows
structure G3s(K:Frag):Prop where
 isi:nsIn K mainGlobals "isinstance"=some none
 int_:nsIn K mainGlobals "int"=some none
 bool_:nsIn K mainGlobals "bool"=some none
 str_:nsIn K mainGlobals "str"=some none
 list_:nsIn K mainGlobals "list"=some none
 tuple_:nsIn K mainGlobals "tuple"=some none
 dict_:nsIn K mainGlobals "dict"=some none
 len_:nsIn K mainGlobals "len"=some none
 range_:nsIn K mainGlobals "range"=some none
 min_:nsIn K mainGlobals "min"=some none
 max_:nsIn K mainGlobals "max"=some none
 abs_:nsIn K mainGlobals "abs"=some none
 any_:nsIn K mainGlobals "any"=some none
 all_:nsIn K mainGlobals "all"=some none
 sum_:nsIn K mainGlobals "sum"=some none
 repr_:nsIn K mainGlobals "repr"=some none
 enumerate_:nsIn K mainGlobals "enumerate"=some none
 reversed_:nsIn K mainGlobals "reversed"=some none
 zip_:nsIn K mainGlobals "zip"=some none
 sorted_:nsIn K mainGlobals "sorted"=some none
 divmod_:nsIn K mainGlobals "divmod"=some none
 set_:nsIn K mainGlobals "set"=some none
 ValueError_:nsIn K mainGlobals "ValueError"=some none
theorem G3s.go{K:Frag}{h:Heap}{mg:Str ->Option Value}(u:G3s K)(X:K.In h)(G:h.Ns mainGlobals mg):Own mg:=⟨mg_none_of X G u.isi,mg_none_of X G u.int_,mg_none_of X G u.bool_,mg_none_of X G u.str_,mg_none_of X G u.list_,mg_none_of X G u.tuple_,mg_none_of X G u.dict_,mg_none_of X G u.len_,mg_none_of X G u.range_,mg_none_of X G u.min_,mg_none_of X G u.max_,mg_none_of X G u.abs_,mg_none_of X G u.any_,mg_none_of X G u.all_,mg_none_of X G u.sum_,mg_none_of X G u.repr_,mg_none_of X G u.enumerate_,mg_none_of X G u.reversed_,mg_none_of X G u.zip_,mg_none_of X G u.sorted_,mg_none_of X G u.divmod_,mg_none_of X G u.set_,mg_none_of X G u.ValueError_⟩
end TR
namespace L2
open PySem PySem.Spec PyProof.Rows PySem.W
section
variable{X:Cx}{j k:Nat}{f:Addr}{EH:EK}{x y:Str}{p p1 pos:Pos}
end
section
variable{X:Cx}{N F:List Str}{js:List Nat}{scope:Scope}
end
section
variable{X:Cx}{N F:List Str}{js:List Nat}{scope:Scope}
end
structure A1k(X:Cx)(EH:EK):Prop where
 c:V1 X EH
 hd:Y4 X
 q:X.A.handled=none\/∀C d σ H,¬EH C d σ H
structure C6(P:Program)(w:World)(K:Frag)(mg:Str ->Option Value)(base:Heap)(k:Nat)(f:Addr)(fd:FuncData)(ps:List Str)(sp:Sp):Prop where
 len:∀vs H Q E,sp vs H Q E ->vs.length=ps.length
 run:∀(A:Around) (outer:List Env) (s:Shared) (H:Hp) (args:Args) (us:List Value) (vs:List V) (Q:VK) (E:XK),Y2 k A ->A9n P w K mg base A outer s H ->HdH A H ->(A.handled=none\/∀C d H',¬E C d H') ->BindsTo s fd args (ps.zip us) ->G7 vs us ->sp vs H Q E ->
   codeAny (model P w) A (.call (.ref f) args) (CR (CX1 P w) outer P w H s Q E) s
section
variable{P:Program}{w:World}{K:Frag}{mg:Str ->Option Value}{base:Heap}{k:Nat}{f:Addr}{fd:FuncData}{ps:List Str}{sp:Sp}
theorem C6.mono{j:Nat}(F:C6 P w K mg base j f fd ps sp)(h:j<=k):C6 P w K mg base k f fd ps sp:=⟨F.len,fun A outer s H args us vs Q E hr=>F.run A outer s H args us vs Q E (hr.mono h)⟩
theorem C6.fn(F:C6 P w K mg base k f fd ps sp):G0 P w K mg base (CX1 P w) k f fd ps sp:=⟨F.len,fun A outer s H args us vs Q E hr e0 hb r hsp=>F.run A outer s H args us vs Q E hr.h e0 (.inl hr.hd) (.inl hr.hd) hb r hsp⟩
theorem C6.h(F:C6 P w K mg base k f fd ps sp):B4v P w K mg base k f fd ps sp:=by
 refine⟨F.len,fun A outer s H args us vs Q hr e0 hd hb r hsp=>codeAny_mono (F.run A outer s H args us vs Q E0 hr e0 hd (.inr fun _ _ _ z=>z) hb r hsp) fun r s' q=>?_⟩
 cases r with
 | error e=>
   obtain⟨a,t,C,dd,H',_,_,_,_,_,hE,_⟩:=q
   exact hE.elim
 |ok fl=>cases fl<;>exact q
end
noncomputable abbrev A5y (P:Program) (w:World) (K:Frag) (mg:Str ->Option Value) (base:Heap) (N:List Str) (qual:Str) (scope:Scope) (f:Addr) (cd:Value) (A:Around) (outer:List Env) (s:Shared) (H:Hp) (E:XK):Cx:=
 {A2d (CX1 P w) P w K mg base N qual scope f cd A outer s H E with calm:=false}
theorem A9a{P:Program}{w:World}{K:Frag}{mg:Str ->Option Value}{base:Heap}{N:List Str}{qual:Str}{scope:Scope}{f:Addr}{cd:Value}{A:Around}{outer:List Env}{s:Shared}{H:Hp}{E:XK}:
   V1 (A5y P w K mg base N qual scope f cd A outer s H E) (fun C dd _ H'=>E C dd H'):=by
 intro pins σ H' s' a t C dd I F h
 refine B3y (X:=A5y P w K mg base N qual scope f cd A outer s H E) ⟨rfl,rfl,rfl⟩ I F fun s2 I2 F2=>?_
 obtain⟨na,T,oT,ts,e,ne,nT,eT,dT,h3⟩:=F2
 exact⟨a,t,C,dd,H',rfl,I2.os,I2.bare,I2.base,I2.hok,h,⟨na.old,na.un⟩,T,oT,ts,e,ne,⟨nT.old,nT.un⟩,eT,dT,h3⟩
section
variable{P:Program}{w:World}{K:Frag}{mg:Str ->Option Value}{base:Heap}
theorem Fun.ok2{x qual:Str}{st:Stmt}{f:Addr}{fd:FuncData}{N ps:List Str}{k:Nat}{sp:Sp}(F:Fun K x qual st f fd)(S:B8 N ps (A5 st))(len:∀vs H Q E,sp vs H Q E ->vs.length=ps.length)
   (hbody:∀(X:Cx) (cdv:Value) (A:Around) (outer:List Env) (s:Shared) (H:Hp) (vs:List V) (Q:VK) (E:XK),X=A5y P w K mg base N qual (A5 st) f cdv A outer s H E ->Y2 k X.A ->A1k X (fun C dd _ H'=>E C dd H') ->sp vs H Q E ->
     ∃t,PSs (A5y P w K mg base N qual (A5 st) f cdv A outer s H E) (J0 st) t/\t {nx:=fun _ H'=>Q .non H',rt:=Q} (A1r N vs) H):C6 P w K mg base (k+1) f fd ps sp:=by
 obtain⟨oc,od,kV,doc,pm,an,cdv,ct,osl,rfl,lk,hcd⟩:=F.ex
 refine⟨len,fun A outer s H args us vs Q E hr e0 hdh hq2 hb r hsp=>?_⟩
 have hl:=len _ _ _ _ hsp
 have KX:K.In s.heap:=e0.mod.kin.keeps fun b o e=>(e0.bs b o e).1
 have lim:s.heap.NoLimit:=e0.mod.nolimit.keeps fun b o e=>(e0.bs b o e).1
 have hkind:∀y∈ps.zip us,(A5 st).names.lookup y.1=some .local\/((A5 st).names.lookup y.1=some .cell/\((cellsFrom (s.heap.objs.size+1) (A5 st).names []).lookup y.1).isSome=true):=fun⟨n,v⟩ hy=>by
   rcases S.par n (List.of_mem_zip hy).1 with q|q
   . exact .inl q
   . exact .inr ⟨q,PySem.W.cellsFrom_some _ _ _ (.inl q)⟩
 refine codeAny_call_function hr.depth (KX _ _ lk) rfl S.co S.gen rfl (PySem.W.codeRec_of KX hcd) (hb _ _ _ _ ?_)
 refine wpAny_newFunctionEnv_cells S.kind hkind fun env he s1 x=>?_
 subst he
 refine⟨lim.keeps x.toInCall.keep,codeAny_func ?_⟩
 obtain⟨t,ht,hq⟩:=hbody _ cdv A outer s H vs Q E rfl (hr.deeper _) ⟨A9a,hdh,hq2.imp id fun z C d _ H'=>z C d H'⟩ hsp
 have I0:Inv (A2d (CX1 P w) P w K mg base N qual (A5 st) f cdv (L2.quiet A) outer s H E) [] (A1r N vs) H s1:=A7t S rfl e0.quiet hl r x
 have I:Inv (A5y P w K mg base N qual (A5 st) f cdv A outer s H E) [] (A1r N vs) H s1:=
   Inv.loud (X:=A2d (CX1 P w) P w K mg base N qual (A5 st) f cdv (L2.quiet A) outer s H E) (A:=A.deeper (envOfC qual (A5 st) s.heap.objs.size f cdv)) rfl I0
 refine wpAny_mono (ht [] s1 (A1r N vs) H _ I hq) (fun fl s' hs=>?_) fun e s' hs=>hs
 have fin:∀{σ':St} {H':Hp} {v:V} {u:Value},Inv (A5y P w K mg base N qual (A5 st) f cdv A outer s H E) [] σ' H' s' ->U9 v u ->Q v H' ->CE outer P w H s Q u s':=
   fun{σ' H' v u} J rv q=>⟨v,H',J.os,J.bare,J.base,J.hok,rv,q⟩
 cases fl with
 | ret u=>
   obtain⟨v,σ',H',J,rv,q⟩:=hs
   exact fin J rv q
 | next=>
   obtain⟨σ',H',J,q⟩:=hs
   exact fin (v:=V.non) (u:=Value.none) J rfl q
 | brk=>
   obtain⟨_,_,_,q⟩:=hs
   exact False.elim q
 | cont=>
   obtain⟨_,_,_,q⟩:=hs
   exact False.elim q
theorem D1k.ok2{x qual:Str}{st:Stmt}{dV:Value}{f:Addr}{fd:FuncData}{N ps:List Str}{k:Nat}{sp:Sp}(F:D1k K x qual st dV f fd)(S:B8 N ps (A5 st))(len:∀vs H Q E,sp vs H Q E ->vs.length=ps.length)
   (hbody:∀(X:Cx) (cdv:Value) (A:Around) (outer:List Env) (s:Shared) (H:Hp) (vs:List V) (Q:VK) (E:XK),X=A5y P w K mg base N qual (A5 st) f cdv A outer s H E ->Y2 k X.A ->A1k X (fun C dd _ H'=>E C dd H') ->sp vs H Q E ->
     ∃t,PSs (A5y P w K mg base N qual (A5 st) f cdv A outer s H E) (J0 st) t/\t {nx:=fun _ H'=>Q .non H',rt:=Q} (A1r N vs) H):C6 P w K mg base (k+1) f fd ps sp:=by
 obtain⟨oc,od,kV,doc,pm,an,cdv,ct,osl,rfl,lk,hcd⟩:=F.ex
 refine⟨len,fun A outer s H args us vs Q E hr e0 hdh hq2 hb r hsp=>?_⟩
 have hl:=len _ _ _ _ hsp
 have KX:K.In s.heap:=e0.mod.kin.keeps fun b o e=>(e0.bs b o e).1
 have lim:s.heap.NoLimit:=e0.mod.nolimit.keeps fun b o e=>(e0.bs b o e).1
 have hkind:∀y∈ps.zip us,(A5 st).names.lookup y.1=some .local\/((A5 st).names.lookup y.1=some .cell/\((cellsFrom (s.heap.objs.size+1) (A5 st).names []).lookup y.1).isSome=true):=fun⟨n,v⟩ hy=>by
   rcases S.par n (List.of_mem_zip hy).1 with q|q
   . exact .inl q
   . exact .inr ⟨q,PySem.W.cellsFrom_some _ _ _ (.inl q)⟩
 refine codeAny_call_function hr.depth (KX _ _ lk) rfl S.co S.gen rfl (PySem.W.codeRec_of KX hcd) (hb _ _ _ _ ?_)
 refine wpAny_newFunctionEnv_cells S.kind hkind fun env he s1 x=>?_
 subst he
 refine⟨lim.keeps x.toInCall.keep,codeAny_func ?_⟩
 obtain⟨t,ht,hq⟩:=hbody _ cdv A outer s H vs Q E rfl (hr.deeper _) ⟨A9a,hdh,hq2.imp id fun z C d _ H'=>z C d H'⟩ hsp
 have I0:Inv (A2d (CX1 P w) P w K mg base N qual (A5 st) f cdv (L2.quiet A) outer s H E) [] (A1r N vs) H s1:=A7t S rfl e0.quiet hl r x
 have I:Inv (A5y P w K mg base N qual (A5 st) f cdv A outer s H E) [] (A1r N vs) H s1:=
   Inv.loud (X:=A2d (CX1 P w) P w K mg base N qual (A5 st) f cdv (L2.quiet A) outer s H E) (A:=A.deeper (envOfC qual (A5 st) s.heap.objs.size f cdv)) rfl I0
 refine wpAny_mono (ht [] s1 (A1r N vs) H _ I hq) (fun fl s' hs=>?_) fun e s' hs=>hs
 have fin:∀{σ':St} {H':Hp} {v:V} {u:Value},Inv (A5y P w K mg base N qual (A5 st) f cdv A outer s H E) [] σ' H' s' ->U9 v u ->Q v H' ->CE outer P w H s Q u s':=
   fun{σ' H' v u} J rv q=>⟨v,H',J.os,J.bare,J.base,J.hok,rv,q⟩
 cases fl with
 | ret u=>
   obtain⟨v,σ',H',J,rv,q⟩:=hs
   exact fin J rv q
 | next=>
   obtain⟨σ',H',J,q⟩:=hs
   exact fin (v:=V.non) (u:=Value.none) J rfl q
 | brk=>
   obtain⟨_,_,_,q⟩:=hs
   exact False.elim q
 | cont=>
   obtain⟨_,_,_,q⟩:=hs
   exact False.elim q
end
theorem Inv.hdH{X:Cx}{pins:List (Addr×Obj)}{σ:St}{H:Hp}{s:Shared}(I:Inv X pins σ H s)(h:Y4 X):HdH X.A H:=by
 rcases h with z|⟨x,o,u,vs,z,e,d,n⟩
 . exact .inl z
 exact .inr ⟨x,o,u,vs,z,I.base.frzs x o u e,d,n⟩
theorem Y2.make{k:Nat}{A:Around}(r:Y2 (k+1) A)(C:Addr)(us:List Value)(kw:List (Str×Value)):Y2 k (A.under (.builtin "type.__call__" ⟨.ref C::us,kw⟩)):=
 ⟨by have:=r.dp;rw[B0x];omega,by have:=r.un;rw[B2j];omega⟩
section
variable{X:Cx}{k j:Nat}{f C:Addr}{fd:FuncData}{ps:List Str}{sp:Sp}{dvs:List V}{ds:List Value}{EH:EK}{x m:Str}{st:Stmt}{p pos apos:Pos}{e o:Expr}{es:List Expr}{ta:TE}{t:TA}
theorem B0c{pins:List (Addr×Obj)}{σ:St}{H:Hp}{s:Shared}{Q:VK}{us:List Value}{vs:List V}(F:C6 X.prog X.w X.K X.mg X.base k f fd ps sp)(hr:Y2 k X.A)(hb:V9 X.K fd ps ds)(hd:G7 dvs ds)
   (hx:A1k X EH) (hex:X.ex=[]) (I:Inv X pins σ H s) (r:G7 vs us) (h:sp (vs++dvs) H Q (fun C d H'=>EH C d σ H')):wpAny (model X.prog X.w) X.A (call (.ref f) us) (EP X pins σ Q) X.xe s:=by
 have r2:G7 (vs++dvs) (us++ds):=r.append hd
 have hl:(us++ds).length=ps.length:=by rw[<-r2.length];exact F.len _ _ _ _ h
 refine wpAny_call (codeAny_mono (F.run X.A X.stack s H ⟨us,[]⟩ (us++ds) (vs++dvs) Q _ hr I.env0 (I.hdH hx.hd) (hx.q.imp id fun z C d H'=>z C d σ H') (hb s us I.kIn hl) r2 h) fun r s' hq=>?_)
 cases r with
 |error e=>exact G2u hx.c hex I hq
 | ok fl=>
   cases fl with
   |ret u=>exact I.after hq
   |next=>exact False.elim hq
   |brk=>exact False.elim hq
   |cont=>exact False.elim hq
theorem C9k(F:C6 X.prog X.w X.K X.mg X.base k f fd ps sp)(hr:Y2 k X.A)(hg:Gl X x)(hm:X.mg x=some (.ref f))(hk:PySem.W.keepIn X.K (.ref f)=true)(hb:V9 X.K fd ps ds)(hd:G7 dvs ds)
   (hx:A1k X EH) (ha:PA X (e::es) t) (hex:X.ex=[]:=by rfl) (hdb:(x==("__debug__":Str))=false:=by decide) (he:starEach (e::es) X.env=(false,eval e X.env)::starEach es X.env:=by rfl)
   (hpl:(backTo pos (starEach es X.env)).any (·.1)=false:=by rfl):PE X (.Call (.Name x p) (e::es) [] pos) (A2u sp dvs EH t):=by
 intro pins s σ H Q I h
 refine wpAny_Call_Name_kw (Z8 I hg hm ?_ hdb)
 refine PySem.W.callWith_K (h₀:=X.base) I.ok.mod.kin hk (thn (ha pos pins s σ H _ I h) fun us s1 ⟨vs,H1,I1,r,q⟩=>⟨I1.kIn,?_⟩) he hpl
 exact B0c F hr hb hd hx hex I1 r q
theorem C6a(F:C6 X.prog X.w X.K X.mg X.base k f fd ps sp)(hr:Y2 k X.A)(hg:Gl X x)(hm:X.mg x=some (.ref f))(hk:PySem.W.keepIn X.K (.ref f)=true)(hb:V9 X.K fd ps ds)(hd:G7 dvs ds)
   (hx:A1k X EH) (hex:X.ex=[]:=by rfl) (hdb:(x==("__debug__":Str))=false:=by decide):PE X (.Call (.Name x p) [] [] pos) (A2u sp dvs EH B6m):=by
 intro pins s σ H Q I h
 refine wpAny_Call_Name_kw (Z8 I hg hm ?_ hdb)
 exact PySem.W.callWith_K0 I.kIn hk (B0c (us:=[]) F hr hb hd hx hex I .nil h)
theorem G5(D:Def X.K X.mg x ps st f fd)(F:C6 X.prog X.w X.K X.mg X.base j f fd ps sp)(hr:Y2 k X.A)(hx:A1k X EH)(ha:PA X (e::es) t)(hj:j<=k:=by decide)(hg:Gl X x:=by rfl)(hex:X.ex=[]:=by rfl)(hdb:(x==("__debug__":Str))=false:=by decide)
   (he:starEach (e::es) X.env=(false,eval e X.env)::starEach es X.env:=by rfl) (hpl:(backTo pos (starEach es X.env)).any (·.1)=false:=by rfl):PE X (.Call (.Name x p) (e::es) [] pos) (A2u sp [] EH t):=
 C9k (F.mono hj) hr hg D.g D.F.kp D.b .nil hx ha hex hdb he hpl
theorem C4c(D:Def X.K X.mg x ps st f fd)(F:C6 X.prog X.w X.K X.mg X.base j f fd ps sp)(hr:Y2 k X.A)(hx:A1k X EH)(hj:j<=k:=by decide)(hg:Gl X x:=by rfl)(hex:X.ex=[]:=by rfl)(hdb:(x==("__debug__":Str))=false:=by decide):
   PE X (.Call (.Name x p) [] [] pos) (A2u sp [] EH B6m):=
 C6a (F.mono hj) hr hg D.g D.F.kp D.b .nil hx hex hdb
theorem A4m{pl:Sem Bool}(he:PE X o ta)(c:Cls X.K C)(hm:A7s X.K C m f)(F:C6 X.prog X.w X.K X.mg X.base j f fd ps sp)(hr:Y2 k X.A)(hb:V9 X.K fd ps ds)(hd:G7 dvs ds)(hx:A1k X EH)(ha:PA X (e::es) t)
   (hj:j<=k:=by decide) (hex:X.ex=[]:=by rfl)
   (hst:starEach (e::es) X.env=(false,eval e X.env)::starEach es X.env:=by rfl) (hpl:(backTo pos (starEach es X.env)).any (·.1)=false:=by rfl)
   (ht:eval (.Call (.Attribute o m apos) (e::es) [] pos) X.env=(do
     let ov<-eval o X.env
     standAt apos.atName
     let(f,first)<-holding [ov] (getMethod ov m pl)
     callWith pos f first (backTo pos (starEach (e::es) X.env)) (backToKw pos (keywordEach [] X.env))):=by rfl):
   PE X (.Call (.Attribute o m apos) (e::es) [] pos) (B6p C m sp dvs EH ta t):=by
 intro pins s σ H Q I h
 refine methodCall_KW (pl:=pl) (thn (he pins s σ H _ I h) fun u s1 hh_=>?_) ht
 obtain⟨x,H1,I1,rx,a,dx,fs,ex,ea,l,q⟩:=hh_
 subst ex
 obtain rfl:u=Value.ref a:=rx
 refine A2g I1 ea c hm l ?_
 refine callWith_K (first:=[.ref a]) (h₀:=X.base) I.ok.mod.kin hm.kp (thn (ha pos pins s1 σ H1 _ I1 q) fun us s2 ⟨vs,H2,I2,r,q2⟩=>⟨I2.kIn,?_⟩) hst hpl
 exact B0c (us:= .ref a::us) (vs:= .ref a::vs) (F.mono hj) hr hb hd hx hex I2 (.cons rfl r) q2
theorem A2p{pl:Sem Bool}(he:PE X o ta)(c:Cls X.K C)(hm:A7s X.K C m f)(F:C6 X.prog X.w X.K X.mg X.base j f fd ps sp)(hr:Y2 k X.A)(hb:V9 X.K fd ps ds)(hd:G7 dvs ds)(hx:A1k X EH)
   (hj:j<=k:=by decide) (hex:X.ex=[]:=by rfl)
   (ht:eval (.Call (.Attribute o m apos) [] [] pos) X.env=(do
     let ov<-eval o X.env
     standAt apos.atName
     let(f,first)<-holding [ov] (getMethod ov m pl)
     callWith pos f first (backTo pos (starEach [] X.env)) (backToKw pos (keywordEach [] X.env))):=by rfl):
   PE X (.Call (.Attribute o m apos) [] [] pos) (B6p C m sp dvs EH ta B6m):=by
 intro pins s σ H Q I h
 refine methodCall_KW (pl:=pl) (thn (he pins s σ H _ I h) fun u s1 hh_=>?_) ht
 obtain⟨x,H1,I1,rx,a,dx,fs,ex,ea,l,q⟩:=hh_
 subst ex
 obtain rfl:u=Value.ref a:=rx
 refine A2g I1 ea c hm l ?_
 exact callWith_K0 (first:=[.ref a]) I1.kIn hm.kp (B0c (us:=[.ref a]) (vs:=[.ref a]) (F.mono hj) hr hb hd hx hex I1 (.cons rfl .nil) q)
theorem C6c{pins:List (Addr×Obj)}{σ:St}{H:Hp}{s:Shared}{Q:VK}{us:List Value}{vs:List V}(M:Mk X.K C f)(F:C6 X.prog X.w X.K X.mg X.base k f fd ps sp)(hr:Y2 (k+1) X.A)(hb:V9 X.K fd ps ds)(hd:G7 dvs ds)
   (hx:A1k X EH) (hex:X.ex=[]) (I:Inv X pins σ H s) (r:G7 vs us)
   (h:∀x dx,H x=none ->H dx=none ->dx≠x ->sp (.ref x::(vs++dvs)) (upd (upd H dx (.own x)) x (.ins C dx [])) (fun v H2=>v= .non/\Q (.ref x) H2) (fun C d H'=>EH C d σ H')):
   wpAny (model X.prog X.w) X.A (call (.ref C) us) (EP X pins σ Q) X.xe s:=by
 have hq:=h (s.heap.objs.size+1) s.heap.objs.size (I.hok.fresh (Nat.le_succ _)) (I.hok.fresh (Nat.le_refl _)) (Nat.ne_of_lt (Nat.lt_succ_self _))
 have I2:=Inv.made (C:=C) I
 have r2:G7 (V.ref (s.heap.objs.size+1)::(vs++dvs)) (Value.ref (s.heap.objs.size+1)::(us++ds)):= .cons rfl (r.append hd)
 have hl:(Value.ref (s.heap.objs.size+1)::us++ds).length=ps.length:=by
   have e:=r2.length
   rw[F.len _ _ _ _ hq] at e
   exact e.symm
 refine wpAny_call (B8v (f:=f) I.kIn M.makes M.init (beq_iff_eq.mp M.fn) (codeAny_mono (F.run _ X.stack _ _ ⟨Value.ref (s.heap.objs.size+1)::us,[]⟩ (Value.ref (s.heap.objs.size+1)::(us++ds)) _ _ _ (hr.make C us [])
   (I2.env0.make C us []) (I2.hdH hx.hd) (hx.q.imp id fun z C d H'=>z C d σ H') (hb _ (Value.ref (s.heap.objs.size+1)::us) I2.kIn hl) r2 hq) fun r s' hq'=>?_))
 cases r with
 |error e=>exact G2u hx.c hex I2 hq'
 | ok fl=>
   cases fl with
   | ret u=>
     obtain⟨v,H',I3,rv,ev,q3⟩:=I2.after hq'
     subst ev
     exact⟨rv,⟨V.ref (s.heap.objs.size+1),H',I3,rfl,q3⟩⟩
   |next=>exact False.elim hq'
   |brk=>exact False.elim hq'
   |cont=>exact False.elim hq'
theorem A2v(M:Mk X.K C f)(F:C6 X.prog X.w X.K X.mg X.base j f fd ps sp)(hr:Y2 k X.A)(hm:X.mg x=some (.ref C))(hb:V9 X.K fd ps ds)(hd:G7 dvs ds)(hx:A1k X EH)
   (ha:PA X (e::es) t) (hj:j+1<=k:=by decide) (hg:Gl X x:=by rfl) (hex:X.ex=[]:=by rfl) (hdb:(x==("__debug__":Str))=false:=by decide) (he:starEach (e::es) X.env=(false,eval e X.env)::starEach es X.env:=by rfl) (hpl:(backTo pos (starEach es X.env)).any (·.1)=false:=by rfl):
   PE X (.Call (.Name x p) (e::es) [] pos) (C8g C sp dvs EH t):=by
 intro pins s σ H Q I h
 refine wpAny_Call_Name_kw (Z8 I hg hm ?_ hdb)
 refine callWith_K (h₀:=X.base) I.ok.mod.kin M.kp (thn (ha pos pins s σ H _ I h) fun us s1 ⟨vs,H1,I1,r,q⟩=>⟨I1.kIn,?_⟩) he hpl
 exact C6c M F (hr.mono hj) hb hd hx hex I1 r q
end
theorem B8p{prog:Program}{w:World}{A:Around}{x:Addr}{ox:Obj}{vs:Array Value}(hh:A.handled=some (.ref x))(hd:ox.data= .fields vs)(h2:vs[2]?=some .none)(I ax:Addr)(hne:ax≠I)(hxI:x≠I)(items:Array Value):
   Walks prog w A I [I,ax,x] [I] items.size (fun i v=>items[i]?=some v) (fun i h=>h.IsListIter I ax i/\h.IsList ax items/\h.get? x=some ox) where
 sub:=fun b hb=>by simp at hb;simp[hb]
 frame:=fun _ _ _ st hk=>⟨st.1.at fun o e=>hk I (by simp) o e,st.2.1.at fun o e=>hk ax (by simp) o e,hk x (by simp) _ st.2.2⟩
 item:=fun i s Q E hi st hQ=>by
   refine wpAny_pyNext_list_item st.1 st.2.1 (x:=items[i]) (by simp[hi]) fun h' hit' hs'=>?_
   exact hQ _ h' s.toks (by simp[hi]) ⟨hit',st.2.1.extBut hs'.extBut hne,hs'.extBut x _ hxI st.2.2⟩ fun b o hb e=>hs'.extBut b o (fun h=>hb (by simp[h])) e
 done:=fun s Q E st hQ=>A3d (fun h' k=> .inr ⟨x,ox,vs,hh,k x _ hxI st.2.2,hd,h2⟩) st.1 st.2.1 (by simp) fun h' he'=>hQ h' s.toks fun b o hb e=>he' b o (fun h=>hb (by simp[h])) e
 self:=fun _ _ _ _ st hQ=>wpAny_pyIter_listiter st.1 hQ
theorem B2p{prog:Program}{w:World}{A:Around}{x:Addr}{ox:Obj}{vs:Array Value}(hh:A.handled=some (.ref x))(hd:ox.data= .fields vs)(h2:vs[2]?=some .none)(I ax:Addr)(hne:ax≠I)(hxI:x≠I)(items:Array Value):
   Walks prog w A I [I,ax,x] [I] items.size (fun i v=>items[i]?=some v) (fun i h=>h.IsTupleIter I ax i/\h.IsTuple ax items/\h.get? x=some ox) where
 sub:=fun b hb=>by simp at hb;simp[hb]
 frame:=fun _ _ _ st hk=>⟨st.1.at fun o e=>hk I (by simp) o e,st.2.1.at fun o e=>hk ax (by simp) o e,hk x (by simp) _ st.2.2⟩
 item:=fun i s Q E hi st hQ=>by
   refine wpAny_pyNext_tuple_item st.1 st.2.1 (x:=items[i]) (by simp[hi]) fun h' hit' hs'=>?_
   exact hQ _ h' s.toks (by simp[hi]) ⟨hit',st.2.1.extBut hs'.extBut hne,hs'.extBut x _ hxI st.2.2⟩ fun b o hb e=>hs'.extBut b o (fun h=>hb (by simp[h])) e
 done:=fun s Q E st hQ=>A1w (fun h' k=> .inr ⟨x,ox,vs,hh,k x _ hxI st.2.2,hd,h2⟩) st.1 st.2.1 (by simp) fun h' he'=>hQ h' s.toks fun b o hb e=>he' b o (fun h=>hb (by simp[h])) e
 self:=fun _ _ _ _ st hQ=>wpAny_pyIter_tupleiter st.1 hQ
section
variable{X:Cx}
end
theorem C7d{prog:Program}{w:World}{A:Around}{E:Value ->Shared ->Prop}{s:Shared}{x:Addr}{ox:Obj}{vs:Array Value}(hh:A.handled=some (.ref x))(hd:ox.data= .fields vs)(h2:vs[2]?=some .none)(ex:s.heap.get? x=some ox){a b:Int}{t u:Tok}{Q:Value ->Shared ->Prop}
   (h:∀h' tk,(∀c o,s.heap.get? c=some o ->h'.get? c=some o) ->Q (if b>a then .int b u else .int a t) {s with heap:=h',toks:=tk}):
   wpAny (model prog w) A (call (.builtin "max") [.int a t,.int b u]) Q E s:=by
 have hT:(s.heap.push {cls:= .type "tuple",data:= .seq #[.int a t,.int b u]}).IsTuple s.heap.objs.size (intItems #[(a,t),(b,u)]):=⟨_,Heap.get?_push_size _ rfl,rfl,0,by simp[intItems]⟩
 refine call_max_two (wpAny_pyIter_tuple hT ?_)
 have hsz:(s.heap.push {cls:= .type "tuple",data:= .seq #[.int a t,.int b u]}).objs.size=s.heap.objs.size+1:=Heap.size_push ..
 have lx:x<s.heap.objs.size:=Heap.lt_size ex
 refine⟨_,[_,s.heap.objs.size,x],[_],_,_,_,_,rfl,B2p (A:=A.in1) hh hd h2 _ s.heap.objs.size (by rw[hsz];exact Nat.ne_of_lt (Nat.lt_succ_self _)) (by rw[hsz];exact Nat.ne_of_lt (Nat.lt_succ_of_lt lx)) (intItems #[(a,t),(b,u)]),
   ⟨⟨_,Heap.get?_push_size _ rfl,rfl,rfl⟩,hT.push _,Heap.get?_push_of_some _ (Heap.get?_push_of_some _ ex)⟩,fun c hc=>?_,by simp[intItems],CmpOf.ints_gt (numAt #[(a,t),(b,u)]) (fun _ _=>intItems_at),fun v h' tk hP hk=>?_⟩
 . show c<((s.heap.push _).push _).objs.size
   rw[Heap.size_push,hsz]
   simp only[List.mem_cons,List.not_mem_nil,or_false] at hc
   rcases hc with rfl|rfl|rfl
   . rw[hsz];exact Nat.lt_succ_self _
   . exact Nat.lt_succ_of_lt (Nat.lt_succ_self _)
   . exact Nat.lt_succ_of_lt (Nat.lt_succ_of_lt lx)
 have hold:∀c o,s.heap.get? c=some o ->h'.get? c=some o:=fun c o e=>by
   refine hk c o (fun hm=>?_) (Heap.get?_push_of_some _ (Heap.get?_push_of_some _ e))
   have e1:=List.mem_singleton.mp hm
   have:=Heap.lt_size e
   rw[e1,hsz] at this
   exact Nat.lt_irrefl _ (Nat.lt_of_succ_lt this)
 have hP':(intItems #[(a,t),(b,u)])[argBest (fun i j=>decide (numAt #[(a,t),(b,u)] i>numAt #[(a,t),(b,u)] j)) 1]?=some v:=by
   have hsz2:(intItems #[(a,t),(b,u)]).size-1=1:=by simp[intItems]
   rw[<-hsz2];exact hP
 have hv:v=if b>a then Value.int b u else Value.int a t:=by
   by_cases hba:b>a
   . have e:argBest (fun i j=>decide (numAt #[(a,t),(b,u)] i>numAt #[(a,t),(b,u)] j)) 1=1:=by simp[argBest,numAt,hba]
     rw[e] at hP'
     simpa[intItems,hba] using hP'.symm
   . have e:argBest (fun i j=>decide (numAt #[(a,t),(b,u)] i>numAt #[(a,t),(b,u)] j)) 1=0:=by simp[argBest,numAt,hba]
     rw[e] at hP'
     simpa[intItems,hba] using hP'.symm
 rw[hv]
 exact h h' tk hold
theorem C7m{prog:Program}{w:World}{A:Around}{E:Value ->Shared ->Prop}{s:Shared}{x:Addr}{ox:Obj}{vs:Array Value}(hh:A.handled=some (.ref x))(hd:ox.data= .fields vs)(h2:vs[2]?=some .none)(ex:s.heap.get? x=some ox){a b:Int}{t u:Tok}{Q:Value ->Shared ->Prop}
   (h:∀h' tk,(∀c o,s.heap.get? c=some o ->h'.get? c=some o) ->Q (if b<a then .int b u else .int a t) {s with heap:=h',toks:=tk}):
   wpAny (model prog w) A (call (.builtin "min") [.int a t,.int b u]) Q E s:=by
 have hT:(s.heap.push {cls:= .type "tuple",data:= .seq #[.int a t,.int b u]}).IsTuple s.heap.objs.size (intItems #[(a,t),(b,u)]):=⟨_,Heap.get?_push_size _ rfl,rfl,0,by simp[intItems]⟩
 refine call_min_two (wpAny_pyIter_tuple hT ?_)
 have hsz:(s.heap.push {cls:= .type "tuple",data:= .seq #[.int a t,.int b u]}).objs.size=s.heap.objs.size+1:=Heap.size_push ..
 have lx:x<s.heap.objs.size:=Heap.lt_size ex
 refine⟨_,[_,s.heap.objs.size,x],[_],_,_,_,_,rfl,B2p (A:=A.in1) hh hd h2 _ s.heap.objs.size (by rw[hsz];exact Nat.ne_of_lt (Nat.lt_succ_self _)) (by rw[hsz];exact Nat.ne_of_lt (Nat.lt_succ_of_lt lx)) (intItems #[(a,t),(b,u)]),
   ⟨⟨_,Heap.get?_push_size _ rfl,rfl,rfl⟩,hT.push _,Heap.get?_push_of_some _ (Heap.get?_push_of_some _ ex)⟩,fun c hc=>?_,by simp[intItems],CmpOf.ints_lt (numAt #[(a,t),(b,u)]) (fun _ _=>intItems_at),fun v h' tk hP hk=>?_⟩
 . show c<((s.heap.push _).push _).objs.size
   rw[Heap.size_push,hsz]
   simp only[List.mem_cons,List.not_mem_nil,or_false] at hc
   rcases hc with rfl|rfl|rfl
   . rw[hsz];exact Nat.lt_succ_self _
   . exact Nat.lt_succ_of_lt (Nat.lt_succ_self _)
   . exact Nat.lt_succ_of_lt (Nat.lt_succ_of_lt lx)
 have hold:∀c o,s.heap.get? c=some o ->h'.get? c=some o:=fun c o e=>by
   refine hk c o (fun hm=>?_) (Heap.get?_push_of_some _ (Heap.get?_push_of_some _ e))
   have e1:=List.mem_singleton.mp hm
   have:=Heap.lt_size e
   rw[e1,hsz] at this
   exact Nat.lt_irrefl _ (Nat.lt_of_succ_lt this)
 have hP':(intItems #[(a,t),(b,u)])[argBest (fun i j=>decide (numAt #[(a,t),(b,u)] i<numAt #[(a,t),(b,u)] j)) 1]?=some v:=by
   have hsz2:(intItems #[(a,t),(b,u)]).size-1=1:=by simp[intItems]
   rw[<-hsz2];exact hP
 have hv:v=if b<a then Value.int b u else Value.int a t:=by
   by_cases hba:b<a
   . have e:argBest (fun i j=>decide (numAt #[(a,t),(b,u)] i<numAt #[(a,t),(b,u)] j)) 1=1:=by simp[argBest,numAt,hba]
     rw[e] at hP'
     simpa[intItems,hba] using hP'.symm
   . have e:argBest (fun i j=>decide (numAt #[(a,t),(b,u)] i<numAt #[(a,t),(b,u)] j)) 1=0:=by simp[argBest,numAt,hba]
     rw[e] at hP'
     simpa[intItems,hba] using hP'.symm
 rw[hv]
 exact h h' tk hold
theorem A3v{X:Cx}(hd:Y4 X):A1b X (.builtin "max") (fun xs H Q=>∃i j,xs=[.int i,.int j]/\Q (.int (if j>i then j else i)) H):=by
 intro pins s σ H xs us Q I r h
 obtain⟨i,j,rfl,q⟩:=h
 obtain⟨u,w',rfl,⟨t,rfl⟩,⟨t',rfl⟩⟩:=B8x r
 have fin:∀h' tk,(∀c o,s.heap.get? c=some o ->h'.get? c=some o) ->EP X pins σ Q (if j>i then .int j t' else .int i t) {s with heap:=h',toks:=tk}:=fun h' tk k=>⟨_,H,I.kept k,(by
   by_cases hj:j>i
   . rw[if_pos hj,if_pos hj];exact⟨_,rfl⟩
   . rw[if_neg hj,if_neg hj];exact⟨_,rfl⟩),q⟩
 rcases hd with z|⟨x,ox,u2,vs2,hh,e2,d2,n2⟩
 . exact max_two_ints z fin
 exact C7d hh d2 n2 (I.hok x _ (I.base.frzs x ox u2 e2)).1 fin
theorem C1g{X:Cx}(hd:Y4 X):A1b X (.builtin "min") (fun xs H Q=>∃i j,xs=[.int i,.int j]/\Q (.int (if j<i then j else i)) H):=by
 intro pins s σ H xs us Q I r h
 obtain⟨i,j,rfl,q⟩:=h
 obtain⟨u,w',rfl,⟨t,rfl⟩,⟨t',rfl⟩⟩:=B8x r
 have fin:∀h' tk,(∀c o,s.heap.get? c=some o ->h'.get? c=some o) ->EP X pins σ Q (if j<i then .int j t' else .int i t) {s with heap:=h',toks:=tk}:=fun h' tk k=>⟨_,H,I.kept k,(by
   by_cases hj:j<i
   . rw[if_pos hj,if_pos hj];exact⟨_,rfl⟩
   . rw[if_neg hj,if_neg hj];exact⟨_,rfl⟩),q⟩
 rcases hd with z|⟨x,ox,u2,vs2,hh,e2,d2,n2⟩
 . exact min_two_ints z fin
 exact C7m hh d2 n2 (I.hok x _ (I.base.frzs x ox u2 e2)).1 fin
theorem C3j{X:Cx}{tg iter:Expr}{body:List Stmt}{wi:TI}{g:TG}{tb:TS}{pos:Pos}(hp:PassesOwn (model X.prog X.w) X.A X.env X.xe)(hd:Y4 X)(hi:PIH X tg iter wi)(hg:PG X tg g)(hb:PSs X body tb)
   (hs:∀x,foldedSetIterable iter X.env x=pure x:=by intro _;rfl):PS X (.For tg iter body [] pos) (G7j wi g tb):=by
 intro pins s σ H D I h
 refine wpAny_For (thn (hi pins s σ H _ I h) fun v s1 h1=>thn h1 fun itv s2 h2=>?_) hs
 obtain⟨it,tn,J,H2,e,I2,T,st2,f2,W,⟨m0,w0⟩,turn⟩:=h2
 subst e
 have stat:∀{H':Hp},H' it=none ->A0w X pins H' it:=fun hn=>⟨hn,f2.2⟩
 have statL:∀{H':Hp},H' it=none ->∀b∈ [it],A0w X pins H' b:=fun hn b hb=>by rw[List.mem_singleton.mp hb];exact stat hn
 refine codeAny_forLoop_any (fun n s'=>∃i σ' H',Inv X pins σ' H' s'/\tn i s'.heap/\H' it=none/\W i n σ' H') ?_ m0 ⟨0,σ,H2,I2,st2,f2.1,w0⟩
 rintro n s3 ⟨i,σ3,H3,I3,st3,fr3,w3⟩
 rcases turn i n σ3 H3 w3 with⟨stop,qn⟩|⟨go,N,hN,step⟩
 . refine wpAny_passesOwn hp (thn (T.done X rfl rfl rfl hd i pins s3 σ3 H3 X.xe I3 (stat fr3) st3 stop) fun r s4 ⟨hr,I4⟩=>?_)
   subst hr
   exact wpAny_execs_nil ⟨σ3,H3,I4,qn⟩
 refine wpAny_passesOwn hp (thn (T.item X rfl rfl rfl hd i pins s3 σ3 H3 X.xe I3 (stat fr3) st3 go) fun r s4 ⟨u,hr,h4⟩=>?_)
 subst hr
 refine wpAny_passesOwn hp (thn h4 fun _ s5 hh_=>?_)
 obtain⟨x,I5,r5,y5,st5⟩:=hh_
 have I5':=I5.pinned (statL fr3) (fun b hb=>by rw[List.mem_singleton.mp hb];exact T.obj _ _ st5)
 refine wpAny_passesOwn hp (thn (hg _ s5 σ3 H3 x u _ I5' r5 (step x H3 y5)) fun _ s6 hh_=>?_)
 obtain⟨σ6,H6,I6,q6⟩:=hh_
 refine wpAny_passesOwn hp (thn (hb _ s6 σ6 H6 _ I6 q6) fun f s7 q7=>?_)
 have again:∀{σ7:St} {H7:Hp},Inv X (pins++A0t [it] s5.heap) σ7 H7 s7 ->N σ7 H7 ->∃m,m<n/\∃i σ' H',Inv X pins σ' H' s7/\tn i s7.heap/\H' it=none/\W i m σ' H':=fun{σ7 H7} I7 n7=>by
   obtain⟨m',hm,w7⟩:=hN σ7 H7 n7
   refine⟨m',hm,i+1,σ7,H7,I7.unpinned,T.keep _ _ _ st5 fun o e=>(I7.pin (it,o) (List.mem_append_right _ (List.mem_append_right _ (A0j (List.mem_singleton.mpr rfl) e)))).1,?_,w7⟩
   obtain⟨o,e,d⟩:=T.obj _ _ st5
   exact(I7.pin (it,o) (List.mem_append_right _ (List.mem_append_right _ (A0j (List.mem_singleton.mpr rfl) e)))).2.1
 cases f with
 |next=>obtain⟨σ7,H7,I7,n7⟩:=q7;exact again I7 n7
 |cont=>obtain⟨σ7,H7,I7,n7⟩:=q7;exact again I7 n7
 |brk=>obtain⟨σ7,H7,I7,q7⟩:=q7;exact⟨σ7,H7,I7.unpinned,q7⟩
 |ret v=>obtain⟨x7,σ7,H7,I7,r7,q7⟩:=q7;exact⟨x7,σ7,H7,I7.unpinned,r7,q7⟩
theorem B7h{M:Model}{A:Around}{E:Value ->Shared ->Prop}{s:Shared}{env:Env}{v:Expr}{pos:Pos}{Q:Flow ->Shared ->Prop}(h:wpAny M A (eval v env) (fun _ _=>False) E s):wpAny M A (exec (.Raise (some v) none pos) env) Q E s:=by
 rw[arm_exec_Raise]
 refine wpAny_bind (wpAny_standAt ?_)
 show wpAny M A (raiseStmt env (some (eval v env>>=fun u=>standAt pos>>=fun _=>pure u)) none) Q E s
 unfold raiseStmt
 exact wpAny_bind (wpAny_bind (wpAny_mono h (fun _ _ z=>z.elim) fun _ _ z=>z))
theorem C2q{X:Cx}{x:Str}{p pos:Pos}{e:Expr}{es:List Expr}{C:Addr}{pins:List (Addr×Obj)}{σ:St}{H:Hp}{s:Shared}(I:Inv X pins σ H s)(hg:Gl X x)(hm:X.mg x=some (.ref C))(hdb:(x==("__debug__":Str))=false)
   (he:starEach (e::es) X.env=(false,eval e X.env)::starEach es X.env) (h:wpAny (model X.prog X.w) X.A (spliced (backTo pos (starEach (e::es) X.env))) (fun _ _=>False) X.xe s):
   wpAny (model X.prog X.w) X.A (eval (.Call (.Name x p) (e::es) [] pos) X.env) (fun _ _=>False) X.xe s:=by
 refine wpAny_Call_Name_kw (Z8 I hg hm ?_ hdb)
 unfold callWith
 rw[he] at h ⊢
 exact wpAny_bind (wpAny_holding (Calls.evalArgs_plain (wpAny_mono h (fun _ _ z=>z.elim) fun _ _ z=>z)))
section
variable{X:Cx}{x:Str}{p cpos pos:Pos}{e:Expr}{es:List Expr}{t:TA}{C:Addr}{bmB:List Value}{B newId initId:String}{EH:EK}
theorem A0y(hg:Gl X x)(hm:X.mg x=some (.ref C))(q:excIn X.K C bmB newId=true)(FB:ExcBaseFacts B newId initId bmB)(hx:A1k X EH)(ha:PA X (e::es) t)(hex:X.ex=[]:=by rfl)
   (hdb:(x==("__debug__":Str))=false:=by decide) (he:starEach (e::es) X.env=(false,eval e X.env)::starEach es X.env:=by rfl) (hpl:(backTo cpos (starEach es X.env)).any (·.1)=false:=by rfl):
   PS X (.Raise (some (.Call (.Name x p) (e::es) [] cpos)) none pos) (D0v C EH t):=by
 rcases hx.q with z|z
 . exact C9f hg hm q FB z hx.c ha hex hdb he hpl
 intro pins s σ H D I h
 exact B7h (C2q I hg hm hdb he (wpAny_mono (ha cpos pins s σ H _ I h) (fun us s2 ⟨vs,H1,I1,r,_,q⟩=>z _ _ _ _ q) fun _ _ y=>y))
end
section
variable{X:Cx}{x f:Str}{p cpos pos:Pos}{e:Expr}{t:TA}{C fI:Addr}{fdI:FuncData}{ps:List Str}{EH:EK}{j k:Nat}
theorem C0a(hm:X.mg x=some (.ref C))(F:C1u X.K C fI)(G:G0 X.prog X.w X.K X.mg X.base CX0 j fI fdI ps (B0k C f))(bI:V9 X.K fdI ps [])(hr:Y2 k X.A)(hx:A1k X EH)(ha:PA X [e] t)(hj:j+1<=k:=by decide)(hg:Gl X x:=by rfl)(hex:X.ex=[]:=by rfl)
   (hdb:(x==("__debug__":Str))=false:=by decide) (he:starEach [e] X.env=(false,eval e X.env)::starEach [] X.env:=by rfl) (hpl:(backTo cpos (starEach [] X.env)).any (·.1)=false:=by rfl):
   PS X (.Raise (some (.Call (.Name x p) [e] [] cpos)) none pos) (C2p C f EH t):=by
 rcases hx.q with z|z
 . exact C6j hm F G bI ⟨z,hr.dp,hr.un⟩ hx.c ha hj hg hex hdb he hpl
 intro pins s σ H D I h
 refine B7h (C2q I hg hm hdb he (wpAny_mono (ha cpos pins s σ H _ I h) (fun us s2 hh_=>?_) fun _ _ y=>y))
 obtain⟨vs,H1,I1,r,v,_,q⟩:=hh_
 have n:=I1.hok.fresh (Nat.le_refl s2.heap.objs.size)
 exact z _ _ _ _ (q s2.heap.objs.size (upd H1 s2.heap.objs.size (.xd [(f,v)])) (B5.upd n) n A6)
end
theorem Y2.units{k:Nat}{A:Around}(r:Y2 k A):A.units+64<cLine:=r.u64
theorem C6.up{P:Program}{w:World}{K:Frag}{mg:Str ->Option Value}{base:Heap}{k:Nat}{f:Addr}{fd:FuncData}{ps:List Str}{sp:Sp}(F:C6 P w K mg base k f fd ps sp):C6 P w K mg base k f fd ps sp:=F
end L2
namespace TR
open PySem L2 PySem.W PyProof.Rows
noncomputable def A7q (P:Program) (w:World) (K:Frag) (mg:Str ->Option Value) (base:Heap) (C:Addr) (m:Str) (k:Nat) (ps:List Str) (sp:Sp):Prop:=∃f fd,A7s K C m f/\C6 P w K mg base k f fd ps sp/\V9 K fd ps []
theorem A7q.has{P:Program}{w:World}{K:Frag}{mg:Str ->Option Value}{base:Heap}{C:Addr}{m:Str}{k:Nat}{ps:List Str}{sp:Sp}(h:A7q P w K mg base C m k ps sp):Has P w K mg base C m k ps sp:=by
 obtain⟨f,fd,a,b,c⟩:=h
 exact⟨f,fd,a,b.fn,c⟩
end TR
namespace L2
open PySem PySem.Spec PyProof.Rows PySem.W
noncomputable def G6j (K:Frag) (R:Addr) (i:Nat) (tb:EK ->TS) (ts:Addr ->TS) (te:TS):TS:=fun D σ H=>
 tb (fun C dd σ' H'=>subIn K C (.ref R)=some true/\∀(a t T:Addr),H' a=none ->
   ts a {nx:=fun σ2 H2=>D.nx (σ2.set i none) H2,rt:=D.rt,bk:=fun σ2 H2=>D.bk (σ2.set i none) H2,ct:=fun σ2 H2=>D.ct (σ2.set i none) H2}
     (σ'.set i (some (.ref a))) (upd H' a (.frz (Z2 C t dd (.ref T)) (.own a)))) {D with nx:=te D} σ H
section
variable{X:Cx}{x n:Str}{np hpos pos:Pos}{R:Addr}{i:Nat}{body suite:List Stmt}{b₀:Stmt}{tb:EK ->TS}{ts:Addr ->TS}
theorem D6y{oe:List Stmt}{te:TS}(B:D9w X)(hg:Gl X x)(hm:X.mg x=some (.ref R))(c:A8n X.K R)(hN:X.N.Nodup)(hi:X.N[i]?=some n)(hk:X.env.scope.names.lookup n=some .local)
   (hb:∀pins Ew EHb,V1 (X.hold pins Ew) EHb ->PSs (X.hold pins Ew) body (tb EHb)) (hs:∀pins a,PSs (X.hnd pins a) (b₀::suite) (ts a)) (he:PSs X oe te)
   (hdb:(x==("__debug__":Str))=false:=by decide) (hf:X.fn n=true\/X.env.scope.names.lookup n=some .local:=by first|exact .inl rfl|exact .inr rfl|assumption):
   PS X (.Try body [.ExceptHandler (some (.Name x np)) (some n) (b₀::suite) hpos] oe [] pos) (G6j X.K R i tb ts te):=by
 intro pins s σ H D I h
 refine wpAny_Try_except ?_
 refine wpAny_mono (hb pins _ _ ?cat [] s σ H {D with nx:=te D} I.hold h) (fun f s1 hf1=>?_) (fun e s1 he=>he)
 case cat=>
   intro pins' σ' H' s' a t C dd I' F' hE
   obtain⟨hsub,hE⟩:=hE
   show wpAny (model X.prog X.w) X.A (noteFrame (.ref a) X.env) _ X.xe s'
   have J:=I'.unhold
   have F:=F'.unhold
   refine B2c B J F fun s2 J2 F2=>A4k J2 F2 fun s3 J3 F3=>?_
   obtain⟨na,T,oT,ts',e3,ne3,nT3,eT3,dT3,h33⟩:=id F3
   refine wpAny_handleBy_cons (codeAny_handlers_test ?_) (by intro z;cases z)
   have K3:Inv (X.hnd pins a) [] σ' H' s3:=J3.hnd
   refine Z8 K3 hg hm ?_ hdb
   refine B4d J3.kIn e3 rfl c hsub ?_
   show codeAny _ _ _ _ _
   refine codeAny_handlers_suite_as ?_
   refine A4k J3 F3 fun s4 J4 F4=>?_
   obtain⟨na4,T4,oT4,ts4,e4,_⟩:=id F4
   have J5:=J4.track na4 e4
   refine A2h (v:= .ref a) J5 hN hi (.inl hk) rfl (fun s5 J6=>?_) hf
   refine wpAny_mono (hs pins a [] s5 _ _ _ J6.hnd (hE a t T4 na4.un)) (fun f s6 hf6=>?_) (fun _ _ z=>z.elim)
   have fin:∀{σ6:St} {H6:Hp} {Q6:Unit ->Shared ->Prop},Inv (X.hnd pins a) [] σ6 H6 s6 ->(∀s7,Inv X pins (σ6.set i none) H6 s7 ->Q6 () s7) ->
       wpAny (model X.prog X.w) X.A (do bindName X.env n .none;unbindBehindTheSuite X.env n hpos) Q6 X.xe s6:=by
     intro σ6 H6 Q6 K6 k6
     have L6:=K6.unhnd J6.ok
     refine wpAny_bind (wpAny_bindName (A2h (v:= .non) L6 hN hi (.inl hk) rfl (fun s7 J7=>?_) hf))
     unfold unbindBehindTheSuite
     have hlen:i<σ6.length:=by rw[L6.len];exact(List.getElem?_eq_some_iff.mp hi).1
     refine wpAny_onRaise (B3h J7 hN hi hk (List.getElem?_set_self hlen) fun s8 J8=>k6 s8 ?_)
     rw[List.set_set] at J8
     exact J8
   cases f with
   |next=>obtain⟨σ6,H6,K6,q⟩:=hf6;exact fin K6 fun s7 J7=>⟨_,_,J7,q⟩
   |brk=>obtain⟨σ6,H6,K6,q⟩:=hf6;exact fin K6 fun s7 J7=>⟨_,_,J7,q⟩
   |cont=>obtain⟨σ6,H6,K6,q⟩:=hf6;exact fin K6 fun s7 J7=>⟨_,_,J7,q⟩
   |ret u=>obtain⟨v,σ6,H6,K6,r,q⟩:=hf6;exact fin K6 fun s7 J7=>⟨v,_,_,J7,r,q⟩
 cases f with
 | next=>
   obtain⟨σ1,H1,I1,q1⟩:=SP.unhold hf1
   exact he pins s1 σ1 H1 D I1 q1
 |brk=>exact SP.unhold hf1
 |cont=>exact SP.unhold hf1
 |ret u=>exact SP.unhold hf1
end
noncomputable def D8z (a C:Addr) (m:Str) (sp:Sp) (dvs:List V) (ta:TE) (t:TA):TE:=fun σ H Q=>ta σ H fun x H1=>∃a' dx fs,x= .ref a'/\H1 a'=some (.ins C dx fs)/\fs.lookup m=none/\
 t σ H1 fun vs H2=>(∃o u fs,H2 a=some (.frz o u)/\o.data= .fields fs/\fs[2]?=some .none)/\sp (x::(vs++dvs)) H2 Q E0
section
variable{X:Cx}{k j:Nat}{f C:Addr}{fd:FuncData}{ps:List Str}{sp:Sp}{dvs:List V}{ds:List Value}{m:Str}{pos apos:Pos}{e o:Expr}{es:List Expr}{ta:TE}{t:TA}
theorem D8d{a:Addr}{pins:List (Addr×Obj)}{σ:St}{H:Hp}{s:Shared}{Q:VK}{us:List Value}{vs:List V}(hA:X.A.handled=some (.ref a))(F:B4v X.prog X.w X.K X.mg X.base k f fd ps sp)(hr:Y2 k X.A)(hb:V9 X.K fd ps ds)(hd:G7 dvs ds)
   (I:Inv X pins σ H s) (r:G7 vs us) (hh:∃o u fs,H a=some (.frz o u)/\o.data= .fields fs/\fs[2]?=some .none) (h:sp (vs++dvs) H Q E0):wpAny (model X.prog X.w) X.A (call (.ref f) us) (EP X pins σ Q) X.xe s:=by
 have r2:G7 (vs++dvs) (us++ds):=r.append hd
 have hl:(us++ds).length=ps.length:=by rw[<-r2.length];exact F.len _ _ _ _ h
 obtain⟨o,u,fs,e1,e2,e3⟩:=hh
 refine wpAny_call (codeAny_mono (F.run X.A X.stack s H ⟨us,[]⟩ (us++ds) (vs++dvs) Q hr I.env0 (.inr ⟨a,o,u,fs,hA,e1,e2,e3⟩) (hb s us I.kIn hl) r2 h) fun r s' hq=>?_)
 cases r with
 |error e=>exact hq.elim
 | ok fl=>
   cases fl with
   |ret u=>exact I.after hq
   |next=>exact False.elim hq
   |brk=>exact False.elim hq
   |cont=>exact False.elim hq
theorem C3r{a:Addr}{pl:Sem Bool}(hA:X.A.handled=some (.ref a))(he:PE X o ta)(c:Cls X.K C)(hm:A7s X.K C m f)(F:B4v X.prog X.w X.K X.mg X.base j f fd ps sp)(hr:Y2 k X.A)(hb:V9 X.K fd ps ds)(hd:G7 dvs ds)(ha:PA X (e::es) t)
   (hj:j<=k:=by decide)
   (hst:starEach (e::es) X.env=(false,eval e X.env)::starEach es X.env:=by rfl) (hpl:(backTo pos (starEach es X.env)).any (·.1)=false:=by rfl)
   (ht:eval (.Call (.Attribute o m apos) (e::es) [] pos) X.env=(do
     let ov<-eval o X.env
     standAt apos.atName
     let(f,first)<-holding [ov] (getMethod ov m pl)
     callWith pos f first (backTo pos (starEach (e::es) X.env)) (backToKw pos (keywordEach [] X.env))):=by rfl):
   PE X (.Call (.Attribute o m apos) (e::es) [] pos) (D8z a C m sp dvs ta t):=by
 intro pins s σ H Q I h
 refine methodCall_KW (pl:=pl) (thn (he pins s σ H _ I h) fun u s1 hh_=>?_) ht
 obtain⟨x,H1,I1,rx,a',dx,fs,ex,ea,l,q⟩:=hh_
 subst ex
 obtain rfl:u=Value.ref a':=rx
 refine A2g I1 ea c hm l ?_
 refine callWith_K (first:=[.ref a']) (h₀:=X.base) I.ok.mod.kin hm.kp (thn (ha pos pins s1 σ H1 _ I1 q) fun us s2 ⟨vs,H2,I2,r,q2⟩=>⟨I2.kIn,?_⟩) hst hpl
 exact D8d (a:=a) (us:= .ref a'::us) (vs:= .ref a'::vs) hA ⟨F.len,fun A outer s H args us vs Q hr=>F.run A outer s H args us vs Q (hr.mono hj)⟩ hr hb hd I2 (.cons rfl r) q2.1 q2.2
end
section
variable{X:Cx}{j k:Nat}{f C:Addr}{fd:FuncData}{ps:List Str}{sp:Sp}{dvs:List V}{ds:List Value}{x m:Str}{p pos apos:Pos}{e o:Expr}{es:List Expr}{ta:TE}{t:TA}{st:Stmt}
theorem C9y(hk:Y4 X){pins:List (Addr×Obj)}{σ:St}{H:Hp}{s:Shared}{Q:VK}{us:List Value}{vs:List V}(F:C6 X.prog X.w X.K X.mg X.base k f fd ps sp)(hr:Y2 k X.A)(hb:V9 X.K fd ps ds)(hd:G7 dvs ds)
   (I:Inv X pins σ H s) (r:G7 vs us) (h:sp (vs++dvs) H Q (fun C d H'=>EKF C d σ H')):wpAny (model X.prog X.w) X.A (call (.ref f) us) (EP X pins σ Q) X.xe s:=by
 have r2:G7 (vs++dvs) (us++ds):=r.append hd
 have hl:(us++ds).length=ps.length:=by rw[<-r2.length];exact F.len _ _ _ _ h
 refine wpAny_call (codeAny_mono (F.run X.A X.stack s H ⟨us,[]⟩ (us++ds) (vs++dvs) Q _ hr I.env0 (I.hdH hk) (.inr fun _ _ _ z=>z) (hb s us I.kIn hl) r2 h) fun r s' hq=>?_)
 cases r with
 | error e=>
   obtain⟨a,t,C,dd,H',_,_,_,_,_,hE,_⟩:=hq
   exact False.elim hE
 | ok fl=>
   cases fl with
   |ret u=>exact I.after hq
   |next=>exact False.elim hq
   |brk=>exact False.elim hq
   |cont=>exact False.elim hq
theorem D7v(hk:Y4 X)(D:Def X.K X.mg x ps st f fd)(F:C6 X.prog X.w X.K X.mg X.base j f fd ps sp)(hr:Y2 k X.A)(ha:PA X (e::es) t)(hj:j<=k:=by decide)(hg:Gl X x:=by rfl)(hdb:(x==("__debug__":Str))=false:=by decide)
   (he:starEach (e::es) X.env=(false,eval e X.env)::starEach es X.env:=by rfl) (hpl:(backTo pos (starEach es X.env)).any (·.1)=false:=by rfl):PE X (.Call (.Name x p) (e::es) [] pos) (A2u sp [] EKF t):=by
 intro pins s σ H Q I h
 refine wpAny_Call_Name_kw (Z8 I hg D.g ?_ hdb)
 refine PySem.W.callWith_K (h₀:=X.base) I.ok.mod.kin D.F.kp (thn (ha pos pins s σ H _ I h) fun us s1 ⟨vs,H1,I1,r,q⟩=>⟨I1.kIn,?_⟩) he hpl
 exact C9y hk (F.mono hj) hr D.b .nil I1 r q
end
theorem C5v{X:Cx}(hd:Y4 X):A1b X (.builtin "all") (fun xs H Q=>∃(l:Addr) (bs:List Bool),xs=[.ref l]/\SqL X.K H l (bs.map V.bl)/\Q (.bl (bs.all id)) H):=by
 rcases hd with z|⟨x,ox,u2,vs2,hh,e2,d2,n2⟩
 . exact B9a z
 intro pins s σ H xs us Q I r h
 obtain⟨l,bs,rfl,hl,q⟩:=h
 obtain⟨u,rfl,ru⟩:=G7.one r
 cases ru
 obtain⟨its,rv,p,hz⟩:=I.list hl
 obtain⟨o,e,_⟩:=id p.isList
 have hlt:l<s.heap.objs.size:=Heap.lt_size e
 have hlen:its.length=bs.length:=by rw[<-rv.length,List.length_map]
 have ex:s.heap.get? x=some ox:=(I.hok x _ (I.base.frzs x ox u2 e2)).1
 refine call_all_walk (wpAny_pyIter_list p.isList ?_)
 refine⟨s.heap.objs.size,[s.heap.objs.size,l,x],[s.heap.objs.size],its.toArray.size,_,_,fun i=>(bs[i]?).getD true,rfl,B8p (A:=X.A.in1) hh d2 n2 _ l (Nat.ne_of_lt hlt) (Nat.ne_of_lt (Heap.lt_size ex)) its.toArray,⟨⟨_,Heap.get?_push_size _ rfl,rfl,rfl⟩,p.isList.push _,Heap.get?_push_of_some _ ex⟩,fun i v s' Q' E' hP hQ=>?_,fun h' tk hk=>?_⟩
 . have hP:its[i]?=some v:=by simpa using hP
   have hi:i<bs.length:=by rw[<-hlen];exact(List.getElem?_eq_some_iff.mp hP).1
   obtain⟨u',hu',ru'⟩:=rv.get (i:=i) (x:=V.bl bs[i]) (by simp[hi])
   rw[hP] at hu'
   cases hu'
   cases ru'
   have z:(bs[i]?).getD true=bs[i]:=by simp[hi]
   dsimp only at hQ
   rw[z] at hQ
   exact wpAny_truthy_bool hQ
 have z:((List.range its.toArray.size).all fun i=>(bs[i]?).getD true)=bs.all id:=by
   rw[List.size_toArray,hlen]
   exact LSm.range_all bs
 rw[z]
 exact⟨.bl (bs.all id),H,I.kept fun b x e=>hk b x (fun hm=>by rw[List.mem_singleton.mp hm] at e;exact Nat.lt_irrefl _ (Heap.lt_size e)) (Heap.get?_push_of_some _ e),rfl,q⟩
section
variable{X:Cx}
noncomputable def D8t:V ->List V ->Hp ->VK ->Prop:=fun x vs H Q=>∃d kvs,x= .ref d/\vs=[]/\H d=some (.dK kvs)/\Q .non (upd H d (.dK []))
theorem C5u:MtR X "dict.clear" D8t:=by
 intro pins s σ H x vs v us Q I rx rv h
 obtain⟨d,kvs,rfl,rfl,hd,q⟩:=h
 cases rx
 have hus:=rv.zero
 subst hus
 obtain⟨z1,lo1,vs1,r1,D1⟩:=(show Y9 X.prog X.w H s.heap d (.dK kvs) from I.hok d _ hd)
 refine call_meetsIn PySem.F.slot_dict_clear D1.typeIs PySem.F.entry_dict_clear (PySem.F.args_dict_clear_1 _) (meets_dict_clear (A0g X.prog X.w) d) ⟨vs1,D1,by rw[<-KV.length r1];exact z1,fun h' e1 sb=>?_⟩
 refine⟨.non,_,I.write (x:=d) (e:=d) (o:= .dK []) (h':=h') (t':=s.toks) (by rw[hd];exact trivial) (.inl rfl) (fun b ob hb e=>sb.extBut b ob hb e) ?_ ⟨Nat.zero_le _,lo1,[],.nil,e1⟩,rfl,q⟩
 obtain⟨ob,_,_,e,_⟩:=e1
 exact⟨ob,e⟩
end
section
variable{X:Cx}
end
theorem B8t{x:Str}{u:Tok}{n:Int}{M:Model}{A:Around}{E:Value ->Shared ->Prop}{s:Shared}{Q:Value ->Shared ->Prop}(hd:s.heap.NoDigits)(hl:x.length<=sizeLine)(hn:PySem.intText? x=some n)(h:Q (.int n s.toks) {s with toks:=s.toks+1}):
   wpAny M A (Builtin.«int.__new__» { pos := [.type "int", .str x u] }) (fun fin s' => ∃ v, fin = Fin.done (Flow.ret v) /\ Q v s') E s := by
 have hr:=(readAny x hl).resolve_right (fun z=>by rw[hn] at z;exact absurd z.1 (by simp))
 obtain⟨m,h1,h2,h3⟩:=hr
 rw[hn] at h1
 cases h1
 by_cases hs:(numSeenOf x).length<=640
 . have hk:(numLimitOf x)=0:=if_pos hs
   rw[hk] at h3
   refine wpAny_bind (wpAny_pure ?_)
   refine wpAny_ite_false rfl ?_
   refine wpAny_bind (wpAny_of_eq F.conv_sub_int ?_)
   refine wpAny_ite_false rfl ?_
   refine wpAny_bind (wpAny_of_eq F.madeHere_int ?_)
   refine wpAny_ite_false rfl ?_
   refine wpAny_ite_false rfl ?_
   refine wpAny_bind (wpAny_pure ?_)
   refine wpAny_bind (wpAny_bind (wpAny_bind (wpAny_specialOf_val rfl KIN.str_int ?_)))
   refine wpAny_pure ?_
   refine wpAny_bind (wpAny_specialOf_val rfl KIN.str_idx ?_)
   refine wpAny_ite_false rfl ?_
   refine wpAny_bind (wpAny_specialOf_val rfl KIN.str_trunc ?_)
   refine wpAny_bind (wpAny_bind (wpAny_pure ?_))
   refine wpAny_pure ?_
   exact KIN.wp_text hs h3 h2 (wpAny_ite_true rfl (wpAny_pure ⟨_,rfl,h⟩))
 have hk:(numLimitOf x)=4300:=if_neg hs
 rw[hk] at h3
 obtain⟨mc,ns,nd⟩:=hd
 refine wpAny_bind (wpAny_pure ?_)
 refine wpAny_ite_false rfl ?_
 refine wpAny_bind (wpAny_of_eq F.conv_sub_int ?_)
 refine wpAny_ite_false rfl ?_
 refine wpAny_bind (wpAny_of_eq F.madeHere_int ?_)
 refine wpAny_ite_false rfl ?_
 refine wpAny_ite_false rfl ?_
 refine wpAny_bind (wpAny_pure ?_)
 refine wpAny_bind (wpAny_bind (wpAny_bind (wpAny_specialOf_val rfl KIN.str_int ?_)))
 refine wpAny_pure ?_
 refine wpAny_bind (wpAny_specialOf_val rfl KIN.str_idx ?_)
 refine wpAny_ite_false rfl ?_
 refine wpAny_bind (wpAny_specialOf_val rfl KIN.str_trunc ?_)
 refine wpAny_bind (wpAny_bind (wpAny_pure ?_))
 refine wpAny_pure ?_
 refine wpAny_ite_false (decide_eq_false hs) ?_
 refine wpAny_bind (wpAny_bind (wpAny_nsGet ns ?_))
 rw[nd]
 refine wpAny_pure ?_
 have h3':=h3
 have h2':=h2
 unfold numSeenOf numTextOf at h3' h2'
 dsimp only
 rw[h3']
 refine wpAny_ite_true (decide_eq_true h2') (wpAny_mkInt ?_)
 exact wpAny_ite_true rfl (wpAny_pure ⟨_,rfl,h⟩)
section
variable{X:Cx}
theorem B2a(hd:X.base.NoDigits):A1b X (.type "int") (fun xs H Q=>∃z n,xs=[.str z]/\PySem.intText? z=some n/\z.length<=sizeLine/\Q (.int n) H):=by
 intro pins s σ H xs us Q I r h
 obtain⟨z,n,rfl,h1,h2,q⟩:=h
 obtain⟨u,rfl,t,rfl⟩:=A7g r
 have nd:s.heap.NoDigits:=hd.keeps I.bk
 refine call_int_1 (S:=fun A R s'=>s'=s/\R (.ok (.ret (.int n s.toks))) {s with toks:=s.toks+1}) ?_ ⟨rfl,?_⟩
 . rintro prog w A R s' ⟨rfl,hR⟩
   refine wpAny_mono (B8t (E:=fun e s'=>R (.error e) s') (Q:=fun v s'=>R (.ok (.ret v)) s') nd h2 h1 hR) ?_ (fun e s' z=>z)
   . rintro fin s' ⟨v,rfl,hv⟩
     exact hv
 exact⟨rfl,.int n,H,I.tok _,⟨_,rfl⟩,q⟩
theorem C5y(n:Nat)(h:n<=4000):PySem.intText? (C4h n)=some ((10^n:Nat):Int):=by
 have e:PySem.NumText.digitsVal (C4h n).cps.toList=10^n:=by
   rw[A5m]
   unfold PySem.NumText.digitsVal
   rw[List.foldl_cons,C0d,Nat.zero_mul,Nat.zero_add]
   omega
 rw[<-e]
 refine PySem.intText_digits ?_ (by rw[A5m];exact fun z=>nomatch z) (by rw[B7z];omega)
 rw[A5m]
 intro c hc
 rcases List.mem_cons.mp hc with rfl|hc
 . exact⟨by decide,by decide⟩
 rw[(List.mem_replicate.mp hc).2]
 exact⟨by decide,by decide⟩
theorem A4s{n:Nat}(h:n<=4001):n<=sizeLine:=Nat.le_trans h (by decide)
theorem A5x(hd:X.base.NoDigits)(hh:X.A.handled=none):A1b X (.type "str") (fun xs H Q=>∃i,xs=[.int i]/\i.natAbs<10^4300/\Q (.str (toString i)) H):=by
 intro pins s σ H xs us Q I r h
 obtain⟨i,rfl,hz,q⟩:=h
 obtain⟨u,rfl,t,rfl⟩:=A7g r
 exact str_of_int_or hh (hd.keeps I.bk) (fun _=>⟨.str _,H,I.tok _,⟨_,rfl⟩,q⟩) (fun z=>absurd hz (Nat.not_lt.mpr z))
end
theorem C5f{P:Program}{w:World}{K:PySem.W.Frag}{mg mb:Str ->Option Value}{CX:CXT}{k:Nat}{fa a:Addr}{fd:FuncData}{x:Str}{sp:Sp}{s₁:Shared}{vs:List Value}{ns:List Int}
   (KX:K.In s₁.heap) (hns:s₁.heap.Ns mainGlobals mg) (hb:s₁.heap.Ns builtinsNs mb) (hbb:∀x:Str,x≠"__name__" ->mb x=bootBuiltins x) (hlim:s₁.heap.NoLimit) (hdig:s₁.heap.NoDigits) (hg:s₁.gens= #[])
   (ha:s₁.heap.get? a=some {cls:= .type "list",data:= .seq vs.toArray}) (hi:IntsAre vs ns) (hl:ns.length<=sizeLine) (hr:A0p k callerA)
   (F:∀base:Heap,K.In base ->base.Ns mainGlobals mg ->base.NoDigits ->G0 P w K mg base CX k fa fd [x] sp) (hbind:∀(s:Shared) (u:Value),BindsTo s fd ⟨[u],[]⟩ [(x,u)])
   (hsp:∀H:Hp,G1x H ->SqL K H a (ns.map V.int) ->sp [.ref a] H (fun v _=>v= .bl true) fun _ _ _=>False)
   (hCX:∀H e s',CX [] H s₁ (fun _ _ _=>False) e s' ->False):
   codeAny (model P w) callerA (.call (.ref fa) ⟨[.ref a],[]⟩) (fun r s'=>r= .ok (.ret (.bool true))/\OldK s₁.heap s'.heap/\s'.os=s₁.os/\AllBare s'.gens) s₁:=by
 have rv:=B4n hi
 have lenV:=hi.length
 have core :∀H:Hp,G1x H ->SqL K H a (ns.map V.int) ->HOk P w H s₁.heap ->(∀b,H b≠none ->b=a) ->(H a≠none ->K.lookup a=none) ->
     codeAny (model P w) callerA (.call (.ref fa) ⟨[.ref a],[]⟩) (fun r s'=>r= .ok (.ret (.bool true))/\OldK s₁.heap s'.heap/\s'.os=s₁.os/\AllBare s'.gens) s₁:=by
   intro H hO hS hok hA hK
   have base_of:∀{b:Addr} {o:Obj},s₁.heap.get? b=some o ->H b=none ->(B5k s₁.heap H).get? b=some o:=fun e n=>D1e e n
   have noA:∀{b:Addr} {o:Obj} {es:Array DictEntry} {ep:Nat},s₁.heap.get? b=some o ->o.data= .dict es ep ->H b=none:=fun{b o es ep} e d=>by
     cases q:H b with
     |none=>rfl
     | some u=>
       have e':b=a:=hA b (by rw[q];simp)
       subst e'
       rw[ha] at e;cases e
       have d':Data.seq vs.toArray _=Data.dict es ep:=d
       cases d'
   have nsK:∀{b:Addr} {m:Str ->Option Value},s₁.heap.Ns b m ->(B5k s₁.heap H).Ns b m:=fun{b m} ⟨o,es,ep,e,d,r⟩=>⟨o,es,ep,base_of e (noA e d),d,r⟩
   have hKb:K.In (B5k s₁.heap H):=fun b o e=>base_of (KX b o e) (by
     cases q:H b with
     |none=>rfl
     | some u=>
       have e':b=a:=hA b (by rw[q];simp)
       subst e'
       rw[hK (by rw[q];simp)] at e;cases e)
   have hM:Mod K mg (B5k s₁.heap H):=⟨hKb,nsK hns,⟨mb,nsK hb,hbb⟩,let⟨mc,h1,h2⟩:=hlim;⟨mc,nsK h1,h2⟩⟩
   have e0:A9n P w K mg (B5k s₁.heap H) callerA [] s₁ H:=⟨rfl,hM,fun b o e=>D6j e,Nat.le_of_eq (C4y _ _),trivial,fun b hb=>absurd (show b∈([]:List Addr) from hb) (by simp),hok,.of_eq hg⟩
   refine codeAny_mono ((F _ hKb (nsK hns) (let⟨mc,h1,h2⟩:=hdig;⟨mc,nsK h1,h2⟩)).run callerA [] s₁ H ⟨[.ref a],[]⟩ [.ref a] [.ref a] _ _ hr e0 (hbind s₁ (.ref a)) (.cons rfl .nil) (hsp H hO hS)) fun r s' h=>?_
   cases r with
   |error e=>exact(hCX H e s' h).elim
   | ok fl =>
     cases fl with
     |next=>exact False.elim h
     |brk=>exact False.elim h
     |cont=>exact False.elim h
     | ret u=>
       obtain⟨v,H',os,bare,un,hok',r',q⟩:=h
       have q':v= .bl true:=q
       subst q'
       obtain rfl:u=Value.bool true:=r'
       refine⟨rfl,OldK.of_keep fun b o e=>?_,os,bare⟩
       cases q:H b with
       |none=>exact un.keep b o e q (by intro z;exact absurd (show b∈([]:List Addr) from z) (by simp)) (by simp)
       | some u=>
         rcases hO b with z|⟨ob,xs,z⟩
         . rw[q] at z;cases z
         . have z2:=un.frzs b ob _ z
           obtain⟨e1,_⟩:=hok b _ z
           obtain⟨e2,_⟩:=hok' b _ z2
           rw[e] at e1;cases e1
           exact e2
 cases hk:K.lookup a with
 | some o=>
   have e:=KX a o hk
   rw[ha] at e
   cases e
   refine core (fun _=>none) (fun _=> .inl rfl) (.inr ⟨_,vs.toArray,_,hk,rfl,rfl,rfl,by rw[List.size_toArray,lenV];exact hl,by simpa using rv⟩) (fun b u z=>by have z':(none:Option HO)=some u:=z;cases z') (fun b z=>absurd rfl z) fun z=>absurd rfl z
 | none=>
   refine core (fun b=>if b=a then some (.frz {cls:= .type "list",data:= .seq vs.toArray} (.lst (ns.map V.int))) else none) (fun b=>?_) (.inl (.inr ⟨{cls:= .type "list",data:= .seq vs.toArray},if_pos rfl⟩)) (fun b u z=>?_) (fun b z=>?_) fun _=>hk
   . by_cases hb:b=a
     . exact .inr ⟨_,_,if_pos hb⟩
     . exact .inl (if_neg hb)
   . by_cases hb:b=a
     . have z':=(if_pos hb).symm.trans z
       cases z'
       subst hb
       exact⟨ha,by rw[List.length_map];exact hl,vs,_,rv,ha⟩
     . have z':=(if_neg hb).symm.trans z
       cases z'
   . by_cases hb:b=a
     . exact hb
     . exact absurd (if_neg hb) z
end L2
namespace L2
open PySem PySem.Spec PyProof.Rows
theorem walk_ofD{l:PySem.W.OpenLaw}{n k:Nat}{q:Program}{loose:List Str}{XP:(Str ->Option Value) ->Heap ->Prop}{YP:World ->Heap ->Prop}{d:DefRec}{K:Params ->PySem.W.Frag}{CX:World ->CXT}{sp:World ->Sp}{x:Str}
   (hn:l.most=some n) (hn2:n<=sizeLine) (hdf:d.params.defaults=[]) (hr:A0p k callerA)
   (hY:∀(w:World) (h:Heap),YP w h ->(K w.params).In h)
   (F:∀(w:World) (mg:Str ->Option Value) (fa:Addr) (h:Heap),(K w.params).In h ->h.Ns mainGlobals mg ->mg d.name=some (.ref fa) ->
     ∃ fd:FuncData,(∀(s:Shared) (u:Value),BindsTo s fd ⟨[u],[]⟩ [(x,u)])/\
       ∀base:Heap,(K w.params).In base ->base.Ns mainGlobals mg ->base.NoDigits ->G0 l.prog w (K w.params) mg base (CX w) k fa fd [x] (sp w))
   (hsp:∀(w:World) (H:Hp) (a:Addr) (ns:List Int),ns.length<=n ->G1x H ->SqL (K w.params) H a (ns.map V.int) ->sp w [.ref a] H (fun v _=>v= .bl true) fun _ _ _=>False)
   (hCX:∀(w:World) (H:Hp) (s:Shared) (e:Value) (s':Shared),CX w [] H s (fun _ _ _=>False) e s' ->False):
   PySem.W.WalkO q loose XP YP l.row.toRowW d [] (fun f vs=>PySem.call f vs):=by
 refine Att.attach_call hn hdf fun w s₀ s₁ mg mb fa o pm cd doc a vs ns G Y ho hd hcd hmg hobj hints hlen hg=>?_
 have KX:=hY w _ Y
 obtain⟨fd,hb,hF⟩:=F w mg fa _ KX G.T.g hmg
 exact C5f KX G.T.g G.T.b G.T.builtins G.T.nolimit G.T.nodigits hg hobj hints (Nat.le_trans hlen hn2) hr hF hb (fun H hO hS=>hsp w H a ns hlen hO hS) fun H e s'=>hCX w H s₁ e s'
end L2
namespace TR
open PySem L2 PySem.W PyProof.Rows
seal PE PS PSs PA PT PW PG PGs PI PO
noncomputable abbrev Q0:List Str:=["self","sign","last","part"]
noncomputable abbrev Q3:List Str:=["self","sign"]
noncomputable abbrev Q4:List Str:=["thing","least","most"]
noncomputable abbrev Q5:List Str:=["context","sign"]
noncomputable abbrev Q7:List Str:=["_law_cell","_law_k"]
noncomputable abbrev Q8:List Str:=["_law_number_here"]
noncomputable abbrev Q9:List Str:=["_law_top","_law_bottom","_law_power_here"]
noncomputable abbrev Q10:List Str:=["sign","figures","power"]
noncomputable abbrev Q11:List Str:=["self","names"]
noncomputable abbrev Q12:List Str:=["context","sign","ideal"]
noncomputable abbrev Q13:List Str:=["_law_which","_law_context","_law_some"]
noncomputable abbrev Q14:List Str:=["whole","count"]
noncomputable abbrev Q15:List Str:=["self","top","bottom","power"]
noncomputable abbrev Q16:List Str:=["context","one","count"]
noncomputable abbrev Q17:List Str:=["_law_found","_law_due"]
noncomputable abbrev Q18:List Str:=["_law_context","_law_which","_law_some"]
noncomputable abbrev Q19:List Str:=["self","power"]
noncomputable abbrev Q20:List Str:=["size","middle"]
noncomputable abbrev Q21:List Str:=["self","room","way","least","most"]
noncomputable abbrev Q22:List Str:=["ideal","sign","figures","power"]
noncomputable abbrev Q23:List Str:=["context","sign","pair"]
noncomputable abbrev Q24:List Str:=["context","sign","figures","power"]
noncomputable abbrev Q25:List Str:=["context","number"]
noncomputable abbrev Q26:List Str:=["part","is_cut"]
noncomputable abbrev Q27:List Str:=["context","lead","part"]
noncomputable abbrev Q28:List Str:=["context","exact"]
noncomputable abbrev Q29:List Str:=["thing","most"]
noncomputable abbrev Q30:List Str:=["context","sign","power","count"]
noncomputable abbrev Q31:List Str:=["context","sign","count"]
noncomputable abbrev Q32:List Str:=["_law_script","_law_k"]
noncomputable abbrev Q33:List Str:=["_law_way","_law_sign","_law_last","_law_part"]
noncomputable abbrev Q34:List Str:=["self","kind","sign","figures","power"]
noncomputable abbrev Q35:List Str:=["self","signal"]
noncomputable abbrev Q36:List Str:=["burst","off","cut"]
noncomputable abbrev Q37:List Str:=["context","sign","exact","ideal"]
noncomputable abbrev Q38:List Str:=["_law_top","_law_bottom"]
noncomputable abbrev Q39:List Str:=["_law_rules_here","_law_sign"]
noncomputable abbrev Q40:List Str:=["_law_rules_here","_law_sign","_law_ideal"]
noncomputable abbrev Q41:List Str:=["_law_rules_here","_law_sign","_law_figures","_law_power_here","_law_part","_law_is_faint","_law_ideal"]
noncomputable abbrev Q42:List Str:=["_law_rules_here","_law_sign","_law_top","_law_bottom","_law_ideal"]
noncomputable abbrev Q43:List Str:=["_law_due","_law_traps_here","_law_kept","_law_context","_law_which","_law_some"]
noncomputable abbrev Q44:List Str:=["_law_rules_here","_law_number_here","_law_sign","_law_count"]
noncomputable abbrev Q45:List Str:=["_law_rules_here","_law_number_here","_law_count"]
noncomputable abbrev Q46:List Str:=["_law_context","_law_number_here","_law_count"]
noncomputable abbrev Q47:List Str:=["_law_context","_law_number_here","_law_draw"]
noncomputable abbrev Q48:List Str:=["_law_room","_law_way","_law_least","_law_most"]
noncomputable abbrev Q49:List Str:=["_law_k","_law_script"]
noncomputable abbrev Q50:List Str:=["_law_number_here","_law_due"]
noncomputable abbrev Q51:List Str:=["_law_cell","_law_kind","_law_sign","_law_many","_law_long","_law_k","_law_figures","_law_power_here"]
noncomputable abbrev Q52:List Str:=["_law_number_here","_law_kind","_law_sign","_law_figures","_law_power_here"]
noncomputable abbrev Q53:List Str:=["_law_cell","_law_room","_law_ways","_law_way","_law_least","_law_most"]
noncomputable abbrev Q54:List Str:=["_law_top","_law_bottom","_law_found","_law_high","_law_low"]
noncomputable abbrev Q55:List Str:=["_law_rules_here","_law_sign","_law_room","_law_way","_law_least","_law_most","_law_raised"]
variable{P:Program}{w:World}{K:Frag}{mg:Str ->Option Value}{base:Heap}
noncomputable abbrev sr (a:Addr):Option V:=some (.ref a)
noncomputable abbrev si (a:Int):Option V:=some (.int a)
noncomputable abbrev sR (a:Str):Option V:=some (.str a)
noncomputable abbrev sI (P:Program) (w:World) (K:Frag) (mg:Str ->Option Value) (base:Heap):=G0 P w K mg base (CX1 P w)
noncomputable def top (i:Nat):Stmt:=PySem.Challenge.pw_tenreckon_k25_powers.main.body.getD i (.Pass ⟨0,0,0,0⟩)
noncomputable abbrev B8m:Stmt:=(top 24)
noncomputable def G6z (K:Frag):Sp:=fun vs H Q _=>∃v lo hi,vs=[v,.int lo,.int hi]/\((A2s lo hi v/\Q (.bl true) H)\/(A4e K H lo hi v/\Q (.bl false) H))
theorem G6b:B8 Q4 Q4 (A5 B8m):=scK
theorem C0b(D:Def K mg "is_between" Q4 B8m f fd)(O:Own mg)(T:Kit K):C6 P w K mg base 1 f fd Q4 (G6z K):=by
 refine D.F.ok2 G6b (fun vs H Q E h=>?_) (fun X cdv A outer s H vs Q E hX hr hx h=>?_)
 . obtain⟨v,lo,hi,rfl,_⟩:=h
   rfl
 subst hX
 obtain⟨v,lo,hi,rfl,h⟩:=h
 refine⟨_,(A4 (U0 (PW.pt (A4n (A1a (Z5 (A9j O.isi (pv 0) (pty O.int_ boot_int)))) (A6b (Z5 (A9j O.isi (pv 0) (pty O.bool_ boot_bool)))))) (A7 (B7 A0v)) D7) (A7 (B7 (Z4 (D9 C3q (pv 0) (pv 1) (B9 _)) (Z6 (D9 G0q (pv 0) (pv 2) (B9 _))))))),?_⟩
 rcases h with⟨⟨i,rfl,h1,h2⟩,k⟩|⟨⟨t,b1,b2,ty,k1,k2,bad⟩,k⟩
 . refine⟨_,rfl,_,_,_,_,true,rfl,rfl,B4u i,T.int_int,_,rfl,Y1 ?_⟩
   refine⟨_,rfl,_,_,_,_,false,rfl,rfl,B4u i,T.int_bool,_,rfl,Y1 ?_⟩
   refine⟨_,rfl,_,rfl,_,_,rfl,rfl,_,rfl,A0c h1 ?_⟩
   refine⟨_,rfl,_,rfl,_,_,rfl,rfl,?_⟩
   show Q (.bl (decide (i<=hi))) H
   rw[decide_eq_true h2]
   exact k
 refine⟨_,rfl,_,_,_,_,b1,rfl,rfl,ty,k1,_,rfl,?_⟩
 cases b1 with
 |false=>exact Z3 (Z3 k)
 | true=>
   refine Y1 ⟨_,rfl,_,_,_,_,b2,rfl,rfl,ty,k2,_,rfl,?_⟩
   cases b2 with
   |true=>exact Z3 k
   | false=>
     obtain⟨i,rfl,out⟩:=bad.resolve_left (by decide)
     refine Y1 ⟨_,rfl,_,rfl,_,_,rfl,rfl,_,rfl,U5 (fun h1=>?_) (fun h1=>?_)⟩
     . refine⟨_,rfl,_,rfl,_,_,rfl,rfl,?_⟩
       show Q (.bl (decide (i<=hi))) H
       rw[decide_eq_false (by omega:¬i<=hi)]
       exact k
     . exact k
structure Err(K:Frag)(mg:Str ->Option Value)(x:Str)(CB:Addr):Prop where
 g:mg x=some (.ref CB)
 q:excIn K CB [.type "ValueError",.type "Exception",.type "BaseException",.type "object"] "ValueError.__new__"=true
noncomputable def A6z (lo hi:Int):Prop:=lo.natAbs.log2<1920/\hi.natAbs.log2<1920/\(Str.ofString (toString lo)).length<=100/\(Str.ofString (toString hi)).length<=100
noncomputable abbrev A7e:Stmt:=(top 59)
noncomputable def B3g (K:Frag) (CB:Addr):Sp:=fun vs H Q E=>∃v lo hi,vs=[v,.int lo,.int hi]/\A6z lo hi/\((A2s lo hi v/\Q v H)\/(A4e K H lo hi v/\E (.ref CB) none H))
theorem C6w:B8 Q4 Q4 (A5 A7e):=scK
theorem C1f{f f1 CB:Addr}(D:Def K mg "bounded" Q4 A7e f fd)(D1:Def K mg "is_between" Q4 B8m f1 fd1)(O:Own mg)(T:Kit K)(B:Err K mg "BadContext" CB):
   C6 P w K mg base 2 f fd Q4 (B3g K CB):=by
 have G1:=C0b (P:=P) (w:=w) (base:=base) D1 O T
 refine D.F.ok2 C6w (fun vs H Q E h=>?_) (fun X cdv A outer s H vs Q E hX hr hx h=>?_)
 . obtain⟨v,lo,hi,rfl,_⟩:=h
   rfl
 subst hX
 obtain⟨v,lo,hi,rfl,⟨l1,l2,l3,l4⟩,h⟩:=h
 refine⟨_,(A4 (U0 (A1a (Z5 (G5 D1 G1 hr hx (A0 (pv 0) (A0 (pv 1) (A0 (pv 2) A3)))))) (A7 (A0y (by rfl) B.g B.q PySem.F.excBase_ValueError hx (A0 (B6g (.cons .lit (.cons (.int (pv 1)) (.cons .lit (.cons (.int (pv 2)) .nil))))) A3))) D7) (A7 (B7 (pv 0)))),?_⟩
 rcases h with⟨g,k⟩|⟨bad,k⟩
 . exact⟨_,rfl,_,rfl,_,rfl,_,_,_,rfl,.inl ⟨g,_,rfl,Y1 ⟨_,rfl,k⟩⟩⟩
 have a0:Str.empty.length=0:=rfl
 have a1:(Str.ofString "not a whole number from ").length=24:=by decide+kernel
 have a2:(Str.ofString " to ").length=4:=by decide+kernel
 have sz:∀{n:Nat},n<=1000 ->n<=sizeLine:=fun h=>Nat.le_of_lt (A0r h)
 refine⟨_,rfl,_,rfl,_,rfl,_,_,_,rfl,.inr ⟨bad,_,rfl,Z3 ?_⟩⟩
 exact⟨_,rfl,sz (by rw[strLen_append];omega),_,rfl,_,rfl,l1,_,rfl,sz (by rw[strLen_append,strLen_append];omega),_,rfl,sz (by rw[strLen_append,strLen_append,strLen_append];omega),_,rfl,_,rfl,l2,_,rfl,sz (by rw[strLen_append,strLen_append,strLen_append,strLen_append];omega),sz (by rw[strLen_append,strLen_append,strLen_append,strLen_append];omega),sz (by show 1<=1000;decide),k⟩
noncomputable abbrev A4j:Stmt:=(top 25)
noncomputable def C5g (K:Frag) (CB:Addr):Sp:=fun vs H Q E=>∃v lo hi,vs=[v,.int lo,.int hi]/\A6z lo hi/\
 ((A2s lo hi v/\Q .non H)\/(A4e K H lo hi v/\E (.ref CB) none H))
theorem C4j:B8 Q4 Q4 (A5 A4j):=scK
theorem B1w{f f1 CB:Addr}(D:Def K mg "need_between" Q4 A4j f fd)(D1:Def K mg "is_between" Q4 B8m f1 fd1)(O:Own mg)(T:Kit K)(B:Err K mg "BadNumber" CB):
   C6 P w K mg base 2 f fd Q4 (C5g K CB):=by
 have G1:=C0b (P:=P) (w:=w) (base:=base) D1 O T
 refine D.F.ok2 C4j (fun vs H Q E h=>?_) (fun X cdv A outer s H vs Q E hX hr hx h=>?_)
 . obtain⟨v,lo,hi,rfl,_⟩:=h
   rfl
 subst hX
 obtain⟨v,lo,hi,rfl,⟨l1,l2,l3,l4⟩,h⟩:=h
 refine⟨_,(A7 (U0 (A1a (Z5 (G5 D1 G1 hr hx (A0 (pv 0) (A0 (pv 1) (A0 (pv 2) A3)))))) (A7 (A0y (by rfl) B.g B.q PySem.F.excBase_ValueError hx (A0 (B6g (.cons .lit (.cons (.int (pv 1)) (.cons .lit (.cons (.int (pv 2)) .nil))))) A3))) D7)),?_⟩
 rcases h with⟨g,k⟩|⟨bad,k⟩
 . exact⟨_,rfl,_,rfl,_,rfl,_,_,_,rfl,.inl ⟨g,_,rfl,Y1 k⟩⟩
 have a0:Str.empty.length=0:=rfl
 have a1:(Str.ofString "not a whole number from ").length=24:=by decide+kernel
 have a2:(Str.ofString " to ").length=4:=by decide+kernel
 have sz:∀{n:Nat},n<=1000 ->n<=sizeLine:=fun h=>Nat.le_of_lt (A0r h)
 refine⟨_,rfl,_,rfl,_,rfl,_,_,_,rfl,.inr ⟨bad,_,rfl,Z3 ?_⟩⟩
 exact⟨_,rfl,sz (by rw[strLen_append];omega),_,rfl,_,rfl,l1,_,rfl,sz (by rw[strLen_append,strLen_append];omega),_,rfl,sz (by rw[strLen_append,strLen_append,strLen_append];omega),_,rfl,_,rfl,l2,_,rfl,sz (by rw[strLen_append,strLen_append,strLen_append,strLen_append];omega),sz (by rw[strLen_append,strLen_append,strLen_append,strLen_append];omega),sz (by show 1<=1000;decide),k⟩
noncomputable abbrev B4r:Stmt:=(J1 (top 17) 0)
noncomputable abbrev C2f:Stmt:=(top 21)
noncomputable abbrev B1h:Stmt:=(top 23)
structure Num(K:Frag)(mg:Str ->Option Value)(CN:Addr):Prop where
 g:mg "Number"=some (.ref CN)
 cl:Cls K CN
 n1:A0b K CN "kind"
 n2:A0b K CN "sign"
 n3:A0b K CN "figures"
 n4:A0b K CN "power"
 ca:findIn K (.ref CN) "__class__"=some (some (.builtin "object.__class__"))
 sn:specialIn K (.builtin "object.__class__") "__get__"=some (some (.builtin "getset_descriptor.__get__"))
 tk:takesIn K (.builtin "object.__class__")=some true
 ob:mroIn K CN (.type "object")=some true
 self:kitOne K (.ref CN) (.ref CN)=some true
noncomputable def B2x (k s f p:V):List (Str×V):=Y7 "power" p (Y7 "figures" f (Y7 "sign" s (Y7 "kind" k [])))
theorem e12:¬(("kind":Str)="sign"):=by decide+kernel
theorem e13:¬(("kind":Str)="figures"):=by decide+kernel
theorem e14:¬(("kind":Str)="power"):=by decide+kernel
theorem e23:¬(("sign":Str)="figures"):=by decide+kernel
theorem e24:¬(("sign":Str)="power"):=by decide+kernel
theorem e34:¬(("figures":Str)="power"):=by decide+kernel
theorem num1(k s f p:V):(B2x k s f p).lookup ("kind":Str)=some k:=by unfold B2x;rw[G8,if_neg e14,G8,if_neg e13,G8,if_neg e12,G8,if_pos rfl]
theorem G6t(k s f p:V):(B2x k s f p).lookup ("sign":Str)=some s:=by unfold B2x;rw[G8,if_neg e24,G8,if_neg e23,G8,if_pos rfl]
theorem D0d(k s f p:V):(B2x k s f p).lookup ("figures":Str)=some f:=by unfold B2x;rw[G8,if_neg e34,G8,if_pos rfl]
theorem num4(k s f p:V):(B2x k s f p).lookup ("power":Str)=some p:=by unfold B2x;rw[G8,if_pos rfl]
noncomputable def A2k (CN:Addr) (H:Hp) (n:Addr) (k s f p:V):Prop:=∃dx,H n=some (.ins CN dx (B2x k s f p))
theorem A2k.same{CN:Addr}{H H':Hp}{n:Addr}{k s f p:V}(h:A2k CN H n k s f p)(e:B5 H H'):A2k CN H' n k s f p:=by
 obtain⟨dx,z⟩:=h
 exact⟨dx,e _ _ z⟩
theorem Num.ty{K:Frag}{mg:Str ->Option Value}{CN:Addr}(N:Num K mg CN){H:Hp}{n:Addr}{k s f p:V}(h:A2k CN H n k s f p):TyE K H (.ref n) (.ref CN):=by
 obtain⟨dx,z⟩:=h
 exact .of (.ins z N.cl N.ca N.sn N.tk N.ob)
noncomputable def B5m (CN:Addr):Sp:=fun vs H Q _=>∃(p dx:Addr) (k s f pw:V),vs=[.ref p,k,s,f,pw]/\H p=some (.ins CN dx [])/\∀H',H' p=some (.ins CN dx (B2x k s f pw)) ->(∀b o,H b=some o ->b≠p ->H' b=some o) ->Q .non H'
theorem G1t:B8 Q34 Q34 (A5 B4r):=scK
theorem D9m{f CN:Addr}(F:Fun K "__init__" "Number.__init__" B4r f fd)(N:Num K mg CN):C6 P w K mg base 1 f fd Q34 (B5m CN):=by
 refine F.ok2 G1t (fun vs H Q E h=>?_) (fun X cdv A outer s H vs Q E hX hr hx h=>?_)
 . obtain⟨p,dx,a,b,c,d,rfl,_⟩:=h
   rfl
 subst hX
 obtain⟨p,dx,a,b,c,d,rfl,hp,k⟩:=h
 refine⟨_,A4 (A0u (pv 0) (pv 1) rfl) (A4 (A0u (pv 0) (pv 2) rfl) (A4 (A0u (pv 0) (pv 3) rfl) (A7 (A0u (pv 0) (pv 4) rfl)))),?_⟩
 have l:∀(fs:List (Str×V)) (f:Str) (v:V) (n:Nat),fs.length<=n ->(Y7 f v fs).length<=n+1:=fun fs f v n h=>Nat.le_trans (A1t f v fs) (Nat.succ_le_succ h)
 refine⟨_,rfl,_,rfl,p,CN,dx,[],rfl,hp,N.cl,N.n1,(by show 0<1000;decide),?_⟩
 refine⟨_,rfl,_,rfl,p,CN,dx,_,rfl,A6,N.cl,N.n2,Nat.lt_of_le_of_lt (l _ _ _ 0 (Nat.le_refl _)) (by decide),?_⟩
 refine⟨_,rfl,_,rfl,p,CN,dx,_,rfl,A6,N.cl,N.n3,Nat.lt_of_le_of_lt (l _ _ _ 1 (l _ _ _ 0 (Nat.le_refl _))) (by decide),?_⟩
 refine⟨_,rfl,_,rfl,p,CN,dx,_,rfl,A6,N.cl,N.n4,Nat.lt_of_le_of_lt (l _ _ _ 2 (l _ _ _ 1 (l _ _ _ 0 (Nat.le_refl _)))) (by decide),?_⟩
 refine k _ A6 fun b o e hb=>?_
 rw[C9 hb,C9 hb,C9 hb,C9 hb]
 exact e
structure A9h(P:Program)(w:World)(K:Frag)(mg:Str ->Option Value)(base:Heap)(CN fI:Addr)(fdI:FuncData):Prop where
 m:Mk K CN fI
 g:C6 P w K mg base 1 fI fdI Q34 (B5m CN)
 b:V9 K fdI Q34 []
theorem made{CN:Addr}{H:Hp}{Q:VK}{k s f p:V}(h:∀n H',H n=none ->B5 H H' ->A2k CN H' n k s f p ->Q (.ref n) H'):
   ∀x dx,H x=none ->H dx=none ->dx≠x ->B5m CN (.ref x::([k,s,f,p]++ [])) (upd (upd H dx (.own x)) x (.ins CN dx [])) (fun v H2=>v= .non/\Q (.ref x) H2) E0:=by
 intro x dx nx nd ne
 refine⟨x,dx,k,s,f,p,rfl,A6,fun H' e kp=>⟨rfl,h x H' nx (fun b o z=>?_) ⟨dx,e⟩⟩⟩
 refine kp b o ?_ (D8 z nx)
 rw[C9 (D8 z nx),C9 (D8 z nd)]
 exact z
noncomputable def B2d (K:Frag) (CN:Addr) (H:Hp) (v:V):Prop:=∃t,TyE K H v t/\kitOne K t (.ref CN)=some false
noncomputable def C2e (K:Frag) (CN CB:Addr):Sp:=fun vs H Q E=>∃v,vs=[v]/\((∃n k s f p,v= .ref n/\A2k CN H n k s f p/\Q v H)\/(B2d K CN H v/\E (.ref CB) none H))
theorem D9h:B8 ["thing"] ["thing"] (A5 B1h):=scK
theorem B8u{f CN CB:Addr}(D:Def K mg "need_number" ["thing"] B1h f fd)(O:Own mg)(T:Kit K)(B:Err K mg "BadNumber" CB)(N:Num K mg CN):C6 P w K mg base 1 f fd ["thing"] (C2e K CN CB):=by
 refine D.F.ok2 D9h (fun vs H Q E h=>?_) (fun X cdv A outer s H vs Q E hX hr hx h=>?_)
 . obtain⟨v,rfl,_⟩:=h
   rfl
 subst hX
 obtain⟨v,rfl,h⟩:=h
 refine⟨_,(A4 (U0 (A1a (Z5 (A9j O.isi (pv 0) (A4a N.g)))) (A7 (A0y (by rfl) B.g B.q PySem.F.excBase_ValueError hx (A0 C7 A3))) D7) (A7 (B7 (pv 0)))),?_⟩
 rcases h with⟨n,a,b,c,d,rfl,hn,k⟩|⟨⟨t,ty,k1⟩,k⟩
 . exact⟨_,rfl,_,_,_,_,true,rfl,rfl,N.ty hn,N.self,_,rfl,Y1 ⟨_,rfl,k⟩⟩
 exact⟨_,rfl,_,_,_,t,false,rfl,rfl,ty,k1,_,rfl,Z3 ⟨Nat.le_of_lt (A0r (by show 1<=1000;decide)),k⟩⟩
noncomputable def C9n (K:Frag) (CN CB:Addr):Sp:=fun vs H Q E=>∃v,vs=[v]/\((∃n k s f p,v= .ref n/\A2k CN H n k s f p/\∀t,H t=none ->Q (.ref t) (upd H t (.tup [k,s,f,p])))\/(B2d K CN H v/\E (.ref CB) none H))
theorem G2r:B8 ["number"] ["number"] (A5 C2f):=scK
theorem D9k{f f1 CN CB:Addr}(D:Def K mg "told" ["number"] C2f f fd)(dA:Def K mg "need_number" ["thing"] B1h f1 fd1)(O:Own mg)(T:Kit K)(B:Err K mg "BadNumber" CB)(N:Num K mg CN):
   C6 P w K mg base 2 f fd ["number"] (C9n K CN CB):=by
 have G_need_number:=B8u (P:=P) (w:=w) (base:=base) dA O T B N
 refine D.F.ok2 G2r (fun vs H Q E h=>?_) (fun X cdv A outer s H vs Q E hX hr hx h=>?_)
 . obtain⟨v,rfl,_⟩:=h
   rfl
 subst hX
 obtain⟨v,rfl,h⟩:=h
 refine⟨_,(A4 (Y6 (G5 dA G_need_number hr hx (A0 (pv 0) A3))) (A7 (B7 (V7 (A0 (U6 (pv 0) rfl) (A0 (U6 (pv 0) rfl) (A0 (U6 (pv 0) rfl) (A0 (U6 (pv 0) rfl) A3)))))))),?_⟩
 rcases h with⟨n,a,b,c,d,rfl,hn,k⟩|⟨bad,k⟩
 . refine⟨_,rfl,_,rfl,.inl ⟨n,a,b,c,d,rfl,hn,?_⟩⟩
   obtain⟨dx,e⟩:=hn
   exact⟨_,rfl,n,CN,dx,_,_,rfl,e,N.cl,N.n1,num1 _ _ _ _,_,rfl,n,CN,dx,_,_,rfl,e,N.cl,N.n2,G6t _ _ _ _,_,rfl,n,CN,dx,_,_,rfl,e,N.cl,N.n3,D0d _ _ _ _,_,rfl,n,CN,dx,_,_,rfl,e,N.cl,N.n4,num4 _ _ _ _,
     Nat.le_of_lt (A0r (by show 4<=1000;decide)),k⟩
 exact⟨_,rfl,_,rfl,.inr ⟨bad,k⟩⟩
noncomputable abbrev B2r:Stmt:=(top 18)
noncomputable abbrev B9p:Stmt:=(top 19)
noncomputable abbrev A3a:Stmt:=(top 20)
noncomputable def B5t (K:Frag) (CN CB:Addr):Sp:=fun vs H Q E=>∃x y z,vs=[x,y,z]/\
 ((A2s 0 1 x/\A2s 0 (10^60-1) y/\A2s (-200) 200 z/\∀n H',H n=none ->B5 H H' ->A2k CN H' n (.str "plain") x y z ->Q (.ref n) H')\/
  ((A4e K H 0 1 x\/(A2s 0 1 x/\(A4e K H 0 (10^60-1) y\/(A2s 0 (10^60-1) y/\A4e K H (-200) 200 z))))/\E (.ref CB) none H))
theorem D9e:B8 Q10 Q10 (A5 B2r):=scK
theorem b01:A6z 0 1:=by unfold A6z;decide+kernel
theorem b60:A6z 0 (10^60-1):=by unfold A6z;decide+kernel
theorem G7h:A6z (-200) 200:=by unfold A6z;decide+kernel
theorem D0p{f f1 f2 fI CN CB:Addr}{fd fd1 fd2 fdI:FuncData}(D:Def K mg "plain" Q10 B2r f fd)(dA:Def K mg "need_between" Q4 A4j f1 fd1)(D2:Def K mg "is_between" Q4 B8m f2 fd2)
   (O:Own mg) (T:Kit K) (B:Err K mg "BadNumber" CB) (N:Num K mg CN) (M:A9h P w K mg base CN fI fdI):C6 P w K mg base 3 f fd Q10 (B5t K CN CB):=by
 have G_need_between:=B1w (P:=P) (w:=w) (base:=base) dA D2 O T B
 refine D.F.ok2 D9e (fun vs H Q E h=>?_) (fun X cdv A outer s H vs Q E hX hr hx h=>?_)
 . obtain⟨x,y,z,rfl,_⟩:=h
   rfl
 subst hX
 obtain⟨x,y,z,rfl,h⟩:=h
 refine⟨_,(A4 (Y6 (G5 dA G_need_between hr hx (A0 (pv 0) (A0 A2 (A0 A2 A3))))) (A4 (Y6 (G5 dA G_need_between hr hx (A0 (pv 1) (A0 A2 (A0 (A9 V3 (A9 B6d A2 A2) A2) A3))))) (A4 (Y6 (G5 dA G_need_between hr hx (A0 (pv 2) (A0 (A1q A0m A2) (A0 A2 A3))))) (A7 (B7 (A2v M.m M.g hr N.g M.b .nil hx (A0 C7 (A0 (pv 0) (A0 (pv 1) (A0 (pv 2) A3)))))))))),?_⟩
 have pw:D6z 10 60:=⟨by decide,by decide,by decide⟩
 rcases h with⟨⟨i1,rfl,l1,u1⟩,⟨i2,rfl,l2,u2⟩,⟨i3,rfl,l3,u3⟩,k⟩|⟨bad,k⟩
 . refine⟨_,rfl,_,_,_,rfl,b01,.inl ⟨⟨i1,rfl,l1,u1⟩,?_⟩⟩
   refine⟨_,rfl,_,_,rfl,rfl,pw,_,_,rfl,rfl,_,_,_,rfl,b60,.inl ⟨⟨i2,rfl,l2,u2⟩,?_⟩⟩
   refine⟨_,rfl,_,rfl,_,_,_,rfl,G7h,.inl ⟨⟨i3,rfl,l3,u3⟩,?_⟩⟩
   exact⟨_,rfl,_,rfl,_,rfl,made k⟩
 rcases bad with bad|⟨⟨i1,rfl,l1,u1⟩,bad|⟨⟨i2,rfl,l2,u2⟩,bad⟩⟩
 . exact⟨_,rfl,_,_,_,rfl,b01,.inr ⟨bad,k⟩⟩
 . refine⟨_,rfl,_,_,_,rfl,b01,.inl ⟨⟨i1,rfl,l1,u1⟩,?_⟩⟩
   exact⟨_,rfl,_,_,rfl,rfl,pw,_,_,rfl,rfl,_,_,_,rfl,b60,.inr ⟨bad,k⟩⟩
 refine⟨_,rfl,_,_,_,rfl,b01,.inl ⟨⟨i1,rfl,l1,u1⟩,?_⟩⟩
 refine⟨_,rfl,_,_,rfl,rfl,pw,_,_,rfl,rfl,_,_,_,rfl,b60,.inl ⟨⟨i2,rfl,l2,u2⟩,?_⟩⟩
 exact⟨_,rfl,_,rfl,_,_,_,rfl,G7h,.inr ⟨bad,k⟩⟩
noncomputable def B7j (K:Frag) (CN CB:Addr):Sp:=fun vs H Q E=>∃x,vs=[x]/\((A2s 0 1 x/\∀n H',H n=none ->B5 H H' ->A2k CN H' n (.str "end") x (.int 0) (.int 0) ->Q (.ref n) H')\/(A4e K H 0 1 x/\E (.ref CB) none H))
theorem G7k:B8 ["sign"] ["sign"] (A5 B9p):=scK
theorem G2f{f f1 f2 fI CN CB:Addr}{fd fd1 fd2 fdI:FuncData}(D:Def K mg "end" ["sign"] B9p f fd)(dA:Def K mg "need_between" Q4 A4j f1 fd1)(D2:Def K mg "is_between" Q4 B8m f2 fd2)
   (O:Own mg) (T:Kit K) (B:Err K mg "BadNumber" CB) (N:Num K mg CN) (M:A9h P w K mg base CN fI fdI):C6 P w K mg base 3 f fd ["sign"] (B7j K CN CB):=by
 have G_need_between:=B1w (P:=P) (w:=w) (base:=base) dA D2 O T B
 refine D.F.ok2 G7k (fun vs H Q E h=>?_) (fun X cdv A outer s H vs Q E hX hr hx h=>?_)
 . obtain⟨x,rfl,_⟩:=h
   rfl
 subst hX
 obtain⟨x,rfl,h⟩:=h
 refine⟨_,(A4 (Y6 (G5 dA G_need_between hr hx (A0 (pv 0) (A0 A2 (A0 A2 A3))))) (A7 (B7 (A2v M.m M.g hr N.g M.b .nil hx (A0 C7 (A0 (pv 0) (A0 A2 (A0 A2 A3)))))))),?_⟩
 rcases h with⟨⟨i1,rfl,l1,u1⟩,k⟩|⟨bad,k⟩
 . refine⟨_,rfl,_,_,_,rfl,b01,.inl ⟨⟨i1,rfl,l1,u1⟩,?_⟩⟩
   exact⟨_,rfl,made k⟩
 exact⟨_,rfl,_,_,_,rfl,b01,.inr ⟨bad,k⟩⟩
noncomputable def A5s (CN:Addr):Sp:=fun vs H Q _=>vs=[]/\∀n H',H n=none ->B5 H H' ->A2k CN H' n (.str "none") (.int 0) (.int 0) (.int 0) ->Q (.ref n) H'
theorem C6g:B8 [] [] (A5 A3a):=scK
theorem C1e{f fI CN:Addr}{fd fdI:FuncData}(D:Def K mg "nothing" [] A3a f fd)(N:Num K mg CN)(M:A9h P w K mg base CN fI fdI):C6 P w K mg base 3 f fd [] (A5s CN):=by
 refine D.F.ok2 C6g (fun vs H Q E h=>?_) (fun X cdv A outer s H vs Q E hX hr hx h=>?_)
 . obtain⟨rfl,_⟩:=h
   rfl
 subst hX
 obtain⟨rfl,k⟩:=h
 refine⟨_,(A7 (B7 (A2v M.m M.g hr N.g M.b .nil hx (A0 C7 (A0 A2 (A0 A2 (A0 A2 A3))))))),?_⟩
 exact made k
noncomputable abbrev C2a:Stmt:=(top 22)
noncomputable def D0y (CN:Addr):Sp:=fun vs H Q _=>∃n k s f p,vs=[.ref n]/\A2k CN H n k s (.int f) (.int p)/\f.natAbs<2^300/\Q (.int (p+((Str.ofString (toString f)).length:Nat)-1)) H
theorem G1a:B8 ["number"] ["number"] (A5 C2a):=scK
theorem D7t{f CN:Addr}(D:Def K mg "lead_of" ["number"] C2a f fd)(O:Own mg)(N:Num K mg CN):C6 P w K mg base 1 f fd ["number"] (D0y CN):=by
 refine D.F.ok2 G1a (fun vs H Q E h=>?_) (fun X cdv A outer s H vs Q E hX hr hx h=>?_)
 . obtain⟨n,a,b,c,d,rfl,_⟩:=h
   rfl
 subst hX
 obtain⟨n,a,b,fg,pw,rfl,⟨dx,e⟩,hf,k⟩:=h
 refine⟨_,(A7 (B7 (A9 V3 (A9 U7 (U6 (pv 0) rfl) (U8 A1x (by rfl) O.len_ PySem.boot_len (A0 (V5 A6n (by rfl) O.str_ boot_str (A0 (U6 (pv 0) rfl) A3)) A3))) A2))),?_⟩
 have lg:fg.natAbs.log2<1920:=Nat.lt_trans (A3j hf (by decide)) (by decide)
 exact⟨_,rfl,n,CN,dx,_,_,rfl,e,N.cl,N.n4,num4 _ _ _ _,_,rfl,n,CN,dx,_,_,rfl,e,N.cl,N.n3,D0d _ _ _ _,_,rfl,lg,_,rfl,int_text_fits lg,_,_,rfl,rfl,_,_,rfl,rfl,k⟩
noncomputable abbrev A2c:Stmt:=(top 2)
noncomputable abbrev A6f:Stmt:=(top 3)
theorem A9q{x k:Nat}(h:x<2^k)(hk:k<=1048576):Builtin.Int.intBits (x:Int)<=2^20:=by
 unfold Builtin.Int.intBits
 split
 . exact Nat.zero_le _
 have z:(x:Int).natAbs≠0:=by
   intro z
   rename_i hz
   exact hz (by simpa using z)
 have:(x:Int).natAbs.log2<k:=(Nat.log2_lt z).mpr h
 have e:(2:Nat)^20=1048576:=by decide
 omega
theorem B0z{b s j n:Nat}(hb:b<2^s)(hj:j<=n)(hn:n*s<1048576):Builtin.Int.intBits ((b^j:Nat):Int)<=2^20:=by
 refine A9q (k:=n*s+1) ?_ hn
 have a:b^j<=(2^s)^j:=Nat.pow_le_pow_left (Nat.le_of_lt hb) j
 have c:(2^s)^j<=2^(n*s):=by
   rw[<-Nat.pow_mul,Nat.mul_comm n s]
   exact Nat.pow_le_pow_right (by decide) (Nat.mul_le_mul_left s hj)
 have d:2^(n*s)<2^(n*s+1):=Nat.pow_lt_pow_right (by decide) (by omega)
 exact Nat.lt_of_le_of_lt a (Nat.lt_of_le_of_lt c d)
theorem A5j{b s i j n:Nat}(hb:b<2^s)(hi:i<=n)(hj:j<=n)(hn:n*s<1048576):IntMulOk ((b^i:Nat):Int) ((b^j:Nat):Int):=IntMulOk.of_bits (B0z hb hi hn) (B0z hb hj hn)
noncomputable def A5a:Sp:=fun vs H Q _=>∃b n s:Nat,vs=[.int (b:Int),.int (n:Int)]/\b<2^s/\n*s<1048576/\Q (.int ((b^n:Nat):Int)) H
theorem scProductOf:B8 ["whole","count","product"] Q14 (A5 A2c):=scK
theorem A6p(D:Def K mg "product_of" Q14 A2c f fd):C6 P w K mg base 1 f fd Q14 A5a:=by
 refine D.F.ok2 scProductOf (fun vs H Q E h=>?_) (fun X cdv A outer s H vs Q E hX hr hx h=>?_)
 . obtain⟨b,n,z,rfl,_⟩:=h
   rfl
 subst hX
 obtain⟨b,n,z,rfl,hb,hn,k⟩:=h
 refine⟨_,(A4 (D5 (i:=2) scProductOf.nd rfl (Or.inl rfl) A2) (A4 (A7f PassesOwn.leaving (C8 A2f (pv 1) A2 (B9 _)) (A4 (U0 (C8 G4 (A9 U3 (pv 1) A2) A2 (B9 _)) (A7 (D5 (i:=2) scProductOf.nd rfl (Or.inl rfl) (A9 U2 (pv 2) (pv 0)))) D7) (A4 (D5 (i:=0) scProductOf.nd rfl (Or.inl rfl) (A9 U2 (pv 0) (pv 0))) (A7 (D5 (i:=1) scProductOf.nd rfl (Or.inl rfl) (A9 G9 (pv 1) A2)))))) (A7 (B7 (pv 2))))),?_⟩
 have d2:(0:Int)<2/\(2:Int).natAbs.log2<9000:=⟨by decide,by decide+kernel⟩
 refine A6y (fun σ H2=>H2=H/\∃i m c:Nat,m+i*c=n/\σ=[si ((b^i:Nat):Int),si (c:Int),si ((b^m:Nat):Int)]) (fun σ _=>match σ with| [_,some (.int c),_]=>c.toNat|_=>0) ?_ ?_ ?_
 . exact⟨rfl,1,0,n,by omega,by rw[Nat.pow_one];rfl⟩
 . rintro σ H2 ⟨rfl,i,m,c,hc,rfl⟩
   refine⟨_,rfl,_,_,rfl,rfl,_,rfl,U5 (fun h0=>?_) (fun h0=>?_)⟩
   . have c1:1<=c:=by
       have:(0:Int)<c:=h0
       omega
     have hi:i<=n:=Nat.le_trans (Nat.le_mul_of_pos_right i c1) (by omega)
     have hm:m<=n:=by omega
     have sq:((b^i:Nat):Int)*((b^i:Nat):Int)=((b^(2*i):Nat):Int):=by rw[Nat.two_mul,Nat.pow_add];rfl
     have lt:((c:Int)/2).toNat<(c:Int).toNat:=by omega
     refine⟨_,rfl,_,_,rfl,rfl,d2.1,rfl,_,rfl,U5 (fun ho=>?_) (fun he=>?_)⟩
     . have ho:(c:Int) % 2=1:=by injection ho
       have mu:((b^m:Nat):Int)*((b^i:Nat):Int)=((b^(m+i):Nat):Int):=by rw[Nat.pow_add];rfl
       refine⟨_,rfl,_,rfl,_,_,rfl,rfl,A5j hb hm hi hn,_,rfl,_,rfl,_,_,rfl,rfl,A5j hb hi hi hn,_,rfl,_,_,rfl,rfl,d2,⟨rfl,2*i,m+i,c/2,?_,?_⟩,lt⟩
       . have e:i*c=i*(2*(c/2)+1):=congrArg (i* ·) (by omega)
         rw[Nat.mul_add,Nat.mul_one, <-Nat.mul_assoc,Nat.mul_comm i 2] at e
         omega
       . show [si (((b^i:Nat):Int)*((b^i:Nat):Int)),si ((c:Int)/2),si (((b^m:Nat):Int)*((b^i:Nat):Int))]=_
         rw[sq,mu]
         rfl
     . have he:¬(c:Int) % 2=1:=fun z=>he (congrArg V.int z)
       refine⟨_,rfl,_,rfl,_,_,rfl,rfl,A5j hb hi hi hn,_,rfl,_,_,rfl,rfl,d2,⟨rfl,2*i,m,c/2,?_,?_⟩,lt⟩
       . have e:i*c=i*(2*(c/2)):=congrArg (i* ·) (by omega)
         rw[<-Nat.mul_assoc,Nat.mul_comm i 2] at e
         omega
       . show [si (((b^i:Nat):Int)*((b^i:Nat):Int)),si ((c:Int)/2),si ((b^m:Nat):Int)]=_
         rw[sq]
         rfl
   . have c0:c=0:=by
       have:¬(0:Int)<c:=h0
       omega
     subst c0
     have hm:m=n:=by omega
     subst hm
     exact⟨_,rfl,k⟩
 rintro σ H2 Q1 Q2 hQ ⟨v,e,i,j,e1,e2,b,e3,q⟩
 exact⟨v,e,i,j,e1,e2,b,e3,hQ _ _ q⟩
noncomputable def A6w:Sp:=fun vs H Q _=>∃n:Nat,vs=[.int (n:Int)]/\n<=4000/\Q (.int ((10^n:Nat):Int)) H
theorem D6t:B8 ["count"] ["count"] (A5 A6f):=scK
theorem C8w(D:Def K mg "ten_to" ["count"] A6f f fd)(dA:Def K mg "product_of" Q14 A2c f1 fd1)(dB:C6 P w K mg base 1 f1 fd1 Q14 A5a):C6 P w K mg base 2 f fd ["count"] A6w:=by
 refine D.F.ok2 D6t (fun vs H Q E h=>?_) (fun X cdv A outer s H vs Q E hX hr hx h=>?_)
 . obtain⟨n,rfl,_⟩:=h
   rfl
 subst hX
 obtain⟨n,rfl,hn,k⟩:=h
 refine⟨_,(A7 (B7 (G5 dA dB hr hx (A0 A2 (A0 (pv 0) A3))))),?_⟩
 exact⟨_,rfl,10,n,4,rfl,by decide,by omega,k⟩
inductive Kd where
 |plain|end_|none
noncomputable def Kd.str:Kd ->Str
 | .plain=>"plain"
 | .end_=>"end"
 | .none=>"none"
theorem Kd.str_inj{a b:Kd}(h:a.str=b.str):a=b:=by
 cases a<;>cases b<;>first|rfl|exact absurd h (by decide+kernel)
structure Nm where
 k:Kd
 s:Int
 f:Int
 p:Int
noncomputable def Nm.vs (x:Nm):List V:=[.str x.k.str,.int x.s,.int x.f,.int x.p]
structure Nm.Ok(x:Nm):Prop where
 s0:0<=x.s
 s1:x.s<=1
 f0:0<=x.f
 f1:x.f<=10^60-1
 p0: -200<=x.p
 p1:x.p<=200
noncomputable def Y8 (CN:Addr) (H:Hp) (n:Addr) (x:Nm):Prop:=A2k CN H n (.str x.k.str) (.int x.s) (.int x.f) (.int x.p)
theorem Y8.same{CN:Addr}{H H':Hp}{n:Addr}{x:Nm}(h:Y8 CN H n x)(e:B5 H H'):Y8 CN H' n x:=A2k.same h e
noncomputable def B0 (n:Int):Int:=((10^n.toNat:Nat):Int)
theorem Y3(n:Int):0<B0 n:=Int.natCast_pos.mpr (Nat.pow_pos (by decide))
theorem neS{a b:Kd}(h:¬V.str a.str=V.str b.str):a≠b:=fun q=>h (by rw[q])
theorem eqS{a b:Kd}(h:V.str a.str=V.str b.str):a=b:=Kd.str_inj (by injection h)
theorem B3v{d:Int}(h:d<=4000):Builtin.Int.intBits (B0 d)<=2^20:=B0z (b:=10) (s:=4) (n:=4000) (by decide) (by omega) (by decide)
noncomputable def A1g (left low:Int):Int:=(if decide (0<left)=true then 1 else 0)+(if decide (low<=2*left)=true then 1 else 0)+(if decide (low<2*left)=true then 1 else 0)
theorem G6f(s:Int):(if(0:Int)>s then 0 else s)=((s.toNat:Nat):Int):=by
 by_cases h:(0:Int)>s
 . rw[if_pos h];omega
 rw[if_neg h];omega
noncomputable def A0s (t b s:Int):Prop:=b*B0 (-s)<=t*B0 s/\t*B0 s<10*(b*B0 (-s))
theorem B1j{s r:Int}(h:s<=r):B0 r*B0 (-s)=B0 s*B0 (-r)*B0 (r-s):=by
 have ad:∀{a b c:Int},0<=a ->0<=b ->c=a+b ->B0 c=B0 a*B0 b:=fun ha hb e=>by
   subst e
   unfold B0
   rw[Int.toNat_add ha hb,Nat.pow_add]
   exact Int.natCast_mul _ _
 have z:∀{a:Int},a<=0 ->B0 a=1:=fun h=>by
   unfold B0
   rw[Int.toNat_of_nonpos h]
   rfl
 rcases Int.le_total 0 s with hs|hs
 . rw[z (a:= -s) (by omega),z (a:= -r) (by omega),Int.mul_one,Int.mul_one]
   exact ad hs (by omega) (by omega)
 rcases Int.le_total 0 r with hr|hr
 . rw[z hs,z (a:= -r) (by omega),Int.one_mul,Int.one_mul]
   exact(ad hr (by omega) (by omega)).symm
 rw[z hr,z hs,Int.one_mul,Int.one_mul]
 exact ad (by omega) (by omega) (by omega)
theorem D7w{d:Int}(h:1<=d):10<=B0 d:=by
 unfold B0
 have:10^1<=10^d.toNat:=Nat.pow_le_pow_right (by decide) (by omega)
 omega
theorem A5f{a b:Int}(h:a<=b):B0 a<=B0 b:=by
 unfold B0
 exact Int.ofNat_le.mpr (Nat.pow_le_pow_right (by decide) (by omega))
theorem C3c{t b s r:Int}(hb:0<b)(h1:A0s t b s)(h2:A0s t b r):r<=s:=by
 apply Classical.byContradiction
 intro h
 have hs:s<=r:=by omega
 have c:=B1j hs
 have g:=D7w (d:=r-s) (by omega)
 have p1:=Y3 (-s)
 have p2:=Y3 (-r)
 have l1:0<b*B0 (-s):=Int.mul_pos hb p1
 have l2:0<b*B0 (-r):=Int.mul_pos hb p2
 have e:t*B0 r*(b*B0 (-s))=t*B0 s*(b*B0 (-r))*B0 (r-s):=by
   calc t*B0 r*(b*B0 (-s))=t*b*(B0 r*B0 (-s)):=by ac_rfl
     _=t*b*(B0 s*B0 (-r)*B0 (r-s)):=by rw[c]
     _=t*B0 s*(b*B0 (-r))*B0 (r-s):=by ac_rfl
 have a1:t*B0 r*(b*B0 (-s))<10*(b*B0 (-r))*(b*B0 (-s)):=Int.mul_lt_mul_of_pos_right h2.2 l1
 have hp:0<t*B0 s:=Int.lt_of_lt_of_le l1 h1.1
 have a2:t*B0 s*(b*B0 (-r))*10<=t*B0 s*(b*B0 (-r))*B0 (r-s):=Int.mul_le_mul_of_nonneg_left g (Int.le_of_lt (Int.mul_pos hp l2))
 have a3:b*B0 (-s)*(b*B0 (-r))<=t*B0 s*(b*B0 (-r)):=Int.mul_le_mul_of_nonneg_right h1.1 (Int.le_of_lt l2)
 have e2:10*(b*B0 (-r))*(b*B0 (-s))=b*B0 (-s)*(b*B0 (-r))*10:=by ac_rfl
 have a4:b*B0 (-s)*(b*B0 (-r))*10<=t*B0 s*(b*B0 (-r))*10:=Int.mul_le_mul_of_nonneg_right a3 (by decide)
 rw[e] at a1
 rw[e2] at a1
 exact absurd (Int.lt_of_lt_of_le a1 (Int.le_trans a4 a2)) (Int.lt_irrefl _)
theorem C2t{t b s r:Int}(hb:0<b)(h1:A0s t b s)(h2:A0s t b r):s=r:=Int.le_antisymm (C3c hb h2 h1) (C3c hb h1 h2)
noncomputable def Sz (t:Int):Prop:=1<=t/\t<B0 1000
theorem B5c(n:Nat):10^n<=2^(4*n):=by
 rw[Nat.pow_mul]
 exact Nat.pow_le_pow_left (by decide) n
theorem B9e(n:Nat):10^(3*n)<=2^(10*n):=by
 rw[Nat.pow_mul,Nat.pow_mul]
 exact Nat.pow_le_pow_left (by decide) n
theorem Sz.nat{t:Int}(h:Sz t):∃n:Nat,t=(n:Int)/\1<=n/\n<10^1000:=by
 obtain⟨n,rfl⟩:=Int.eq_ofNat_of_zero_le (show 0<=t by have:=h.1;omega)
 exact⟨n,rfl,Int.ofNat_le.mp h.1,Int.ofNat_lt.mp h.2⟩
theorem B6q{t s:Int}(ht:Sz t)(h:s<=1500):∃n:Nat,t*B0 s=(n:Int)/\n<10^2502:=by
 obtain⟨n,rfl,_,hn⟩:=ht.nat
 refine⟨n*10^s.toNat,rfl,?_⟩
 have a:10^s.toNat<=10^1502:=Nat.pow_le_pow_right (by decide) (by omega)
 calc n*10^s.toNat<=n*10^1502:=Nat.mul_le_mul_left n a
   _<10^1000*10^1502:=Nat.mul_lt_mul_of_pos_right hn (Nat.pow_pos (by decide))
   _=10^2502:=by rw[<-Nat.pow_add]
theorem B8a{n:Nat}(h:n<10^2502):Builtin.Int.intBits (n:Int)<=2^20:=A9q (k:=4*2502) (Nat.lt_of_lt_of_le h (B5c 2502)) (by decide)
theorem D7y{t:Int}(h:Sz t):Builtin.Int.intBits t<=2^20:=by
 obtain⟨n,rfl,_,hn⟩:=h.nat
 exact A9q (k:=4*1000) (Nat.lt_of_lt_of_le hn (B5c 1000)) (by decide)
theorem B5g{t s:Int}(ht:Sz t)(h:s<=1500):IntMulOk t (B0 s):=IntMulOk.of_bits (D7y ht) (B3v (by omega))
theorem G1q{b s:Int}(hb:Sz b)(h:s<=1500):(b*B0 s).natAbs.log2<9000:=by
 obtain⟨n,e,hn⟩:=B6q hb h
 rw[e]
 have:n<2^8340:=Nat.lt_of_lt_of_le hn (B9e 834)
 exact Nat.lt_trans (A3j (i:=(n:Int)) (k:=8340) (by rw[Int.natAbs_natCast];exact this) (by decide)) (by decide)
noncomputable def whI (t b s:Int):Int:=t*B0 s/(b*B0 (-s))
noncomputable def ptI (t b s:Int):Int:=A1g (t*B0 s-whI t b s*(b*B0 (-s))) (b*B0 (-s))
theorem D8h{t b s:Int}(hb:0<b):0<=t*B0 s-whI t b s*(b*B0 (-s))/\t*B0 s-whI t b s*(b*B0 (-s))<b*B0 (-s):=by
 have l:=Int.mul_pos hb (Y3 (-s))
 have e:=Int.emod_add_mul_ediv (t*B0 s) (b*B0 (-s))
 have a:=Int.emod_nonneg (t*B0 s) (Int.ne_of_gt l)
 have c:=Int.emod_lt_of_pos (t*B0 s) l
 have e2:whI t b s*(b*B0 (-s))=b*B0 (-s)*(t*B0 s/(b*B0 (-s))):=Int.mul_comm _ _
 omega
theorem G6v{t b s:Int}(ht:Sz t)(hb:Sz b)(h1: -1500<=s)(h2:s<=1500):IntMulOk (whI t b s) (b*B0 (-s)):=by
 obtain⟨n,e,hn⟩:=B6q hb (s:= -s) (by omega)
 obtain⟨k,e',hk⟩:=B6q ht h2
 unfold whI
 rw[e,e']
 exact IntMulOk.of_bits (B8a (Nat.lt_of_le_of_lt (Nat.div_le_self k n) hk)) (B8a hn)
noncomputable abbrev A3g:Stmt:=(J1 (top 6) 0)
structure C1t(K:Frag)(mg:Str ->Option Value)(CR CE:Addr):Prop where
 g:mg "Ratio"=some (.ref CR)
 ge:mg "Exact"=some (.ref CE)
 cl:Cls K CR
 n_top:A0b K CR "top"
 n_bottom:A0b K CR "bottom"
 n_power:A0b K CR "power"
 ca:findIn K (.ref CR) "__class__"=some (some (.builtin "object.__class__"))
 sn:specialIn K (.builtin "object.__class__") "__get__"=some (some (.builtin "getset_descriptor.__get__"))
 tk:takesIn K (.builtin "object.__class__")=some true
 ob:mroIn K CR (.type "object")=some true
 up:kitOne K (.ref CR) (.ref CE)=some true
noncomputable def B5q (t b n:V):List (Str×V):=Y7 "power" n (Y7 "bottom" b (Y7 "top" t []))
theorem B1b(t b n:V)(x:Str):(B5q t b n).lookup x=if x="power" then some n else if x="bottom" then some b else if x="top" then some t else none:=by
 unfold B5q
 rw[G8,G8,G8]
 rfl
theorem C2s(t b n:V):(B5q t b n).lookup ("top":Str)=some t:=by rw[B1b,if_neg (by decide+kernel),if_neg (by decide+kernel),if_pos rfl]
theorem B0v(t b n:V):(B5q t b n).lookup ("bottom":Str)=some b:=by rw[B1b,if_neg (by decide+kernel),if_pos rfl]
theorem B4j(t b n:V):(B5q t b n).lookup ("power":Str)=some n:=by rw[B1b,if_pos rfl]
theorem A6q(t b n:V):(B5q t b n).lookup ("first":Str)=none:=by rw[B1b,if_neg (by decide+kernel),if_neg (by decide+kernel),if_neg (by decide+kernel)]
theorem B4e(t b n:V):(B5q t b n).lookup ("at":Str)=none:=by rw[B1b,if_neg (by decide+kernel),if_neg (by decide+kernel),if_neg (by decide+kernel)]
noncomputable def A7r (CR:Addr) (H:Hp) (x:Addr) (t b n:Int):Prop:=∃dx,H x=some (.ins CR dx (B5q (.int t) (.int b) (.int n)))
theorem A7r.same{CR:Addr}{H H':Hp}{x:Addr}{t b n:Int}(h:A7r CR H x t b n)(s:B5 H H'):A7r CR H' x t b n:=by
 obtain⟨dx,e⟩:=h
 exact⟨dx,s _ _ e⟩
noncomputable def B5a (CR:Addr):Sp:=fun vs H Q _=>∃(p dx:Addr) (t b n:V),vs=[.ref p,t,b,n]/\H p=some (.ins CR dx [])/\∀H',H' p=some (.ins CR dx (B5q t b n)) ->Exc p H H' ->Q .non H'
theorem D6n:B8 Q15 Q15 (A5 A3g):=scK
theorem D0k{f CR CE:Addr}{dV:Value}(F:D1k K "__init__" "Ratio.__init__" A3g dV f fd)(R:C1t K mg CR CE):C6 P w K mg base 1 f fd Q15 (B5a CR):=by
 refine F.ok2 D6n (fun vs H Q E h=>?_) (fun X cdv A outer s H vs Q E hX hr hx h=>?_)
 . obtain⟨p,dx,a,b,c,rfl,_⟩:=h
   rfl
 subst hX
 obtain⟨p,dx,a,b,c,rfl,hp,k⟩:=h
 refine⟨_,(A4 (A0u (pv 0) (pv 1) rfl) (A4 (A0u (pv 0) (pv 2) rfl) (A7 (A0u (pv 0) (pv 3) rfl)))),?_⟩
 have l:∀(fs:List (Str×V)) (f:Str) (v:V) (n:Nat),fs.length<=n ->(Y7 f v fs).length<=n+1:=fun fs f v n h=>Nat.le_trans (A1t f v fs) (Nat.succ_le_succ h)
 refine⟨_,rfl,_,rfl,p,CR,dx,[],rfl,hp,R.cl,R.n_top,(by show 0<1000;decide),?_⟩
 refine⟨_,rfl,_,rfl,p,CR,dx,_,rfl,A6,R.cl,R.n_bottom,Nat.lt_of_le_of_lt (l _ _ _ 0 (Nat.le_refl _)) (by decide),?_⟩
 refine⟨_,rfl,_,rfl,p,CR,dx,_,rfl,A6,R.cl,R.n_power,Nat.lt_of_le_of_lt (l _ _ _ 1 (l _ _ _ 0 (Nat.le_refl _))) (by decide),?_⟩
 refine k _ A6 fun b o e hb=>?_
 rw[C9 hb,C9 hb,C9 hb]
 exact e
noncomputable def B7q (CR:Addr):Sp:=fun vs H Q _=>∃x t b n,vs=[.ref x]/\A7r CR H x t b n/\Sz t/\Sz b/\∀f H',B5 H H' ->A0s t b (n-f) ->Q (.int f) H'
noncomputable def C8h (CR:Addr):Sp:=fun vs H Q _=>∃x t b n p,vs=[.ref x,.int p]/\A7r CR H x t b n/\Sz t/\Sz b/\ -1500<=n-p/\n-p<=1500/\
 ∀q H',B5 H H' ->H q=none ->H' q=some (.tup [.int (whI t b (n-p)),.int (ptI t b (n-p))]) ->Q (.ref q) H'
structure G0s(P:Program)(w:World)(K:Frag)(mg:Str ->Option Value)(base:Heap)(CR fI:Addr)(fdI:FuncData)(d0:Value)(gP:List Value ->List Value ->List Value)(vP:List V ->List V ->List V):Prop where
 m:Mk K CR fI
 g:C6 P w K mg base 1 fI fdI Q15 (B5a CR)
 b3:V9 K fdI Q15 []
 b2:V9 K fdI Q15 [d0]
 r0:U9 (.int 0) d0
 kP:G3q K fdI Q15 ["power"] gP vP
 eP:∀x a b c,vP [x,a,b] [c]=[x,a,b,c]
structure G3r(P:Program)(w:World)(K:Frag)(mg:Str ->Option Value)(base:Heap)(CR f1 f2:Addr)(fd1 fd2:FuncData):Prop where
 m1:A7s K CR "first" f1
 g1:C6 P w K mg base 4 f1 fd1 ["self"] (B7q CR)
 b1:V9 K fd1 ["self"] []
 m2:A7s K CR "at" f2
 g2:C6 P w K mg base 3 f2 fd2 Q19 (C8h CR)
 b2:V9 K fd2 Q19 []
theorem G0e{CR x dx:Addr}{H:Hp}{Q:VK}{E:XK}{t b n:Int}(n1:H x=none)(n2:H dx=none)(ne:dx≠x)(k:∀H',B5 H H' ->A7r CR H' x t b n ->Q .non H'):
   B5a CR [.ref x,.int t,.int b,.int n] (upd (upd H dx (.own x)) x (.ins CR dx [])) Q E:=
 ⟨x,dx,_,_,_,rfl,A6,fun H' e s=>k H' (fun c o z=>s c o (by rw[C9 (D8 z n1),C9 (D8 z n2)];exact z) (D8 z n1)) ⟨dx,e⟩⟩
noncomputable abbrev A9s:Stmt:=(top 7)
noncomputable def B7b:Sp:=fun vs H Q _=>∃l m:Int,vs=[.int (2*l),.int m]/\0<=l/\0<m/\Q (.int (A1g l m)) H
theorem C7w:B8 Q20 Q20 (A5 A9s):=scK
theorem D7g{m:Int}(hm:0<m):A1g 0 m=0:=by
 unfold A1g
 rw[decide_eq_false (by omega:¬(0:Int)<0),decide_eq_false (by omega:¬m<=2*0),decide_eq_false (by omega:¬m<2*0)]
 rfl
theorem D7d{l m:Int}(hl:0<l)(h:2*l<m):A1g l m=1:=by
 unfold A1g
 rw[decide_eq_true hl,decide_eq_false (by omega:¬m<=2*l),decide_eq_false (by omega:¬m<2*l)]
 rfl
theorem D7a{l m:Int}(hl:0<l)(h:2*l=m):A1g l m=2:=by
 unfold A1g
 rw[decide_eq_true hl,decide_eq_true (by omega:m<=2*l),decide_eq_false (by omega:¬m<2*l)]
 rfl
theorem D8r{l m:Int}(hl:0<l)(h:m<2*l):A1g l m=3:=by
 unfold A1g
 rw[decide_eq_true hl,decide_eq_true (by omega:m<=2*l),decide_eq_true h]
 rfl
theorem C5t(D:Def K mg "part_of" Q20 A9s f fd):C6 P w K mg base 1 f fd Q20 B7b:=by
 refine D.F.ok2 C7w (fun vs H Q E h=>?_) (fun X cdv A outer s H vs Q E hX hr hx h=>?_)
 . obtain⟨l,m,rfl,_⟩:=h
   rfl
 subst hX
 obtain⟨l,m,rfl,hl,hm,k⟩:=h
 refine⟨_,(A4 (U0 (C8 G4 (pv 0) A2 (B9 _)) (A7 (B7 A2)) D7) (A4 (U0 (C8 A3y (pv 0) (pv 1) (B9 _)) (A7 (B7 A2)) D7) (A7 (B7 (A0h (C8 G4 (pv 0) (pv 1) (B9 _)) A2 A2))))),?_⟩
 refine⟨_,rfl,rfl,_,rfl,U5 (fun h0=>?_) (fun h0=>?_)⟩
 . have e:l=0:=by
     have:2*l=0:=by injection h0
     omega
   subst e
   rw[D7g hm] at k
   exact k
 have hl':0<l:=by
   apply Classical.byContradiction
   intro z
   exact h0 (by rw[show l=0 by omega];rfl)
 refine⟨_,rfl,_,rfl,_,_,rfl,rfl,_,rfl,U5 (fun h1=>?_) (fun h1=>?_)⟩
 . rw[D7d hl' h1] at k
   exact k
 refine⟨_,rfl,_,rfl,rfl,_,rfl,U5 (fun h2=>?_) (fun h2=>?_)⟩
 . rw[D7a hl' (by injection h2)] at k
   exact k
 rw[D8r hl' (by
   have:2*l≠m:=fun z=>h2 (by rw[z])
   omega)] at k
 exact k
noncomputable abbrev B6r:Stmt:=(top 8)
theorem B9n(k:Nat):10^(k*301029995/10^9)<=2^k:=by
 have hm:k*301029995/10^9*28738<=k*8651:=by
   have:k*301029995/10^9*10^9<=k*301029995:=Nat.div_mul_le_self _ _
   omega
 generalize k*301029995/10^9=m at hm
 have c:(10:Nat)^8651<=2^28738:=by decide+kernel
 have a:(10^m)^8651<=(2^k)^8651:=by
   calc (10^m)^8651=(10^8651)^m:=by rw[<-Nat.pow_mul, <-Nat.pow_mul,Nat.mul_comm]
     _<=(2^28738)^m:=Nat.pow_le_pow_left c m
     _=2^(m*28738):=by rw[<-Nat.pow_mul,Nat.mul_comm]
     _<=2^(k*8651):=Nat.pow_le_pow_right (by decide) hm
     _=(2^k)^8651:=by rw[<-Nat.pow_mul]
 exact(Nat.pow_le_pow_iff_left (by decide)).mp a
noncomputable def C4a:Sp:=fun vs H Q _=>∃n:Nat,vs=[.int (n:Int)]/\1<=n/\n<10^3000/\∀L:Nat,10^L<=n ->n<10^(L+1) ->Q (.int (L:Int)) H
theorem scWLead:B8 ["whole","lead","beyond"] ["whole"] (A5 B6r):=scK
theorem C7j(D:Def K mg "whole_lead" ["whole"] B6r f fd)(dA:Def K mg "ten_to" ["count"] A6f f1 fd1)(dB:C6 P w K mg base 2 f1 fd1 ["count"] A6w):C6 P w K mg base 3 f fd ["whole"] C4a:=by
 refine D.F.ok2 scWLead (fun vs H Q E h=>?_) (fun X cdv A outer s H vs Q E hX hr hx h=>?_)
 . obtain⟨n,rfl,_⟩:=h
   rfl
 subst hX
 obtain⟨n,rfl,n1,n2,k⟩:=h
 refine⟨_,(A4 (A8 (D5 (i:=1) scWLead.nd rfl (Or.inl rfl) (A9 G9 (A9 U2 (A9 V3 (D0r PySem.F.plainAttrs_int PySem.F.slot_int_bit_length PySem.F.type_int_bit_length B2z (pv 0)) A2) A2) (A9 B6d A2 A2)))) (A4 (A8 (D5 (i:=2) scWLead.nd rfl (Or.inl rfl) (G5 dA dB hr hx (A0 (A9 U7 (pv 1) A2) A3)))) (A4 (A8 (A7f PassesOwn.leaving (C8 G0q (pv 2) (pv 0) (B9 _)) (A4 (G3p (i:=1) scWLead.nd rfl (Or.inl rfl) A2 G3c) (A7 (D5 (i:=2) scWLead.nd rfl (Or.inl rfl) (A9 U2 (pv 2) A2)))))) (A7 (B7 (pv 1)))))),?_⟩
 have mC:∀z n:Int, -(2^64)<n ->n<2^64 ->IntMulOk z n:=fun z n a b=>A2a.ok (.inr ⟨a,b⟩)
 have pw:D6z 10 9:=⟨by decide,by decide,by decide⟩
 have l3:∀{L:Nat},10^L<=n ->L<3000:=fun hL=>(Nat.pow_lt_pow_iff_right (by decide:1<10)).mp (Nat.lt_of_le_of_lt hL n2)
 refine⟨fun σ H'=>H'=H/\∃L:Nat,10^L<=n/\σ=[si (n:Int),si (L:Int),none],?_,?_⟩
 . refine⟨_,rfl,rfl,_,rfl,rfl,_,_,rfl,rfl,_,_,rfl,rfl,mC _ _ (by decide) (by decide),_,_,rfl,rfl,pw,_,_,rfl,rfl,⟨by decide,by decide+kernel⟩,rfl,n.log2*301029995/10^9,?_,?_⟩
   . exact Nat.le_trans (B9n _) (Nat.log2_self_le (by omega))
   . have e:(Builtin.Int.intBits (n:Int):Nat)=n.log2+1:=by
       unfold Builtin.Int.intBits
       rw[if_neg (by simp;omega)]
       rfl
     show [si (n:Int),si ((((Builtin.Int.intBits (n:Int):Nat):Int)-1)*301029995/(10^Int.toNat 9:Int)),none]=_
     rw[e,show((n.log2+1:Nat):Int)-1=(n.log2:Int) by omega]
     rfl
 refine L2.hideG fun Z_ z_=>?_
 rintro σ H' ⟨rfl,L0,hL0,rfl⟩
 subst z_
 refine⟨fun σ H2=>H2=H'/\∃L:Nat,10^L<=n/\σ=[si (n:Int),si (L:Int),si ((10^(L+1):Nat):Int)],?_,?_⟩
 . have:=l3 hL0
   exact⟨_,rfl,_,_,rfl,rfl,L0+1,rfl,by omega,rfl,L0,hL0,rfl⟩
 refine L2.hideG fun Z_ z_=>?_
 rintro σ H2 ⟨rfl,L1,hL1,rfl⟩
 subst z_
 refine⟨fun σ H3=>H3=H2/\∃L:Nat,10^L<=n/\n<10^(L+1)/\σ=[si (n:Int),si (L:Int),si ((10^(L+1):Nat):Int)],?_,?_⟩
 . refine A6y (fun σ H3=>H3=H2/\∃L:Nat,10^L<=n/\σ=[si (n:Int),si (L:Int),si ((10^(L+1):Nat):Int)]) (fun σ _=>match σ with| [_,some (.int c),_]=>n-c.toNat|_=>0) ?_ ?_ ?_
   . exact⟨rfl,L1,hL1,rfl⟩
   . rintro σ H3 ⟨rfl,L,hL,rfl⟩
     refine⟨_,rfl,_,rfl,_,_,rfl,rfl,_,rfl,U5 (fun hle=>?_) (fun hgt=>?_)⟩
     . have hle:10^(L+1)<=n:=Int.ofNat_le.mp hle
       refine⟨_,rfl,_,_,rfl,rfl,_,rfl,_,_,rfl,rfl,mC _ _ (by decide) (by decide),⟨rfl,L+1,hle,?_⟩,?_⟩
       . show [si (n:Int),si ((L:Int)+1),si (((10^(L+1):Nat):Int)*10)]=_
         rw[show((10^(L+1):Nat):Int)*10=((10^(L+1+1):Nat):Int) by rw[Nat.pow_succ 10 (L+1)];rfl]
         rfl
       have lt:L+1<10^(L+1):=Nat.lt_pow_self (by decide)
       show n-((L:Int)+1).toNat<n-(L:Int).toNat
       omega
     . have hgt:¬10^(L+1)<=n:=fun z=>hgt (Int.ofNat_le.mpr z)
       exact⟨rfl,L,hL,by omega,rfl⟩
   . rintro σ H2 Q1 Q2 hQ ⟨v,e,v2,e4,i2,j2,e5,e6,b,e7,q⟩
     exact⟨v,e,v2,e4,i2,j2,e5,e6,b,e7,hQ _ _ q⟩
 refine L2.hideG fun Z_ z_=>?_
 rintro σ H3 ⟨rfl,L,h1,h2,rfl⟩
 subst z_
 exact⟨_,rfl,k L h1 h2⟩
noncomputable abbrev C9h:Stmt:=(J1 (top 6) 2)
noncomputable abbrev B1g:Stmt:=(J1 (top 6) 1)
theorem scRAt:B8 ["self","power","shift","top","bottom","whole"] Q19 (A5 C9h):=scK
theorem G2c{f f1 f2 CR CE:Addr}(F:Fun K "at" "Ratio.at" C9h f fd)(dA:Def K mg "ten_to" ["count"] A6f f1 fd1)(dB:C6 P w K mg base 2 f1 fd1 ["count"] A6w)
   (dC:Def K mg "part_of" Q20 A9s f2 fd2) (dD:C6 P w K mg base 1 f2 fd2 Q20 B7b) (R:C1t K mg CR CE) (O:Own mg):C6 P w K mg base 3 f fd Q19 (C8h CR):=by
 refine F.ok2 scRAt (fun vs H Q E h=>?_) (fun X cdv A outer s H vs Q E hX hr hx h=>?_)
 . obtain⟨x,t,b,n,p,rfl,_⟩:=h
   rfl
 subst hX
 obtain⟨x,t,b,n,p,rfl,⟨dx,e⟩,ht,hb,h1,h2,k⟩:=h
 refine⟨_,(A4 (D5 (i:=2) scRAt.nd rfl (Or.inl rfl) (A9 V3 (U6 (pv 0) rfl) (pv 1))) (A4 (D5 (i:=3) scRAt.nd rfl (Or.inl rfl) (A9 U2 (U6 (pv 0) rfl) (G5 dA dB hr hx (A0 (U8 (A3v hx.hd) (by rfl) O.max_ boot_max (A0 (pv 2) (A0 A2 A3))) A3)))) (A4 (D5 (i:=4) scRAt.nd rfl (Or.inl rfl) (A9 U2 (U6 (pv 0) rfl) (G5 dA dB hr hx (A0 (U8 (A3v hx.hd) (by rfl) O.max_ boot_max (A0 (A1q A0m (pv 2)) (A0 A2 A3))) A3)))) (A4 (D5 (i:=5) scRAt.nd rfl (Or.inl rfl) (A9 G9 (pv 3) (pv 4))) (A7 (B7 (V7 (A0 (pv 5) (A0 (G5 dC dD hr hx (A0 (A9 U2 A2 (A9 V3 (pv 3) (A9 U2 (pv 5) (pv 4)))) (A0 (pv 4) A3))) A3))))))))),?_⟩
 have z2:2<=sizeLine:=D3 (by decide)
 have mC':∀z n:Int, -(2^64)<n ->n<2^64 ->IntMulOk n z:=fun z n a b=>A2a.ok (.inl ⟨a,b⟩)
 have hb0:0<b:=by have:=hb.1;omega
 refine⟨_,rfl,x,CR,dx,_,_,rfl,e,R.cl,R.n_power,B4j _ _ _,_,rfl,_,_,rfl,rfl,?_⟩
 refine⟨_,rfl,x,CR,dx,_,_,rfl,e,R.cl,R.n_top,C2s _ _ _,_,rfl,_,_,rfl,(n-p).toNat,congrArg (fun z=>[V.int z]) (G6f (n-p)),by omega,_,_,rfl,rfl,B5g ht h2,?_⟩
 refine⟨_,rfl,x,CR,dx,_,_,rfl,e,R.cl,R.n_bottom,B0v _ _ _,_,rfl,_,rfl,_,_,rfl,(-(n-p)).toNat,congrArg (fun z=>[V.int z]) (G6f (-(n-p))),by omega,_,_,rfl,rfl,B5g hb (by omega),?_⟩
 have lp:0<b*B0 (-(n-p)):=Int.mul_pos hb0 (Y3 _)
 have ll:(b*B0 (-(n-p))).natAbs.log2<9000:=G1q hb (by omega)
 refine⟨_,rfl,_,rfl,_,_,rfl,rfl,⟨lp,ll⟩,?_⟩
 have lf:=D8h (t:=t) (s:=n-p) hb0
 refine⟨_,rfl,_,rfl,_,rfl,_,rfl,_,_,rfl,rfl,G6v ht hb h1 h2,_,_,rfl,rfl,_,_,rfl,rfl,mC' _ _ (by decide) (by decide),_,rfl,_,_,rfl,lf.1,lp,z2,fun q nq=>k q _ (B5.upd nq) nq A6⟩
theorem G1j{t b L M u v:Nat}(h:L+u=M+v)(t2:t<10^(L+1))(b1:10^M<=b):t*10^u<10*(b*10^v):=by
 have p:0<10^u:=Nat.pow_pos (by decide)
 calc t*10^u<10^(L+1)*10^u:=Nat.mul_lt_mul_of_pos_right t2 p
   _=10*(10^M*10^v):=by rw[<-Nat.pow_add, <-Nat.pow_add, <-h,show L+1+u=(L+u)+1 by omega,Nat.pow_succ,Nat.mul_comm]
   _<=10*(b*10^v):=Nat.mul_le_mul_left 10 (Nat.mul_le_mul_right _ b1)
theorem G3h{t b L M u v:Nat}(h:L+u=M+1+v)(t1:10^L<=t)(b2:b<10^(M+1)):b*10^v<=t*10^u:=by
 calc b*10^v<=10^(M+1)*10^v:=Nat.mul_le_mul_right _ (Nat.le_of_lt b2)
   _=10^L*10^u:=by rw[<-Nat.pow_add, <-Nat.pow_add,h]
   _<=t*10^u:=Nat.mul_le_mul_right _ t1
theorem B4k{t b L M:Nat}(t1:10^L<=t)(t2:t<10^(L+1))(b1:10^M<=b)(b2:b<10^(M+1))(h:(b:Int)*B0 (-((M:Int)-L))<=(t:Int)*B0 ((M:Int)-L)):A0s t b ((M:Int)-L):=by
 refine⟨h,?_⟩
 unfold B0
 have:=G1j (t:=t) (b:=b) (L:=L) (M:=M) (u:=((M:Int)-L).toNat) (v:=(-((M:Int)-L)).toNat) (by omega) t2 b1
 exact Int.ofNat_lt.mpr this
theorem B0m{t b L M:Nat}(t1:10^L<=t)(t2:t<10^(L+1))(b1:10^M<=b)(b2:b<10^(M+1))(h:(t:Int)*B0 ((M:Int)-L)<(b:Int)*B0 (-((M:Int)-L))):A0s t b ((M:Int)-L+1):=by
 refine⟨?_,?_⟩
 . unfold B0
   have:=G3h (t:=t) (b:=b) (L:=L) (M:=M) (u:=((M:Int)-L+1).toNat) (v:=(-((M:Int)-L+1)).toNat) (by omega) t1 b2
   exact Int.ofNat_le.mpr this
 have hb:0<(b:Int):=by
   have:0<10^M:=Nat.pow_pos (by decide)
   omega
 generalize (M:Int)-L=s at h
 have c:=B1j (s:=s) (r:=s+1) (by omega)
 have e1:B0 (s+1-s)=10:=by rw[show s+1-s=1 by omega];rfl
 rw[e1] at c
 have l:=Int.mul_pos hb (Y3 (-s))
 have l':=Int.mul_pos hb (Y3 (-(s+1)))
 have e:(t:Int)*B0 (s+1)*((b:Int)*B0 (-s))=(t:Int)*B0 s*((b:Int)*B0 (-(s+1)))*10:=by
   calc (t:Int)*B0 (s+1)*((b:Int)*B0 (-s))=t*b*(B0 (s+1)*B0 (-s)):=by ac_rfl
     _=t*b*(B0 s*B0 (-(s+1))*10):=by rw[c]
     _=(t:Int)*B0 s*((b:Int)*B0 (-(s+1)))*10:=by ac_rfl
 have a:(t:Int)*B0 s*((b:Int)*B0 (-(s+1)))<(b:Int)*B0 (-s)*((b:Int)*B0 (-(s+1))):=Int.mul_lt_mul_of_pos_right h l'
 have a2:(t:Int)*B0 (s+1)*((b:Int)*B0 (-s))<10*((b:Int)*B0 (-(s+1)))*((b:Int)*B0 (-s)):=by
   rw[e,show 10*((b:Int)*B0 (-(s+1)))*((b:Int)*B0 (-s))=(b:Int)*B0 (-s)*((b:Int)*B0 (-(s+1)))*10 by ac_rfl]
   exact Int.mul_lt_mul_of_pos_right a (by decide)
 exact Int.lt_of_mul_lt_mul_right a2 (Int.le_of_lt l)
theorem scRFirst:B8 ["self","guess"] ["self"] (A5 B1g):=scK
theorem C6h{f f1 f2 CR CE:Addr}(F:Fun K "first" "Ratio.first" B1g f fd)(dA:Def K mg "whole_lead" ["whole"] B6r f1 fd1)(dB:C6 P w K mg base 3 f1 fd1 ["whole"] C4a)
   (MA:A7s K CR "at" f2) (GA:C6 P w K mg base 3 f2 fd2 Q19 (C8h CR)) (BA:V9 K fd2 Q19 []) (R:C1t K mg CR CE):C6 P w K mg base 4 f fd ["self"] (B7q CR):=by
 refine F.ok2 scRFirst (fun vs H Q E h=>?_) (fun X cdv A outer s H vs Q E hX hr hx h=>?_)
 . obtain⟨x,t,b,n,rfl,_⟩:=h
   rfl
 subst hX
 obtain⟨x,t,b,n,rfl,ra,ht,hb,k⟩:=h
 refine⟨_,(A4 (D5 (i:=1) scRFirst.nd rfl (Or.inl rfl) (A9 U7 (A9 V3 (G5 dA dB hr hx (A0 (U6 (pv 0) rfl) A3)) (G5 dA dB hr hx (A0 (U6 (pv 0) rfl) A3))) (U6 (pv 0) rfl))) (A7 (B7 (A0h (C8 A2f (V8 A1h (A4m (pv 0) R.cl MA GA hr BA .nil hx (A0 (pv 1) A3)) A2 (fun _ _=>rfl)) A2 (B9 _)) (pv 1) (A9 V3 (pv 1) A2))))),?_⟩
 obtain⟨tn,rfl,ta,tb⟩:=ht.nat
 obtain⟨bn,rfl,ba,bb⟩:=hb.nat
 obtain⟨dx,e⟩:=id ra
 have p30:(10:Nat)^1000<10^3000:=Nat.pow_lt_pow_right (by decide) (by decide)
 have p30':∀{L m:Nat},10^L<=m ->m<10^1000 ->L<1000:=fun h1 h2=>(Nat.pow_lt_pow_iff_right (by decide:1<10)).mp (Nat.lt_of_le_of_lt h1 h2)
 refine⟨_,rfl,x,CR,dx,_,_,rfl,e,R.cl,R.n_top,C2s _ _ _,tn,rfl,ta,Nat.lt_trans tb p30,fun L L1 L2=>?_⟩
 refine⟨_,rfl,x,CR,dx,_,_,rfl,e,R.cl,R.n_bottom,B0v _ _ _,bn,rfl,ba,Nat.lt_trans bb p30,fun M' M1 M2=>?_⟩
 have l30:=p30' L1 tb
 have m30:=p30' M1 bb
 refine⟨_,_,rfl,rfl,_,rfl,x,CR,dx,_,_,rfl,e,R.cl,R.n_power,B4j _ _ _,_,_,rfl,rfl,?_⟩
 have es:n-((L:Int)-M'+n)=(M':Int)-L:=by omega
 refine⟨_,rfl,x,dx,_,rfl,e,B4e _ _ _,_,rfl,x,tn,bn,n,_,rfl,ra,ht,hb,by omega,by omega,fun q H1 s1 nq hq=>?_⟩
 rw[es] at hq
 refine⟨q,_,0,_,rfl,rfl,SqT.of hq,V6 (j:=0) rfl,_,_,rfl,rfl,_,rfl,?_⟩
 have lp:0<(bn:Int)*B0 (-((M':Int)-L)):=Int.mul_pos (by omega) (Y3 _)
 refine U5 (fun hg=>?_) (fun hg=>?_)
 . have hle:(bn:Int)*B0 (-((M':Int)-L))<=(tn:Int)*B0 ((M':Int)-L):=by
     have:=(Int.le_ediv_iff_mul_le lp).mp (show(1:Int)<=(tn:Int)*B0 ((M':Int)-L)/((bn:Int)*B0 (-((M':Int)-L))) from hg)
     omega
   refine⟨_,rfl,k _ H1 s1 ?_⟩
   rw[es]
   exact B4k L1 L2 M1 M2 hle
 have hlt:(tn:Int)*B0 ((M':Int)-L)<(bn:Int)*B0 (-((M':Int)-L)):=by
   apply Classical.byContradiction
   intro z
   exact hg ((Int.le_ediv_iff_mul_le lp).mpr (by omega))
 refine⟨_,rfl,_,_,rfl,rfl,k _ H1 s1 ?_⟩
 rw[show n-((L:Int)-M'+n-1)=(M':Int)-L+1 by omega]
 exact B0m L1 L2 M1 M2 hlt
inductive Wy where
 |down
 |up
 |floor
 |ceiling
 |halfUp
 |halfDown
 |halfEven
 |fiveUp
noncomputable def Wy.name:Wy ->Str
 | .down=>"down"
 | .up=>"up"
 | .floor=>"floor"
 | .ceiling=>"ceiling"
 | .halfUp=>"half up"
 | .halfDown=>"half down"
 | .halfEven=>"half even"
 | .fiveUp=>"five up"
noncomputable def Wy.cls:Wy ->Str
 | .down=>"Down"
 | .up=>"Up"
 | .floor=>"Floor"
 | .ceiling=>"Ceiling"
 | .halfUp=>"HalfUp"
 | .halfDown=>"HalfDown"
 | .halfEven=>"HalfEven"
 | .fiveUp=>"FiveUp"
theorem Wy.inj{a b:Wy}(h:a.name=b.name):a=b:=by
 cases a<;>cases b<;>first|rfl|exact absurd h (by decide+kernel)
structure A9m(K:Frag)(mg:Str ->Option Value)(x:Str)(C CW:Addr):Prop where
 g:mg x=some (.ref C)
 cl:Cls K C
 mk0:Mk0 K C
 ca:findIn K (.ref C) "__class__"=some (some (.builtin "object.__class__"))
 sn:specialIn K (.builtin "object.__class__") "__get__"=some (some (.builtin "getset_descriptor.__get__"))
 tk:takesIn K (.builtin "object.__class__")=some true
 ob:mroIn K C (.type "object")=some true
 up:kitOne K (.ref C) (.ref CW)=some true
noncomputable def A3r (s:Str):Sp:=fun vs H Q _=>∃p,vs=[.ref p]/\Q (.str s) H
noncomputable def G6u (P:Program) (w:World) (K:Frag) (mg:Str ->Option Value) (base:Heap) (C:Addr) (s:Str):Prop:=A7q P w K mg base C "name" 1 ["self"] (A3r s)
noncomputable abbrev sN0:Stmt:=(J1 (top 47) 0)
theorem J1w:B8 ["self"] ["self"] (A5 sN0):=scK
theorem G7p(F:Fun K "name" "Down.name" sN0 f fd):C6 P w K mg base 1 f fd ["self"] (A3r "down"):=by
 refine F.ok2 J1w (fun vs H Q E h=>?_) (fun X cdv A outer s H vs Q E hX hr hx h=>?_)
 . obtain⟨p,rfl,_⟩:=h
   rfl
 subst hX
 obtain⟨p,rfl,k⟩:=h
 exact⟨_,A7 (B7 C7),k⟩
noncomputable abbrev sN1:Stmt:=(J1 (top 48) 0)
theorem J1v:B8 ["self"] ["self"] (A5 sN1):=scK
theorem G7e(F:Fun K "name" "Up.name" sN1 f fd):C6 P w K mg base 1 f fd ["self"] (A3r "up"):=by
 refine F.ok2 J1v (fun vs H Q E h=>?_) (fun X cdv A outer s H vs Q E hX hr hx h=>?_)
 . obtain⟨p,rfl,_⟩:=h
   rfl
 subst hX
 obtain⟨p,rfl,k⟩:=h
 exact⟨_,A7 (B7 C7),k⟩
noncomputable abbrev sN2:Stmt:=(J1 (top 49) 0)
theorem J1f:B8 ["self"] ["self"] (A5 sN2):=scK
theorem G8t(F:Fun K "name" "Floor.name" sN2 f fd):C6 P w K mg base 1 f fd ["self"] (A3r "floor"):=by
 refine F.ok2 J1f (fun vs H Q E h=>?_) (fun X cdv A outer s H vs Q E hX hr hx h=>?_)
 . obtain⟨p,rfl,_⟩:=h
   rfl
 subst hX
 obtain⟨p,rfl,k⟩:=h
 exact⟨_,A7 (B7 C7),k⟩
noncomputable abbrev sN3:Stmt:=(J1 (top 50) 0)
theorem J1y:B8 ["self"] ["self"] (A5 sN3):=scK
theorem G5x(F:Fun K "name" "Ceiling.name" sN3 f fd):C6 P w K mg base 1 f fd ["self"] (A3r "ceiling"):=by
 refine F.ok2 J1y (fun vs H Q E h=>?_) (fun X cdv A outer s H vs Q E hX hr hx h=>?_)
 . obtain⟨p,rfl,_⟩:=h
   rfl
 subst hX
 obtain⟨p,rfl,k⟩:=h
 exact⟨_,A7 (B7 C7),k⟩
noncomputable abbrev sN4:Stmt:=(J1 (top 51) 0)
theorem J0k:B8 ["self"] ["self"] (A5 sN4):=scK
theorem G7t(F:Fun K "name" "HalfUp.name" sN4 f fd):C6 P w K mg base 1 f fd ["self"] (A3r "half up"):=by
 refine F.ok2 J0k (fun vs H Q E h=>?_) (fun X cdv A outer s H vs Q E hX hr hx h=>?_)
 . obtain⟨p,rfl,_⟩:=h
   rfl
 subst hX
 obtain⟨p,rfl,k⟩:=h
 exact⟨_,A7 (B7 C7),k⟩
noncomputable abbrev sN5:Stmt:=(J1 (top 52) 0)
theorem J2h:B8 ["self"] ["self"] (A5 sN5):=scK
theorem G8e(F:Fun K "name" "HalfDown.name" sN5 f fd):C6 P w K mg base 1 f fd ["self"] (A3r "half down"):=by
 refine F.ok2 J2h (fun vs H Q E h=>?_) (fun X cdv A outer s H vs Q E hX hr hx h=>?_)
 . obtain⟨p,rfl,_⟩:=h
   rfl
 subst hX
 obtain⟨p,rfl,k⟩:=h
 exact⟨_,A7 (B7 C7),k⟩
noncomputable abbrev sN6:Stmt:=(J1 (top 53) 0)
theorem J1u:B8 ["self"] ["self"] (A5 sN6):=scK
theorem G6x(F:Fun K "name" "HalfEven.name" sN6 f fd):C6 P w K mg base 1 f fd ["self"] (A3r "half even"):=by
 refine F.ok2 J1u (fun vs H Q E h=>?_) (fun X cdv A outer s H vs Q E hX hr hx h=>?_)
 . obtain⟨p,rfl,_⟩:=h
   rfl
 subst hX
 obtain⟨p,rfl,k⟩:=h
 exact⟨_,A7 (B7 C7),k⟩
noncomputable abbrev sN7:Stmt:=(J1 (top 54) 0)
theorem J2c:B8 ["self"] ["self"] (A5 sN7):=scK
theorem G8h(F:Fun K "name" "FiveUp.name" sN7 f fd):C6 P w K mg base 1 f fd ["self"] (A3r "five up"):=by
 refine F.ok2 J2c (fun vs H Q E h=>?_) (fun X cdv A outer s H vs Q E hX hr hx h=>?_)
 . obtain⟨p,rfl,_⟩:=h
   rfl
 subst hX
 obtain⟨p,rfl,k⟩:=h
 exact⟨_,A7 (B7 C7),k⟩
noncomputable def G0c (K:Frag) (H:Hp) (v:V):Prop:=∃t b,TyE K H v t/\kitOne K t (.type "str")=some b/\(b=false\/∃z,v= .str z/\∀y:Wy,z≠y.name)
theorem A4t{C:Addr}{σ:L2.St}{H:Hp}{Q:VK}(k:∀p dx H',H p=none ->B5 H H' ->H' p=some (.ins C dx []) ->Q (.ref p) H'):G1m C σ H Q:=fun x dx n1 n2 ne=>
 k x dx _ n1 ((B5.upd n2).trans (B5.upd (by rw[C9 (Ne.symm ne)];exact n1))) A6
noncomputable abbrev B1e:Stmt:=(top 55)
noncomputable def B5e (K:Frag) (CB:Addr) (cw:Wy ->Addr):Sp:=fun vs H Q E=>∃v,vs=[v]/\((∃y:Wy,v= .str y.name/\∀p dx H',H p=none ->B5 H H' ->H' p=some (.ins (cw y) dx []) ->Q (.ref p) H')\/(G0c K H v/\E (.ref CB) none H))
theorem D8k:B8 ["name"] ["name"] (A5 B1e):=scK
theorem D0x{f CB CW:Addr}{cw:Wy ->Addr}(D:Def K mg "way_of" ["name"] B1e f fd)(O:Own mg)(T:Kit K)(B:Err K mg "BadContext" CB)(W:∀y:Wy,A9m K mg y.cls (cw y) CW):
   C6 P w K mg base 1 f fd ["name"] (B5e K CB cw):=by
 refine D.F.ok2 D8k (fun vs H Q E h=>?_) (fun X cdv A outer s H vs Q E hX hr hx h=>?_)
 . obtain⟨v,rfl,_⟩:=h
   rfl
 subst hX
 obtain⟨v,rfl,h⟩:=h
 refine⟨_,(A4 (U0 (A1a (Z5 (A9j O.isi (pv 0) (pty O.str_ boot_str)))) (A7 (A0y (by rfl) B.g B.q PySem.F.excBase_ValueError hx (A0 C7 A3))) D7) (A4 (U0 (C8 G4 (pv 0) C7 (B9 _)) (A7 (B7 (A5b (W .down).mk0 rfl (W .down).g))) D7) (A4 (U0 (C8 G4 (pv 0) C7 (B9 _)) (A7 (B7 (A5b (W .up).mk0 rfl (W .up).g))) D7) (A4 (U0 (C8 G4 (pv 0) C7 (B9 _)) (A7 (B7 (A5b (W .floor).mk0 rfl (W .floor).g))) D7) (A4 (U0 (C8 G4 (pv 0) C7 (B9 _)) (A7 (B7 (A5b (W .ceiling).mk0 rfl (W .ceiling).g))) D7) (A4 (U0 (C8 G4 (pv 0) C7 (B9 _)) (A7 (B7 (A5b (W .halfUp).mk0 rfl (W .halfUp).g))) D7) (A4 (U0 (C8 G4 (pv 0) C7 (B9 _)) (A7 (B7 (A5b (W .halfDown).mk0 rfl (W .halfDown).g))) D7) (A4 (U0 (C8 G4 (pv 0) C7 (B9 _)) (A7 (B7 (A5b (W .halfEven).mk0 rfl (W .halfEven).g))) D7) (A4 (U0 (C8 G4 (pv 0) C7 (B9 _)) (A7 (B7 (A5b (W .fiveUp).mk0 rfl (W .fiveUp).g))) D7) (A7 (A0y (by rfl) B.g B.q PySem.F.excBase_ValueError hx (A0 C7 A3)))))))))))),?_⟩
 have z1:1<=sizeLine:=D3 (by decide)
 rcases h with⟨y,rfl,k⟩|⟨⟨t,b,ty,kk,bad⟩,k⟩
 . refine⟨_,rfl,_,_,_,_,true,rfl,rfl,B4s _,T.str_str,_,rfl,Y1 ?_⟩
   refine⟨_,rfl,rfl,_,rfl,U5 (fun e=>?_) (fun n0=>?_)⟩
   . have q:y= .down:=Wy.inj (V.str.inj (e:V.str y.name=V.str (Wy.name .down)))
     subst q
     exact A4t k
   refine⟨_,rfl,rfl,_,rfl,U5 (fun e=>?_) (fun n1=>?_)⟩
   . have q:y= .up:=Wy.inj (V.str.inj (e:V.str y.name=V.str (Wy.name .up)))
     subst q
     exact A4t k
   refine⟨_,rfl,rfl,_,rfl,U5 (fun e=>?_) (fun n2=>?_)⟩
   . have q:y= .floor:=Wy.inj (V.str.inj (e:V.str y.name=V.str (Wy.name .floor)))
     subst q
     exact A4t k
   refine⟨_,rfl,rfl,_,rfl,U5 (fun e=>?_) (fun n3=>?_)⟩
   . have q:y= .ceiling:=Wy.inj (V.str.inj (e:V.str y.name=V.str (Wy.name .ceiling)))
     subst q
     exact A4t k
   refine⟨_,rfl,rfl,_,rfl,U5 (fun e=>?_) (fun n4=>?_)⟩
   . have q:y= .halfUp:=Wy.inj (V.str.inj (e:V.str y.name=V.str (Wy.name .halfUp)))
     subst q
     exact A4t k
   refine⟨_,rfl,rfl,_,rfl,U5 (fun e=>?_) (fun n5=>?_)⟩
   . have q:y= .halfDown:=Wy.inj (V.str.inj (e:V.str y.name=V.str (Wy.name .halfDown)))
     subst q
     exact A4t k
   refine⟨_,rfl,rfl,_,rfl,U5 (fun e=>?_) (fun n6=>?_)⟩
   . have q:y= .halfEven:=Wy.inj (V.str.inj (e:V.str y.name=V.str (Wy.name .halfEven)))
     subst q
     exact A4t k
   refine⟨_,rfl,rfl,_,rfl,U5 (fun e=>?_) (fun n7=>?_)⟩
   . have q:y= .fiveUp:=Wy.inj (V.str.inj (e:V.str y.name=V.str (Wy.name .fiveUp)))
     subst q
     exact A4t k
   cases y with
   |down=>exact absurd rfl n0
   |up=>exact absurd rfl n1
   |floor=>exact absurd rfl n2
   |ceiling=>exact absurd rfl n3
   |halfUp=>exact absurd rfl n4
   |halfDown=>exact absurd rfl n5
   |halfEven=>exact absurd rfl n6
   |fiveUp=>exact absurd rfl n7
 refine⟨_,rfl,_,_,_,_,b,rfl,rfl,ty,kk,_,rfl,?_⟩
 cases b with
 |false=>exact Z3 ⟨z1,k⟩
 | true=>
   obtain⟨z,rfl,nz⟩:=bad.resolve_left (by decide)
   refine Y1 ?_
   refine⟨_,rfl,rfl,_,rfl,U5 (fun e=>absurd (V.str.inj e) (nz .down)) (fun n0=>?_)⟩
   refine⟨_,rfl,rfl,_,rfl,U5 (fun e=>absurd (V.str.inj e) (nz .up)) (fun n1=>?_)⟩
   refine⟨_,rfl,rfl,_,rfl,U5 (fun e=>absurd (V.str.inj e) (nz .floor)) (fun n2=>?_)⟩
   refine⟨_,rfl,rfl,_,rfl,U5 (fun e=>absurd (V.str.inj e) (nz .ceiling)) (fun n3=>?_)⟩
   refine⟨_,rfl,rfl,_,rfl,U5 (fun e=>absurd (V.str.inj e) (nz .halfUp)) (fun n4=>?_)⟩
   refine⟨_,rfl,rfl,_,rfl,U5 (fun e=>absurd (V.str.inj e) (nz .halfDown)) (fun n5=>?_)⟩
   refine⟨_,rfl,rfl,_,rfl,U5 (fun e=>absurd (V.str.inj e) (nz .halfEven)) (fun n6=>?_)⟩
   refine⟨_,rfl,rfl,_,rfl,U5 (fun e=>absurd (V.str.inj e) (nz .fiveUp)) (fun n7=>?_)⟩
   exact⟨z1,k⟩
noncomputable def Y5:List Str:=["void","split","burst","sunk","faint","off","cut"]
noncomputable def B6z:List V:=Y5.map V.str
structure C7b(K:Frag)(mg:Str ->Option Value)(aS:Addr):Prop where
 g:mg "SIGNALS"=some (.ref aS)
 ty:∃o,K.lookup aS=some o/\o.cls= .type "tuple"
 sq:∀H,SqT K H aS B6z
noncomputable abbrev B1p:Stmt:=(top 60)
noncomputable def J1g (K:Frag) (H:Hp) (x:V):Prop:=∃t b,TyE K H x t/\kitOne K t (.type "str")=some b/\(b=false\/∃z,x= .str z/\z ∉ Y5)
noncomputable def B9r (K:Frag) (H:Hp) (v:V):Prop:=(∃t,TyE K H v t/\kitOne K t (.type "list")=some false)\/(∃(p:Addr) (zs:List Str) (x:V) (r:List V),v= .ref p/\H p=some (.lst (zs.map V.str++x::r))/\(∀z∈zs,z∈Y5)/\J1g K H x)
noncomputable def B6f (K:Frag) (CB:Addr):Sp:=fun vs H Q E=>∃v,vs=[v]/\((∃(p:Addr) (zs:List Str),v= .ref p/\H p=some (.lst (zs.map V.str))/\(∀z∈zs,z∈Y5)/\Q .non H)\/(B9r K H v/\E (.ref CB) none H))
theorem scNeedS:B8 ["names","name"] ["names"] (A5 B1p):=scK
theorem D0u{f CB aS:Addr}(D:Def K mg "need_signals" ["names"] B1p f fd)(O:Own mg)(T:Kit K)(B:Err K mg "BadContext" CB)(SG:C7b K mg aS):C6 P w K mg base 1 f fd ["names"] (B6f K CB):=by
 refine D.F.ok2 scNeedS (fun vs H Q E h=>?_) (fun X cdv A outer s H vs Q E hX hr hx h=>?_)
 . obtain⟨v,rfl,_⟩:=h
   rfl
 subst hX
 obtain⟨v,rfl,h⟩:=h
 refine⟨_,(A4 (U0 (A1a (Z5 (A9j O.isi (pv 0) (pty O.list_ boot_list)))) (A7 (A0y (by rfl) B.g B.q PySem.F.excBase_ValueError hx (A0 C7 A3))) D7) (A7 (C3j PassesOwn.leaving hx.hd (B9b (pv 0)) (D0 (i:=1) scNeedS.nd rfl (Or.inl rfl)) (A7 (U0 (PW.pt (A4n (A1a (Z5 (A9j O.isi (pv 1) (pty O.str_ boot_str)))) (A6b (C8 A7p (pv 1) (A4a SG.g) (by rfl))))) (A7 (A0y (by rfl) B.g B.q PySem.F.excBase_ValueError hx (A0 C7 A3))) D7))))),?_⟩
 have z1:1<=sizeLine:=D3 (by decide)
 rcases h with⟨p,zs,rfl,hp,hz,k⟩|⟨(⟨t,ty,kk⟩|⟨p,zs,x,r,rfl,hp,hz,t,b,ty,kk,bad⟩),k⟩
 . refine⟨_,rfl,_,_,_,_,true,rfl,rfl,B8e hp,T.list_list,_,rfl,Y1 ?_⟩
   refine⟨_,rfl,p,rfl,⟨_,SqL.of hp⟩,A7h (xs:=zs.map V.str) (fun i σ H'=>H'=H/\∃v,σ=[sr p,v]) ⟨rfl,none,rfl⟩ ?_ ?_ ?_⟩
   . rintro i σ H' _ ⟨rfl,_⟩
     exact SqL.of hp
   . rintro i x σ H' hi ⟨rfl,v,rfl⟩
     obtain⟨z,hzm,rfl⟩:=List.mem_map.mp (List.mem_of_getElem? hi)
     refine⟨_,rfl,_,_,_,_,true,rfl,rfl,B4s _,T.str_str,_,rfl,Y1 ?_⟩
     refine⟨_,rfl,aS,B6z,rfl,.inr (SG.sq _),rfl,A0z _,_,rfl,?_⟩
     have e:inV (.str z) B6z=true:=by
       show inV (.str z) (Y5.map V.str)=true
       rw[A1y]
       simpa using hz z hzm
     rw[e]
     exact Y1 ⟨rfl,_,rfl⟩
   . rintro σ H' ⟨rfl,v,rfl⟩
     exact k
 . exact⟨_,rfl,_,_,_,_,false,rfl,rfl,ty,kk,_,rfl,Z3 ⟨z1,k⟩⟩
 refine⟨_,rfl,_,_,_,_,true,rfl,rfl,B8e hp,T.list_list,_,rfl,Y1 ?_⟩
 refine⟨_,rfl,p,rfl,⟨_,SqL.of hp⟩,A7h (xs:=zs.map V.str++x::r) (fun i σ H'=>H'=H/\i<=zs.length/\∃v,σ=[sr p,v]) ⟨rfl,Nat.zero_le _,none,rfl⟩ ?_ ?_ ?_⟩
 . rintro i σ H' _ ⟨rfl,_⟩
   exact SqL.of hp
 . rintro i y σ H' hi ⟨rfl,hl,v,rfl⟩
   by_cases hlt:i<zs.length
   . rw[List.getElem?_append_left (by simpa using hlt)] at hi
     obtain⟨z,hzm,rfl⟩:=List.mem_map.mp (List.mem_of_getElem? hi)
     refine⟨_,rfl,_,_,_,_,true,rfl,rfl,B4s _,T.str_str,_,rfl,Y1 ?_⟩
     refine⟨_,rfl,aS,B6z,rfl,.inr (SG.sq _),rfl,A0z _,_,rfl,?_⟩
     have e:inV (.str z) B6z=true:=by
       show inV (.str z) (Y5.map V.str)=true
       rw[A1y]
       simpa using hz z hzm
     rw[e]
     exact Y1 ⟨rfl,by omega,_,rfl⟩
   . have e:i=zs.length:=by omega
     subst e
     rw[List.getElem?_append_right (by simp)] at hi
     simp at hi
     subst hi
     refine⟨_,rfl,_,_,_,_,b,rfl,rfl,ty,kk,_,rfl,?_⟩
     cases b with
     |false=>exact Z3 (Z3 ⟨z1,k⟩)
     | true=>
       obtain⟨z,rfl,nz⟩:=bad.resolve_left (by decide)
       refine Y1 ⟨_,rfl,aS,B6z,rfl,.inr (SG.sq _),rfl,A0z _,_,rfl,?_⟩
       have e:inV (.str z) B6z=false:=by
         show inV (.str z) (Y5.map V.str)=false
         rw[A1y]
         simpa using nz
       rw[e]
       exact Z3 ⟨z1,k⟩
 rintro σ H' ⟨rfl,hl,_⟩
 exfalso
 rw[List.length_append,List.length_map,List.length_cons] at hl
 omega
noncomputable abbrev B0t:Stmt:=(top 61)
noncomputable def Y0 (zs:List Str):List Str:=Y5.filter fun z=>zs.contains z
noncomputable def B5r (K:Frag):Sp:=fun vs H Q _=>∃(p:Addr) (zs:List Str),vs=[.ref p]/\SqL K H p (zs.map V.str)/\∀l H',B5 H H' ->H l=none ->H' l=some (.lst ((Y0 zs).map V.str)) ->Q (.ref l) H'
theorem D9q:B8 ["names"] ["names"] (A5 B0t):=scK
theorem C8b{f aS:Addr}(D:Def K mg "in_order" ["names"] B0t f fd)(SG:C7b K mg aS):C6 P w K mg base 1 f fd ["names"] (B5r K):=by
 refine D.F.ok2 D9q (fun vs H Q E h=>?_) (fun X cdv A outer s H vs Q E hX hr hx h=>?_)
 . obtain⟨p,zs,rfl,_⟩:=h
   rfl
 subst hX
 obtain⟨p,zs,rfl,hp,k⟩:=h
 refine⟨_,(A7 (B7 (B7n (N:=["name"]) (F:=["names"]) (js:=[0]) (D6.of1 ⟨rfl,by decide+kernel,by decide+kernel,by decide+kernel,by decide+kernel⟩ (by rfl) (by rfl) ⟨_,by rfl⟩ (by rfl) (by rfl)) hx.hd (A9w (A4a SG.g)) rfl (fun C s₀ H₀ ex pn h=>D0 (i:=0) (by decide+kernel:(["name","names"]:List Str).Nodup) rfl (Or.inl rfl)) (fun C s₀ H₀ ex pn h=>(C8 (A6d (K:=K) rfl) (pv 0) (pv 1) (by rfl))) (fun C s₀ H₀ ex pn h=>(pv 0))))),?_⟩
 refine A6s (zs:=Y5) (f:=fun z=>zs.contains z) (σf:=[sr p]) SG.sq (by decide) (fun z H' Qb sm q=>?_) (fun z H' Qv q=>⟨_,rfl,q⟩) (fun D H' sm nd e=>k D H' sm nd e) rfl
 refine⟨_,rfl,_,rfl,p,_,rfl,.inl (sm.seq hp),rfl,A0z _,_,rfl,?_⟩
 show Qb (inV (.str z) (zs.map V.str)) H'
 rw[A1y]
 exact q
structure B2t(K:Frag)(mg:Str ->Option Value)(CC:Addr):Prop where
 g:mg "Context"=some (.ref CC)
 cl:Cls K CC
 n_room:A0b K CC "room"
 n_rule:A0b K CC "rule"
 n_least:A0b K CC "least"
 n_most:A0b K CC "most"
 n_risen:A0b K CC "risen"
 n_trapped:A0b K CC "trapped"
noncomputable def A1s (r s l m a b:V):List (Str×V):=Y7 "trapped" b (Y7 "risen" a (Y7 "most" m (Y7 "least" l (Y7 "rule" s (Y7 "room" r [])))))
theorem A1v(r s l m a b:V)(n:Str):(A1s r s l m a b).lookup n=if n="trapped" then some b else if n="risen" then some a else if n="most" then some m else if n="least" then some l else if n="rule" then some s else if n="room" then some r else none:=by
 unfold A1s
 rw[G8,G8,G8,G8,G8,G8]
 rfl
theorem A4z(r s l m a b:V):(A1s r s l m a b).lookup ("room":Str)=some r:=by rw[A1v,if_neg (by decide+kernel),if_neg (by decide+kernel),if_neg (by decide+kernel),if_neg (by decide+kernel),if_neg (by decide+kernel),if_pos rfl]
theorem C8n(r s l m a b:V):(A1s r s l m a b).lookup ("rule":Str)=some s:=by rw[A1v,if_neg (by decide+kernel),if_neg (by decide+kernel),if_neg (by decide+kernel),if_neg (by decide+kernel),if_pos rfl]
theorem B3s(r s l m a b:V):(A1s r s l m a b).lookup ("least":Str)=some l:=by rw[A1v,if_neg (by decide+kernel),if_neg (by decide+kernel),if_neg (by decide+kernel),if_pos rfl]
theorem B1m(r s l m a b:V):(A1s r s l m a b).lookup ("most":Str)=some m:=by rw[A1v,if_neg (by decide+kernel),if_neg (by decide+kernel),if_pos rfl]
theorem B4t(r s l m a b:V):(A1s r s l m a b).lookup ("risen":Str)=some a:=by rw[A1v,if_neg (by decide+kernel),if_pos rfl]
theorem B7x(r s l m a b:V):(A1s r s l m a b).lookup ("trapped":Str)=some b:=by rw[A1v,if_pos rfl]
theorem B1y(r s l m a b:V):(A1s r s l m a b).lookup ("way":Str)=none:=by rw[A1v,if_neg (by decide+kernel),if_neg (by decide+kernel),if_neg (by decide+kernel),if_neg (by decide+kernel),if_neg (by decide+kernel),if_neg (by decide+kernel)]
theorem A2z(r s l m a b:V):(A1s r s l m a b).lookup ("lowest":Str)=none:=by rw[A1v,if_neg (by decide+kernel),if_neg (by decide+kernel),if_neg (by decide+kernel),if_neg (by decide+kernel),if_neg (by decide+kernel),if_neg (by decide+kernel)]
theorem A7d(r s l m a b:V):(A1s r s l m a b).lookup ("flags":Str)=none:=by rw[A1v,if_neg (by decide+kernel),if_neg (by decide+kernel),if_neg (by decide+kernel),if_neg (by decide+kernel),if_neg (by decide+kernel),if_neg (by decide+kernel)]
theorem B5n(r s l m a b:V):(A1s r s l m a b).lookup ("clear":Str)=none:=by rw[A1v,if_neg (by decide+kernel),if_neg (by decide+kernel),if_neg (by decide+kernel),if_neg (by decide+kernel),if_neg (by decide+kernel),if_neg (by decide+kernel)]
theorem A2t(r s l m a b:V):(A1s r s l m a b).lookup ("trap":Str)=none:=by rw[A1v,if_neg (by decide+kernel),if_neg (by decide+kernel),if_neg (by decide+kernel),if_neg (by decide+kernel),if_neg (by decide+kernel),if_neg (by decide+kernel)]
theorem A1p(r s l m a b:V):(A1s r s l m a b).lookup ("raised":Str)=none:=by rw[A1v,if_neg (by decide+kernel),if_neg (by decide+kernel),if_neg (by decide+kernel),if_neg (by decide+kernel),if_neg (by decide+kernel),if_neg (by decide+kernel)]
structure A0e(CC:Addr)(H:Hp)(c:Addr)(r:Int)(y:Wy)(l m:Int)(a b:Addr)(xs ys:List V):Prop where
 ins:∃dx,H c=some (.ins CC dx (A1s (.int r) (.str y.name) (.int l) (.int m) (.ref a) (.ref b)))
 ha:H a=some (.lst xs)
 hb:H b=some (.lst ys)
theorem A0e.same{CC:Addr}{H H':Hp}{c:Addr}{r:Int}{y:Wy}{l m:Int}{a b:Addr}{xs ys:List V}(h:A0e CC H c r y l m a b xs ys)(e:B5 H H'):A0e CC H' c r y l m a b xs ys:=by
 obtain⟨⟨dx,z⟩,z1,z2⟩:=h
 exact⟨⟨dx,e _ _ z⟩,e _ _ z1,e _ _ z2⟩
noncomputable abbrev A1d:Stmt:=(J1 (top 58) 0)
noncomputable abbrev B6a:Stmt:=(J1 (top 58) 1)
noncomputable abbrev B6t:Stmt:=(J1 (top 58) 2)
noncomputable abbrev A8h:Stmt:=(J1 (top 58) 3)
noncomputable def C1q (l:Int) (v:V):Prop:=(v= .non/\l= -60)\/(v= .int l/\ -60<=l/\l<=0)
noncomputable def G3k (K:Frag) (S:Hp ->Prop) (v1 v2 v3 v4:V):Prop:=(∀H',S H' ->A4e K H' 1 24 v1)\/(A2s 1 24 v1/\((∀H',S H' ->G0c K H' v2)\/((∃y:Wy,v2= .str y.name)/\((v3≠ .non/\∀H',S H' ->A4e K H' (-60) 0 v3)\/((∃l,C1q l v3)/\∀H',S H' ->A4e K H' 0 60 v4)))))
theorem Exc.none{p a:Addr}{H H':Hp}{o:HO}(x:Exc p H H')(hp:H' p=some o)(n:H' a=none):H a=none:=by
 cases q:H a with
 |none=>rfl
 | some u=>
   have:=x a u q (fun e=>by rw[e,hp] at n;cases n)
   rw[n] at this
   cases this
noncomputable def A5r (K:Frag) (CC CB:Addr):Sp:=fun vs H Q E=>∃p dx v1 v2 v3 v4,vs=[.ref p,v1,v2,v3,v4]/\H p=some (.ins CC dx [])/\
 ((∃r y l m,v1= .int r/\1<=r/\r<=24/\v2= .str (Wy.name y)/\C1q l v3/\v4= .int m/\0<=m/\m<=60/\∀a b H',Exc p H H' ->H a=none ->H b=none ->A0e CC H' p r y l m a b [] [] ->Q .non H')\/
  (G3k K (Exc p H) v1 v2 v3 v4/\∀H',Exc p H H' ->E (.ref CB) none H'))
theorem C6y:B8 Q21 Q21 (A5 A1d):=scK
theorem C7p:A6z 1 24:=by unfold A6z;decide+kernel
theorem C1k:A6z (-60) 0:=by unfold A6z;decide+kernel
theorem D0t:A6z 0 60:=by unfold A6z;decide+kernel
theorem C0x{f fB fW CC CB CW:Addr}{dV:Value}{cw:Wy ->Addr}{fd fdB fdW:FuncData}(F:D1k K "__init__" "Context.__init__" A1d dV f fd)(dA:Def K mg "bounded" Q4 A7e fB fdB)(dC:Def K mg "way_of" ["name"] B1e fW fdW)
   (dB:C6 P w K mg base 2 fB fdB Q4 (B3g K CB)) (dD:C6 P w K mg base 1 fW fdW ["name"] (B5e K CB cw)) (C:B2t K mg CC)
   (W:∀y:Wy,A9m K mg y.cls (cw y) CW) (N:∀y:Wy,G6u P w K mg base (cw y) y.name):C6 P w K mg base 3 f fd Q21 (A5r K CC CB):=by
 refine F.ok2 C6y (fun vs H Q E h=>?_) (fun X cdv A outer s H vs Q E hX hr hx h=>?_)
 . obtain⟨p,dx,v1,v2,v3,v4,rfl,_⟩:=h
   rfl
 subst hX
 obtain⟨p,dx,v1,v2,v3,v4,rfl,hp,h⟩:=h
 obtain⟨y,hy⟩:∃y:Wy,∀z:Wy,v2= .str z.name ->z=y:=by
   by_cases q:∃z:Wy,v2= .str z.name
   . obtain⟨z,rfl⟩:=q
     exact⟨z,fun u e=>Wy.inj (V.str.inj e.symm)⟩
   . exact⟨.down,fun z e=>absurd ⟨z,e⟩ q⟩
 obtain⟨fN,fdN,mN,gN,bN⟩:=N y
 refine⟨_,(A4 (A0u (pv 0) (G5 dA dB hr hx (A0 (pv 1) (A0 A2 (A0 A2 A3)))) rfl) (A4 (A0u (pv 0) (A2p (G5 dC dD hr hx (A0 (pv 2) A3)) (W y).cl mN gN hr bN .nil hx) rfl) (A4 (A8 (A0u (pv 0) (A0h (C8 G2n (pv 3) C0f (B9 _)) (A1q A0m A2) (G5 dA dB hr hx (A0 (pv 3) (A0 (A1q A0m A2) (A0 A2 A3))))) rfl)) (A4 (A0u (pv 0) (G5 dA dB hr hx (A0 (pv 4) (A0 A2 (A0 A2 A3)))) rfl) (A4 (A0u (pv 0) (J9 A3) rfl) (A7 (A0u (pv 0) (J9 A3) rfl))))))),?_⟩
 have lz:∀(fs:List (Str×V)) (f:Str) (v:V) (n:Nat),fs.length<=n ->(Y7 f v fs).length<=n+1:=fun fs f v n h=>Nat.le_trans (A1t f v fs) (Nat.succ_le_succ h)
 have q0:(([]:List (Str×V))).length<=0:=Nat.le_refl _
 have z0:0<=sizeLine:=Nat.zero_le _
 rcases h with⟨r,y',l,m,rfl,r1,r2,rfl,hl,rfl,m1,m2,k⟩|⟨bad,k⟩
 . obtain rfl:=hy _ rfl
   refine⟨_,rfl,_,_,_,rfl,C7p,.inl ⟨⟨r,rfl,r1,r2⟩,?_⟩⟩
   refine⟨_,rfl,p,CC,dx,[],rfl,hp,C.cl,C.n_room,by show 0<1000;decide,?_⟩
   refine⟨_,rfl,_,rfl,.inl ⟨_,rfl,fun q dq H2 nq s2 eq=>⟨q,dq,[],rfl,eq,rfl,_,rfl,?_⟩⟩⟩
   have hp2:=s2 _ _ (A6 (H:=H) (a:=p) (o:= .ins CC dx (Y7 "room" (.int r) [])))
   have x2:Exc p H H2:=(Exc.upd (H:=H) (o:= .ins CC dx (Y7 "room" (.int r) []))).trans (.of s2)
   refine⟨_,rfl,p,CC,dx,_,rfl,hp2,C.cl,C.n_rule,Nat.lt_of_le_of_lt (lz _ _ _ 0 q0) (by decide),?_⟩
   let I_:L2.St ->L2.Hp ->Prop:=fun σ' H'=>σ'=[sr p,si r,sR y'.name,some v3,si m]/\Exc p H H'/\H' p=some (.ins CC dx (Y7 "least" (.int l) (Y7 "rule" (.str y'.name) (Y7 "room" (.int r) []))))
   refine⟨I_,?_,?_⟩
   . refine⟨_,rfl,rfl,_,rfl,?_⟩
     rcases hl with⟨rfl,rfl⟩|⟨rfl,l1,l2⟩
     . refine A0c rfl ⟨_,rfl,?_⟩
       exact⟨_,rfl,p,CC,dx,_,rfl,A6,C.cl,C.n_least,Nat.lt_of_le_of_lt (lz _ _ _ 1 (lz _ _ _ 0 q0)) (by decide),rfl,(x2.trans Exc.upd).trans Exc.upd,A6⟩
     . refine G6 (by intro z;cases z) ⟨_,rfl,_,rfl,_,_,_,rfl,C1k,.inl ⟨⟨l,rfl,l1,l2⟩,?_⟩⟩
       exact⟨_,rfl,p,CC,dx,_,rfl,A6,C.cl,C.n_least,Nat.lt_of_le_of_lt (lz _ _ _ 1 (lz _ _ _ 0 q0)) (by decide),rfl,(x2.trans Exc.upd).trans Exc.upd,A6⟩
   refine L2.hideG fun Z_ z_=>?_
   rintro σ' H4 ⟨rfl,x4,hp4⟩
   subst z_
   clear I_
   refine⟨_,rfl,_,_,_,rfl,D0t,.inl ⟨⟨m,rfl,m1,m2⟩,?_⟩⟩
   refine⟨_,rfl,p,CC,dx,_,rfl,hp4,C.cl,C.n_most,Nat.lt_of_le_of_lt (lz _ _ _ 2 (lz _ _ _ 1 (lz _ _ _ 0 q0))) (by decide),?_⟩
   refine⟨z0,fun a na=>?_⟩
   refine⟨_,rfl,p,CC,dx,_,rfl,B5.upd na _ _ A6,C.cl,C.n_risen,Nat.lt_of_le_of_lt (lz _ _ _ 3 (lz _ _ _ 2 (lz _ _ _ 1 (lz _ _ _ 0 q0)))) (by decide),?_⟩
   refine⟨z0,fun b nb=>?_⟩
   refine⟨_,rfl,p,CC,dx,_,rfl,B5.upd nb _ _ A6,C.cl,C.n_trapped,Nat.lt_of_le_of_lt (lz _ _ _ 4 (lz _ _ _ 3 (lz _ _ _ 2 (lz _ _ _ 1 (lz _ _ _ 0 q0))))) (by decide),?_⟩
   have x5:=x4.trans (Exc.upd (H:=H4) (o:= .ins CC dx (Y7 "most" (.int m) (Y7 "least" (.int l) (Y7 "rule" (.str y'.name) (Y7 "room" (.int r) []))))))
   have nap:a≠p:=fun e=>by rw[e,A6] at na;cases na
   have nbp:b≠p:=fun e=>by rw[e,A6] at nb;cases nb
   have x6:=(x5.trans (.of (B5.upd (o:= .lst []) na))).trans (Exc.upd (o:= .ins CC dx (Y7 "risen" (.ref a) (Y7 "most" (.int m) (Y7 "least" (.int l) (Y7 "rule" (.str y'.name) (Y7 "room" (.int r) [])))))))
   have x7:=(x6.trans (.of (B5.upd (o:= .lst []) nb))).trans (Exc.upd (o:= .ins CC dx (A1s (.int r) (.str y'.name) (.int l) (.int m) (.ref a) (.ref b))))
   refine k a b _ x7 (x5.none A6 na) (x6.none A6 nb) ⟨⟨dx,A6⟩,?_,?_⟩
   . rw[C9 nap]
     refine B5.upd nb _ _ ?_
     rw[C9 nap]
     exact A6
   . rw[C9 nbp]
     exact A6
 rcases bad with b1|⟨⟨r,rfl,r1,r2⟩,bad⟩
 . exact⟨_,rfl,_,_,_,rfl,C7p,.inr ⟨b1 _ (Exc.refl p H),k _ (Exc.refl p H)⟩⟩
 refine⟨_,rfl,_,_,_,rfl,C7p,.inl ⟨⟨r,rfl,r1,r2⟩,?_⟩⟩
 refine⟨_,rfl,p,CC,dx,[],rfl,hp,C.cl,C.n_room,by show 0<1000;decide,?_⟩
 have x1:Exc p H (upd H p (.ins CC dx (Y7 "room" (.int r) []))):=Exc.upd
 rcases bad with b2|⟨⟨y',rfl⟩,bad⟩
 . exact⟨_,rfl,_,rfl,.inr ⟨b2 _ x1,k _ x1⟩⟩
 obtain rfl:=hy _ rfl
 refine⟨_,rfl,_,rfl,.inl ⟨_,rfl,fun q dq H2 nq s2 eq=>⟨q,dq,[],rfl,eq,rfl,_,rfl,?_⟩⟩⟩
 have hp2:=s2 _ _ (A6 (H:=H) (a:=p) (o:= .ins CC dx (Y7 "room" (.int r) [])))
 have x2:Exc p H H2:=x1.trans (.of s2)
 refine⟨_,rfl,p,CC,dx,_,rfl,hp2,C.cl,C.n_rule,Nat.lt_of_le_of_lt (lz _ _ _ 0 q0) (by decide),?_⟩
 rcases bad with⟨n3,b3⟩|⟨⟨l,hl⟩,b4⟩
 . refine⟨fun _ _=>False,?_,fun _ _ z=>z.elim⟩
   refine⟨_,rfl,rfl,_,rfl,G6 n3 ?_⟩
   exact⟨_,rfl,_,rfl,_,_,_,rfl,C1k,.inr ⟨b3 _ (x2.trans Exc.upd),k _ (x2.trans Exc.upd)⟩⟩
 let I_:L2.St ->L2.Hp ->Prop:=fun σ' H'=>σ'=[sr p,si r,sR y'.name,some v3,some v4]/\Exc p H H'
 refine⟨I_,?_,?_⟩
 . refine⟨_,rfl,rfl,_,rfl,?_⟩
   rcases hl with⟨rfl,rfl⟩|⟨rfl,l1,l2⟩
   . refine A0c rfl ⟨_,rfl,?_⟩
     exact⟨_,rfl,p,CC,dx,_,rfl,A6,C.cl,C.n_least,Nat.lt_of_le_of_lt (lz _ _ _ 1 (lz _ _ _ 0 q0)) (by decide),rfl,(x2.trans Exc.upd).trans Exc.upd⟩
   . refine G6 (by intro z;cases z) ⟨_,rfl,_,rfl,_,_,_,rfl,C1k,.inl ⟨⟨l,rfl,l1,l2⟩,?_⟩⟩
     exact⟨_,rfl,p,CC,dx,_,rfl,A6,C.cl,C.n_least,Nat.lt_of_le_of_lt (lz _ _ _ 1 (lz _ _ _ 0 q0)) (by decide),rfl,(x2.trans Exc.upd).trans Exc.upd⟩
 rintro σ' H4 ⟨rfl,x4⟩
 clear I_
 exact⟨_,rfl,_,_,_,rfl,D0t,.inr ⟨b4 _ x4,k _ x4⟩⟩
noncomputable def B1k (CC:Addr) (cw:Wy ->Addr):Sp:=fun vs H Q _=>∃c r y l m a b xs ys,vs=[.ref c]/\A0e CC H c r y l m a b xs ys/\∀p dx H',H p=none ->B5 H H' ->H' p=some (.ins (cw y) dx []) ->Q (.ref p) H'
theorem C9q:B8 ["self"] ["self"] (A5 B6a):=scK
theorem C4n{f fW CC CB:Addr}{cw:Wy ->Addr}{fd fdW:FuncData}(F:Fun K "way" "Context.way" B6a f fd)(dA:Def K mg "way_of" ["name"] B1e fW fdW)(dB:C6 P w K mg base 1 fW fdW ["name"] (B5e K CB cw))(C:B2t K mg CC):
   C6 P w K mg base 2 f fd ["self"] (B1k CC cw):=by
 refine F.ok2 C9q (fun vs H Q E h=>?_) (fun X cdv A outer s H vs Q E hX hr hx h=>?_)
 . obtain⟨c,r,y,l,m,a,b,xs,ys,rfl,_⟩:=h
   rfl
 subst hX
 obtain⟨c,r,y,l,m,a,b,xs,ys,rfl,⟨⟨dx,e⟩,_,_⟩,k⟩:=h
 refine⟨_,(A7 (B7 (G5 dA dB hr hx (A0 (U6 (pv 0) rfl) A3)))),?_⟩
 exact⟨_,rfl,c,CC,dx,_,_,rfl,e,C.cl,C.n_rule,C8n _ _ _ _ _ _,_,rfl,.inl ⟨y,rfl,k⟩⟩
noncomputable def B2q (CC:Addr):Sp:=fun vs H Q _=>∃c r y l m a b xs ys,vs=[.ref c]/\A0e CC H c r y l m a b xs ys/\Q (.int (l-r+1)) H
theorem D0n:B8 ["self"] ["self"] (A5 B6t):=scK
theorem C4k{f CC:Addr}(F:Fun K "lowest" "Context.lowest" B6t f fd)(C:B2t K mg CC):C6 P w K mg base 1 f fd ["self"] (B2q CC):=by
 refine F.ok2 D0n (fun vs H Q E h=>?_) (fun X cdv A outer s H vs Q E hX hr hx h=>?_)
 . obtain⟨c,r,y,l,m,a,b,xs,ys,rfl,_⟩:=h
   rfl
 subst hX
 obtain⟨c,r,y,l,m,a,b,xs,ys,rfl,⟨⟨dx,e⟩,_,_⟩,k⟩:=h
 refine⟨_,(A7 (B7 (A9 U7 (A9 V3 (U6 (pv 0) rfl) (U6 (pv 0) rfl)) A2))),?_⟩
 exact⟨_,rfl,c,CC,dx,_,_,rfl,e,C.cl,C.n_least,B3s _ _ _ _ _ _,_,rfl,c,CC,dx,_,_,rfl,e,C.cl,C.n_room,A4z _ _ _ _ _ _,_,_,rfl,rfl,_,_,rfl,rfl,k⟩
noncomputable def A3s (CC:Addr):Sp:=fun vs H Q _=>∃c r y l m a b xs ys,vs=[.ref c]/\A0e CC H c r y l m a b xs ys/\∀p,H p=none ->Q (.ref p) (upd H p (.lst xs))
theorem B9z:B8 ["self"] ["self"] (A5 A8h):=scK
theorem B8f{f CC:Addr}(F:Fun K "flags" "Context.flags" A8h f fd)(C:B2t K mg CC)(O:Own mg):C6 P w K mg base 1 f fd ["self"] (A3s CC):=by
 refine F.ok2 B9z (fun vs H Q E h=>?_) (fun X cdv A outer s H vs Q E hX hr hx h=>?_)
 . obtain⟨c,r,y,l,m,a,b,xs,ys,rfl,_⟩:=h
   rfl
 subst hX
 obtain⟨c,r,y,l,m,a,b,xs,ys,rfl,⟨⟨dx,e⟩,ha,_⟩,k⟩:=h
 refine⟨_,(A7 (B7 (V5 A3u (by rfl) O.list_ boot_list (A0 (U6 (pv 0) rfl) A3)))),?_⟩
 exact⟨_,rfl,c,CC,dx,_,_,rfl,e,C.cl,C.n_risen,B4t _ _ _ _ _ _,a,xs,rfl,.inl (SqL.of ha),k⟩
structure G8v(P:Program)(w:World)(K:Frag)(mg:Str ->Option Value)(base:Heap)(CC CB fI:Addr)(fdI:FuncData):Prop where
 m:Mk K CC fI
 g:C6 P w K mg base 3 fI fdI Q21 (A5r K CC CB)
theorem D7b{C x dx:Addr}{H H':Hp}(n1:H x=none)(n2:H dx=none)(ne:dx≠x)(e:Exc x (upd (upd H dx (.own x)) x (.ins C dx [])) H'):B5 H H':=fun b o h=>
 e b o (by rw[C9 (D8 h n1),C9 (D8 h n2)];exact h) (D8 h n1)
noncomputable abbrev B1r:Stmt:=(J1 (top 58) 5)
noncomputable abbrev A6e:Stmt:=(J1 (top 58) 7)
theorem B1s(r s l m a b:V):(A1s r s l m a b).length=6:=rfl
theorem B5y(r s l m a b v:V):Y7 "trapped" v (A1s r s l m a b)=A1s r s l m a v:=rfl
theorem B0h(r s l m a b v:V):Y7 "risen" v (A1s r s l m a b)=A1s r s l m v b:=rfl
noncomputable def B5w (K:Frag) (CC CB:Addr):Sp:=fun vs H Q E=>∃c r y l m a b xs ys v,vs=[.ref c,v]/\A0e CC H c r y l m a b xs ys/\
 ((∃(p:Addr) (zs:List Str),v= .ref p/\H p=some (.lst (zs.map V.str))/\(∀z∈zs,z∈Y5)/\∀b' H',Exc c H H' ->H b'=none ->A0e CC H' c r y l m a b' xs ((Y0 zs).map V.str) ->Q .non H')\/(B9r K H v/\E (.ref CB) none H))
theorem G2b:B8 Q11 Q11 (A5 B1r):=scK
theorem D9s{f f1 f2 CC CB:Addr}(F:Fun K "trap" "Context.trap" B1r f fd)(dA:Def K mg "need_signals" ["names"] B1p f1 fd1)(dB:C6 P w K mg base 1 f1 fd1 ["names"] (B6f K CB))
   (dC:Def K mg "in_order" ["names"] B0t f2 fd2) (dD:C6 P w K mg base 1 f2 fd2 ["names"] (B5r K)) (C:B2t K mg CC):C6 P w K mg base 2 f fd Q11 (B5w K CC CB):=by
 refine F.ok2 G2b (fun vs H Q E h=>?_) (fun X cdv A outer s H vs Q E hX hr hx h=>?_)
 . obtain⟨c,r,y,l,m,a,b,xs,ys,v,rfl,_⟩:=h
   rfl
 subst hX
 obtain⟨c,r,y,l,m,a,b,xs,ys,v,rfl,⟨⟨dx,e⟩,ha,hb⟩,h⟩:=h
 refine⟨_,(A4 (Y6 (G5 dA dB hr hx (A0 (pv 1) A3))) (A7 (A0u (pv 0) (G5 dC dD hr hx (A0 (pv 1) A3)) rfl))),?_⟩
 rcases h with⟨p,zs,rfl,hp,hz,k⟩|⟨bad,k⟩
 . refine⟨_,rfl,_,rfl,.inl ⟨p,zs,rfl,hp,hz,?_⟩⟩
   refine⟨_,rfl,p,zs,rfl,SqL.of hp,fun b' H1 s1 n1 e1=>?_⟩
   refine⟨_,rfl,c,CC,dx,_,rfl,s1 _ _ e,C.cl,C.n_trapped,by rw[B1s];decide,?_⟩
   rw[B5y]
   have nac:a≠c:=U4 ha e (by intro z;cases z)
   have nbc:b'≠c:=U4 e1 (s1 _ _ e) (by intro z;cases z)
   exact k b' _ ((Exc.of s1).trans Exc.upd) n1 ⟨⟨dx,A6⟩,by rw[C9 nac];exact s1 _ _ ha,by rw[C9 nbc];exact e1⟩
 exact⟨_,rfl,_,rfl,.inr ⟨bad,k⟩⟩
noncomputable def hit (ys zs:List Str):Option Str:=ys.find? fun t=>zs.contains t
noncomputable def B1q (K:Frag) (CC CB CT:Addr):Sp:=fun vs H Q E=>∃c r y l m a b,∃(xs ys:List Str) (v:V),vs=[.ref c,v]/\A0e CC H c r y l m a b (xs.map V.str) (ys.map V.str)/\xs.length+100<=1000/\
 ((∃ (p:Addr) (zs:List Str),v= .ref p/\H p=some (.lst (zs.map V.str))/\zs.length<=100/\(∀z∈zs,z∈Y5)/\
     (hit ys zs=none ->∀a' H',Exc c H H' ->H a'=none ->A0e CC H' c r y l m a' b ((Y0 (xs++zs)).map V.str) (ys.map V.str) ->Q .non H')/\
     (∀t,hit ys zs=some t ->∀a' d H',Exc c H H' ->H a'=none ->A0e CC H' c r y l m a' b ((Y0 (xs++zs)).map V.str) (ys.map V.str) ->H d=none ->H' d=some (.xd [("signal",.str t)]) ->E (.ref CT) (some d) H'))\/
  (B9r K H v/\E (.ref CB) none H))
theorem scRaised:B8 ["self","names","name"] Q11 (A5 A6e):=scK
theorem C6x{f f1 f2 fX CC CB CT:Addr}{fd fd1 fd2 fdX:FuncData}(F:Fun K "raised" "Context.raised" A6e f fd)(dA:Def K mg "need_signals" ["names"] B1p f1 fd1)(dB:C6 P w K mg base 1 f1 fd1 ["names"] (B6f K CB))
   (dC:Def K mg "in_order" ["names"] B0t f2 fd2) (dD:C6 P w K mg base 1 f2 fd2 ["names"] (B5r K)) (C:B2t K mg CC)
   (gT:mg "Trapped"=some (.ref CT)) (XI:C1u K CT fX) (GX:G0 P w K mg base CX0 1 fX fdX Q35 (B0k CT "signal")) (BX:V9 K fdX Q35 []):C6 P w K mg base 3 f fd Q11 (B1q K CC CB CT):=by
 refine F.ok2 scRaised (fun vs H Q E h=>?_) (fun X cdv A outer s H vs Q E hX hr hx h=>?_)
 . obtain⟨c,r,y,l,m,a,b,xs,ys,v,rfl,_⟩:=h
   rfl
 subst hX
 obtain⟨c,r,y,l,m,a,b,xs,ys,v,rfl,⟨⟨dx,e⟩,ha,hb⟩,lx,h⟩:=h
 refine⟨_,(A4 (Y6 (G5 dA dB hr hx (A0 (pv 1) A3))) (A4 (A0u (pv 0) (G5 dC dD hr hx (A0 (A9 B1d (U6 (pv 0) rfl) (pv 1)) A3)) rfl) (A7 (C3j PassesOwn.leaving hx.hd (B9b (U6 (pv 0) rfl)) (D0 (i:=2) scRaised.nd rfl (Or.inl rfl)) (A7 (U0 (C8 A8g (pv 2) (pv 1) (by rfl)) (A7 (C0a gT XI GX BX hr hx (A0 (pv 2) A3))) D7)))))),?_⟩
 rcases h with⟨p,zs,rfl,hp,lz,hz,k1,k2⟩|⟨bad,k⟩
 . refine⟨_,rfl,_,rfl,.inl ⟨p,zs,rfl,hp,hz,?_⟩⟩
   refine⟨_,rfl,c,CC,dx,_,_,rfl,e,C.cl,C.n_risen,B4t _ _ _ _ _ _,_,rfl,a,p,_,_,rfl,rfl,ha,hp,D3 (by rw[List.length_map,List.length_map];omega),fun q nq=>?_⟩
   have u1:=B5.upd (o:= .lst (xs.map V.str++zs.map V.str)) nq
   refine⟨q,xs++zs,rfl,SqL.of (by rw[A6,List.map_append]),fun a' H1 s1 n1 e1=>?_⟩
   have s2:=u1.trans s1
   refine⟨_,rfl,c,CC,dx,_,rfl,s2 _ _ e,C.cl,C.n_risen,by rw[B1s];decide,?_⟩
   rw[B0h]
   have nbc:b≠c:=U4 hb e (by intro z;cases z)
   have npc:p≠c:=U4 hp e (by intro z;cases z)
   have nac:a'≠c:=U4 e1 (s2 _ _ e) (by intro z;cases z)
   have x2:Exc c H (upd H1 c (.ins CC dx (A1s (.int r) (.str y.name) (.int l) (.int m) (.ref a') (.ref b)))):=(Exc.of s2).trans Exc.upd
   have hb2:(upd H1 c (.ins CC dx (A1s (.int r) (.str y.name) (.int l) (.int m) (.ref a') (.ref b)))) b=some (.lst (ys.map V.str)):=by rw[C9 nbc];exact s2 _ _ hb
   have hp2:(upd H1 c (.ins CC dx (A1s (.int r) (.str y.name) (.int l) (.int m) (.ref a') (.ref b)))) p=some (.lst (zs.map V.str)):=by rw[C9 npc];exact s2 _ _ hp
   have ct:A0e CC (upd H1 c (.ins CC dx (A1s (.int r) (.str y.name) (.int l) (.int m) (.ref a') (.ref b)))) c r y l m a' b ((Y0 (xs++zs)).map V.str) (ys.map V.str):=⟨⟨dx,A6⟩,by rw[C9 nac];exact e1,hb2⟩
   refine⟨_,rfl,c,CC,dx,_,_,rfl,A6,C.cl,C.n_trapped,B7x _ _ _ _ _ _,b,rfl,⟨_,SqL.of hb2⟩,?_⟩
   generalize upd H1 c (.ins CC dx (A1s (.int r) (.str y.name) (.int l) (.int m) (.ref a') (.ref b)))=H3 at x2 hb2 hp2 ct ⊢
   refine A7h (xs:=ys.map V.str) (fun i σ H'=>H'=H3/\(∀t∈ys.take i,zs.contains t=false)/\∃v,σ=[sr c,sr p,v]) ⟨rfl,by simp,none,rfl⟩ ?_ ?_ ?_
   . rintro i σ H' _ ⟨rfl,_⟩
     exact SqL.of hb2
   . rintro i x σ H' hi ⟨rfl,ht,v,rfl⟩
     rw[List.getElem?_map] at hi
     obtain⟨t,hti,rfl⟩:=Option.map_eq_some_iff.mp hi
     refine⟨_,rfl,_,rfl,p,_,rfl,.inl (SqL.of hp2),rfl,A0z _,_,rfl,?_⟩
     have hlt:i<ys.length:=(List.getElem?_eq_some_iff.mp hti).1
     have et:ys.take (i+1)=ys.take i++ [t]:=by
       rw[List.take_succ_eq_append_getElem hlt,(List.getElem?_eq_some_iff.mp hti).2]
     cases hc:zs.contains t with
     | false=>
       rw[show(if false=true then !inV (V.str t) (zs.map V.str) else inV (V.str t) (zs.map V.str))=false by rw[if_neg Bool.false_ne_true,A1y,hc]]
       refine Y1 ⟨rfl,fun t' h'=>?_,_,rfl⟩
       rw[et] at h'
       rcases List.mem_append.mp h' with h'|h'
       . exact ht t' h'
       . rw[List.mem_singleton.mp h'];exact hc
     | true=>
       rw[show(if false=true then !inV (V.str t) (zs.map V.str) else inV (V.str t) (zs.map V.str))=true by rw[if_neg Bool.false_ne_true,A1y,hc]]
       obtain⟨dx',hc3⟩:=ct.ins
       refine Z3 ⟨_,rfl,_,rfl,fun d H4 s4 nd e4=>?_⟩
       refine k2 t ?_ a' d H4 (x2.trans (.of s4)) ((u1.free n1)) (ct.same s4) (x2.none hc3 nd) e4
       unfold hit
       rw[List.find?_eq_some_iff_append]
       refine⟨hc,ys.take i,ys.drop (i+1),?_,fun t' h'=>by rw[ht t' h'];rfl⟩
       have:=List.take_append_drop (i+1) ys
       rw[et] at this
       rw[List.append_assoc] at this
       exact this.symm
   . rintro σ H' ⟨rfl,ht,v,rfl⟩
     refine k1 ?_ a' _ x2 (u1.free n1) ct
     unfold hit
     rw[List.find?_eq_none]
     rw[List.length_map,List.take_length] at ht
     intro t hm
     rw[ht t hm]
     exact Bool.false_ne_true
 exact⟨_,rfl,_,rfl,.inr ⟨bad,k⟩⟩
noncomputable abbrev A5h:Stmt:=(J1 (top 15) 0)
theorem C9a:B8 Q35 Q35 (A5 A5h):=scK
theorem C6s{f CT fI:Addr}(F:Fun K "__init__" "Trapped.__init__" A5h f fd)(XI:C1u K CT fI)(hn:findIn K (.ref CT) "signal"=some none):G0 P w K mg base CX0 1 f fd Q35 (B0k CT "signal"):=by
 refine F.ok C9a (fun vs H Q E h=>?_) (fun cdv A outer s H vs Q E hr h=>?_)
 . obtain⟨e,t,v,rfl,_⟩:=h
   rfl
 obtain⟨e,t,v,rfl,he,k⟩:=h
 refine⟨_,(A7 (D9n XI hn (pv 0) (pv 1) rfl)),?_⟩
 exact⟨_,rfl,_,rfl,e,t,rfl,he,fun d nd ne=>k d nd ne⟩
noncomputable def Wy.goes (y:Wy) (s last part:Int):Bool:=match y with
 | .down=>false
 | .up=>true
 | .floor=>decide (V.int s=V.int 1)
 | .ceiling=>decide (V.int s=V.int 0)
 | .halfUp=>decide (part>=2)
 | .halfDown=>decide (V.int part=V.int 3)
 | .halfEven=>if decide (V.int part=V.int 3)=true then true else if decide (V.int part=V.int 2)=true then decide (V.int (last % 2)=V.int 1) else false
 | .fiveUp=>inV (.int last) [.int 0,.int 5]
noncomputable def Wy.toEnd (y:Wy) (s:Int):Bool:=match y with
 | .down=>false
 | .up=>true
 | .floor=>decide (V.int s=V.int 1)
 | .ceiling=>decide (V.int s=V.int 0)
 | .halfUp=>true
 | .halfDown=>true
 | .halfEven=>true
 | .fiveUp=>false
noncomputable def A3h (y:Wy):Sp:=fun vs H Q _=>∃p s l t,vs=[.ref p,.int s,.int l,.int t]/\∀H',B5 H H' ->Q (.bl (y.goes s l t)) H'
noncomputable def A1z (y:Wy):Sp:=fun vs H Q _=>∃p s,vs=[.ref p,.int s]/\∀H',B5 H H' ->Q (.bl (y.toEnd s)) H'
noncomputable def G6g (P:Program) (w:World) (K:Frag) (mg:Str ->Option Value) (base:Heap) (C:Addr) (y:Wy):Prop:=A7q P w K mg base C "goes_up" 1 Q0 (A3h y)
noncomputable def G7x (P:Program) (w:World) (K:Frag) (mg:Str ->Option Value) (base:Heap) (C:Addr) (y:Wy):Prop:=A7q P w K mg base C "to_end" 1 Q3 (A1z y)
noncomputable abbrev sU0:Stmt:=(J1 (top 47) 1)
theorem J0m:B8 Q0 Q0 (A5 sU0):=scK
theorem G8d(F:Fun K "goes_up" "Down.goes_up" sU0 f fd):C6 P w K mg base 1 f fd Q0 (A3h .down):=by
 refine F.ok2 J0m (fun vs H Q E h=>?_) (fun X cdv A outer s H vs Q E hX hr hx h=>?_)
 . obtain⟨p,z,l,t,rfl,_⟩:=h
   rfl
 subst hX
 obtain⟨p,z,l,t,rfl,k⟩:=h
 refine⟨_,(A7 (B7 A0v)),?_⟩
 exact k H (B5.refl H)
noncomputable abbrev sT0:Stmt:=(J1 (top 47) 2)
theorem J0p:B8 Q3 Q3 (A5 sT0):=scK
theorem G7c(F:Fun K "to_end" "Down.to_end" sT0 f fd):C6 P w K mg base 1 f fd Q3 (A1z .down):=by
 refine F.ok2 J0p (fun vs H Q E h=>?_) (fun X cdv A outer s H vs Q E hX hr hx h=>?_)
 . obtain⟨p,z,rfl,_⟩:=h
   rfl
 subst hX
 obtain⟨p,z,rfl,k⟩:=h
 refine⟨_,(A7 (B7 A0v)),?_⟩
 exact k H (B5.refl H)
noncomputable abbrev sU1:Stmt:=(J1 (top 48) 1)
theorem J0v:B8 Q0 Q0 (A5 sU1):=scK
theorem G5u(F:Fun K "goes_up" "Up.goes_up" sU1 f fd):C6 P w K mg base 1 f fd Q0 (A3h .up):=by
 refine F.ok2 J0v (fun vs H Q E h=>?_) (fun X cdv A outer s H vs Q E hX hr hx h=>?_)
 . obtain⟨p,z,l,t,rfl,_⟩:=h
   rfl
 subst hX
 obtain⟨p,z,l,t,rfl,k⟩:=h
 refine⟨_,(A7 (B7 A0v)),?_⟩
 exact k H (B5.refl H)
noncomputable abbrev sT1:Stmt:=(J1 (top 48) 2)
theorem J0j:B8 Q3 Q3 (A5 sT1):=scK
theorem G7w(F:Fun K "to_end" "Up.to_end" sT1 f fd):C6 P w K mg base 1 f fd Q3 (A1z .up):=by
 refine F.ok2 J0j (fun vs H Q E h=>?_) (fun X cdv A outer s H vs Q E hX hr hx h=>?_)
 . obtain⟨p,z,rfl,_⟩:=h
   rfl
 subst hX
 obtain⟨p,z,rfl,k⟩:=h
 refine⟨_,(A7 (B7 A0v)),?_⟩
 exact k H (B5.refl H)
noncomputable abbrev sU2:Stmt:=(J1 (top 49) 1)
theorem J2f:B8 Q0 Q0 (A5 sU2):=scK
theorem G8a(F:Fun K "goes_up" "Floor.goes_up" sU2 f fd):C6 P w K mg base 1 f fd Q0 (A3h .floor):=by
 refine F.ok2 J2f (fun vs H Q E h=>?_) (fun X cdv A outer s H vs Q E hX hr hx h=>?_)
 . obtain⟨p,z,l,t,rfl,_⟩:=h
   rfl
 subst hX
 obtain⟨p,z,l,t,rfl,k⟩:=h
 refine⟨_,(A7 (B7 (D9 G4 (pv 1) A2 (B9 _)))),?_⟩
 exact⟨_,rfl,rfl,k H (B5.refl H)⟩
noncomputable abbrev sT2:Stmt:=(J1 (top 49) 2)
theorem J0w:B8 Q3 Q3 (A5 sT2):=scK
theorem G7a(F:Fun K "to_end" "Floor.to_end" sT2 f fd):C6 P w K mg base 1 f fd Q3 (A1z .floor):=by
 refine F.ok2 J0w (fun vs H Q E h=>?_) (fun X cdv A outer s H vs Q E hX hr hx h=>?_)
 . obtain⟨p,z,rfl,_⟩:=h
   rfl
 subst hX
 obtain⟨p,z,rfl,k⟩:=h
 refine⟨_,(A7 (B7 (D9 G4 (pv 1) A2 (B9 _)))),?_⟩
 exact⟨_,rfl,rfl,k H (B5.refl H)⟩
noncomputable abbrev sU3:Stmt:=(J1 (top 50) 1)
theorem J0g:B8 Q0 Q0 (A5 sU3):=scK
theorem G6h(F:Fun K "goes_up" "Ceiling.goes_up" sU3 f fd):C6 P w K mg base 1 f fd Q0 (A3h .ceiling):=by
 refine F.ok2 J0g (fun vs H Q E h=>?_) (fun X cdv A outer s H vs Q E hX hr hx h=>?_)
 . obtain⟨p,z,l,t,rfl,_⟩:=h
   rfl
 subst hX
 obtain⟨p,z,l,t,rfl,k⟩:=h
 refine⟨_,(A7 (B7 (D9 G4 (pv 1) A2 (B9 _)))),?_⟩
 exact⟨_,rfl,rfl,k H (B5.refl H)⟩
noncomputable abbrev sT3:Stmt:=(J1 (top 50) 2)
theorem J1r:B8 Q3 Q3 (A5 sT3):=scK
theorem G8j(F:Fun K "to_end" "Ceiling.to_end" sT3 f fd):C6 P w K mg base 1 f fd Q3 (A1z .ceiling):=by
 refine F.ok2 J1r (fun vs H Q E h=>?_) (fun X cdv A outer s H vs Q E hX hr hx h=>?_)
 . obtain⟨p,z,rfl,_⟩:=h
   rfl
 subst hX
 obtain⟨p,z,rfl,k⟩:=h
 refine⟨_,(A7 (B7 (D9 G4 (pv 1) A2 (B9 _)))),?_⟩
 exact⟨_,rfl,rfl,k H (B5.refl H)⟩
noncomputable abbrev sU4:Stmt:=(J1 (top 51) 1)
theorem J1c:B8 Q0 Q0 (A5 sU4):=scK
theorem G7m(F:Fun K "goes_up" "HalfUp.goes_up" sU4 f fd):C6 P w K mg base 1 f fd Q0 (A3h .halfUp):=by
 refine F.ok2 J1c (fun vs H Q E h=>?_) (fun X cdv A outer s H vs Q E hX hr hx h=>?_)
 . obtain⟨p,z,l,t,rfl,_⟩:=h
   rfl
 subst hX
 obtain⟨p,z,l,t,rfl,k⟩:=h
 refine⟨_,(A7 (B7 (D9 C3q (pv 3) A2 (B9 _)))),?_⟩
 exact⟨_,rfl,_,_,rfl,rfl,k H (B5.refl H)⟩
noncomputable abbrev sT4:Stmt:=(J1 (top 51) 2)
theorem J0x:B8 Q3 Q3 (A5 sT4):=scK
theorem G6e(F:Fun K "to_end" "HalfUp.to_end" sT4 f fd):C6 P w K mg base 1 f fd Q3 (A1z .halfUp):=by
 refine F.ok2 J0x (fun vs H Q E h=>?_) (fun X cdv A outer s H vs Q E hX hr hx h=>?_)
 . obtain⟨p,z,rfl,_⟩:=h
   rfl
 subst hX
 obtain⟨p,z,rfl,k⟩:=h
 refine⟨_,(A7 (B7 A0v)),?_⟩
 exact k H (B5.refl H)
noncomputable abbrev sU5:Stmt:=(J1 (top 52) 1)
theorem J2g:B8 Q0 Q0 (A5 sU5):=scK
theorem G8c(F:Fun K "goes_up" "HalfDown.goes_up" sU5 f fd):C6 P w K mg base 1 f fd Q0 (A3h .halfDown):=by
 refine F.ok2 J2g (fun vs H Q E h=>?_) (fun X cdv A outer s H vs Q E hX hr hx h=>?_)
 . obtain⟨p,z,l,t,rfl,_⟩:=h
   rfl
 subst hX
 obtain⟨p,z,l,t,rfl,k⟩:=h
 refine⟨_,(A7 (B7 (D9 G4 (pv 3) A2 (B9 _)))),?_⟩
 exact⟨_,rfl,rfl,k H (B5.refl H)⟩
noncomputable abbrev sT5:Stmt:=(J1 (top 52) 2)
theorem J1m:B8 Q3 Q3 (A5 sT5):=scK
theorem G8g(F:Fun K "to_end" "HalfDown.to_end" sT5 f fd):C6 P w K mg base 1 f fd Q3 (A1z .halfDown):=by
 refine F.ok2 J1m (fun vs H Q E h=>?_) (fun X cdv A outer s H vs Q E hX hr hx h=>?_)
 . obtain⟨p,z,rfl,_⟩:=h
   rfl
 subst hX
 obtain⟨p,z,rfl,k⟩:=h
 refine⟨_,(A7 (B7 A0v)),?_⟩
 exact k H (B5.refl H)
noncomputable abbrev sU6:Stmt:=(J1 (top 53) 1)
theorem J2a:B8 Q0 Q0 (A5 sU6):=scK
theorem G7y(F:Fun K "goes_up" "HalfEven.goes_up" sU6 f fd):C6 P w K mg base 1 f fd Q0 (A3h .halfEven):=by
 refine F.ok2 J2a (fun vs H Q E h=>?_) (fun X cdv A outer s H vs Q E hX hr hx h=>?_)
 . obtain⟨p,z,l,t,rfl,_⟩:=h
   rfl
 subst hX
 obtain⟨p,z,l,t,rfl,k⟩:=h
 refine⟨_,(A7 (B7 (B3j (D9 G4 (pv 3) A2 (B9 _)) (Z6 (Z4 (D9 G4 (pv 3) A2 (B9 _)) (Z6 (D9 G4 (A9 U3 (pv 2) A2) A2 (B9 _)))))))),?_⟩
 have k:=k H (B5.refl H)
 unfold Wy.goes at k
 refine⟨_,rfl,rfl,_,rfl,?_⟩
 cases e:decide (V.int t=V.int 3) with
 |true=>rw[e] at k;exact Z3 k
 | false=>
   rw[e] at k
   refine Y1 ⟨_,rfl,rfl,_,rfl,?_⟩
   cases e2:decide (V.int t=V.int 2) with
   |true=>rw[e2] at k;exact Z3 ⟨_,rfl,_,_,rfl,rfl,(by decide:(0:Int)<2),rfl,k⟩
   |false=>rw[e2] at k;exact Y1 k
noncomputable abbrev sT6:Stmt:=(J1 (top 53) 2)
theorem J1k:B8 Q3 Q3 (A5 sT6):=scK
theorem G5z(F:Fun K "to_end" "HalfEven.to_end" sT6 f fd):C6 P w K mg base 1 f fd Q3 (A1z .halfEven):=by
 refine F.ok2 J1k (fun vs H Q E h=>?_) (fun X cdv A outer s H vs Q E hX hr hx h=>?_)
 . obtain⟨p,z,rfl,_⟩:=h
   rfl
 subst hX
 obtain⟨p,z,rfl,k⟩:=h
 refine⟨_,(A7 (B7 A0v)),?_⟩
 exact k H (B5.refl H)
noncomputable abbrev sU7:Stmt:=(J1 (top 54) 1)
theorem J2b:B8 Q0 Q0 (A5 sU7):=scK
theorem G8r(F:Fun K "goes_up" "FiveUp.goes_up" sU7 f fd):C6 P w K mg base 1 f fd Q0 (A3h .fiveUp):=by
 refine F.ok2 J2b (fun vs H Q E h=>?_) (fun X cdv A outer s H vs Q E hX hr hx h=>?_)
 . obtain⟨p,z,l,t,rfl,_⟩:=h
   rfl
 subst hX
 obtain⟨p,z,l,t,rfl,k⟩:=h
 refine⟨_,(A7 (B7 (D9 A8g (pv 2) (V7 (A0 A2 (A0 A2 A3))) (by rfl)))),?_⟩
 exact⟨_,rfl,D3 (by decide),fun q nq=>⟨q,_,rfl,.inr (SqT.of A6),rfl,rfl,k _ (B5.upd nq)⟩⟩
noncomputable abbrev sT7:Stmt:=(J1 (top 54) 2)
theorem J1h:B8 Q3 Q3 (A5 sT7):=scK
theorem G7s(F:Fun K "to_end" "FiveUp.to_end" sT7 f fd):C6 P w K mg base 1 f fd Q3 (A1z .fiveUp):=by
 refine F.ok2 J1h (fun vs H Q E h=>?_) (fun X cdv A outer s H vs Q E hX hr hx h=>?_)
 . obtain⟨p,z,rfl,_⟩:=h
   rfl
 subst hX
 obtain⟨p,z,rfl,k⟩:=h
 refine⟨_,(A7 (B7 A0v)),?_⟩
 exact k H (B5.refl H)
noncomputable abbrev B0g:Stmt:=(top 29)
noncomputable abbrev A7k:Stmt:=(top 30)
noncomputable abbrev A3p:Stmt:=(top 31)
noncomputable abbrev A9x:Stmt:=(top 32)
noncomputable abbrev A9u:Stmt:=(top 33)
noncomputable abbrev B5j:Stmt:=(top 34)
noncomputable abbrev B5f:Stmt:=(top 35)
noncomputable abbrev A7j:Stmt:=(top 36)
noncomputable abbrev A7n:Stmt:=(top 37)
noncomputable abbrev A6r:Stmt:=(top 38)
structure Cv where
 r:Int
 y:Wy
 l:Int
 m:Int
structure Cv.Ok(c:Cv):Prop where
 r1:1<=c.r
 r2:c.r<=24
 l1: -60<=c.l
 l2:c.l<=0
 m1:0<=c.m
 m2:c.m<=60
noncomputable def A5w (ideal:Int):Nat ->Int ->Int ->Int×Int
 |0,f,p=>(f,p)
 |n+1,f,p=>if f % 10=0 then A5w ideal n (f/10) (p+1) else(f,p)
noncomputable def A0a (ideal f p:Int):Int×Int:=A5w ideal (ideal-p).toNat f p
theorem B0n{ideal f p:Int}(h:p<ideal)(z:f % 10=0):A0a ideal f p=A0a ideal (f/10) (p+1):=by
 unfold A0a
 obtain⟨n,hn⟩:∃n,(ideal-p).toNat=n+1:=⟨(ideal-p).toNat-1,by omega⟩
 rw[hn,show(ideal-(p+1)).toNat=n by omega]
 show(if f % 10=0 then A5w ideal n (f/10) (p+1) else(f,p))=_
 rw[if_pos z]
theorem B1x{ideal f p:Int}(h:¬(p<ideal/\f % 10=0)):A0a ideal f p=(f,p):=by
 unfold A0a
 by_cases q:p<ideal
 . obtain⟨n,hn⟩:∃n,(ideal-p).toNat=n+1:=⟨(ideal-p).toNat-1,by omega⟩
   rw[hn]
   show(if f % 10=0 then A5w ideal n (f/10) (p+1) else(f,p))=_
   rw[if_neg fun z=>h ⟨q,z⟩]
 rw[show(ideal-p).toNat=0 by omega]
 rfl
noncomputable def A1f (f:Int):Int:=((Str.ofString (toString f)).length:Nat)
noncomputable def upI (y:Wy) (s wh pt:Int):Int:=if(if pt=0 then false else y.goes s (wh % 10) pt)=true then wh+1 else wh
noncomputable def A4u (r f q:Int):Int×Int:=if f=B0 r then(f/10,q+1) else(f,q)
noncomputable def A0d (c:Cv) (s wh pt q ideal:Int):Int×Int:=if pt=0 then A0a ideal wh q else A4u c.r (upI c.y s wh pt) q
noncomputable def A1c (m f p:Int):Bool:=if f=0 then false else decide (p+A1f f-1>m)
noncomputable def A8k (c:Cv) (s:Int):Nm:=if c.y.toEnd s=true then⟨.end_,s,0,0⟩ else⟨.plain,s,B0 c.r-1,c.m-c.r+1⟩
noncomputable def A0n (pt:Int) (cut:Bool):List Str:=if pt=0 then(if cut=true then ["cut"] else []) else ["off","cut"]
noncomputable def A0k (l L pt:Int):List Str:=if L>=l then [] else if pt=0 then ["faint"] else ["sunk","faint"]
noncomputable def A2n (c:Cv) (s wh pt L q ideal:Int):Nm×List Str:=
 if A1c c.m (A0d c s wh pt q ideal).1 (A0d c s wh pt q ideal).2=true then(A8k c s,Q36)
 else(⟨.plain,s,(A0d c s wh pt q ideal).1,(A0d c s wh pt q ideal).2⟩,A0n pt (decide ((A0d c s wh pt q ideal).2>ideal))++A0k c.l L pt)
noncomputable def A3k (a b:Int):Int:=if b>a then b else a
noncomputable def B3b (a b:Int):Int:=if b<a then b else a
noncomputable def Z7 (CC:Addr) (H:Hp) (c:Addr) (v:Cv) (a b:Addr) (xs ys:List Str):Prop:=A0e CC H c v.r v.y v.l v.m a b (xs.map V.str) (ys.map V.str)
theorem Z7.same{CC:Addr}{H H':Hp}{c:Addr}{v:Cv}{a b:Addr}{xs ys:List Str}(h:Z7 CC H c v a b xs ys)(e:B5 H H'):Z7 CC H' c v a b xs ys:=A0e.same h e
theorem B3q{CN:Addr}{H:Hp}{Q:VK}{E:XK}{k s f p:V}(h:∀n H',H n=none ->B5 H H' ->A2k CN H' n k s f p ->Q (.ref n) H'):
   ∀x dx,H x=none ->H dx=none ->dx≠x ->B5m CN (.ref x::([k,s,f,p]++ [])) (upd (upd H dx (.own x)) x (.ins CN dx [])) (fun v H2=>v= .non/\Q (.ref x) H2) E:=by
 intro x dx nx nd ne
 refine⟨x,dx,k,s,f,p,rfl,A6,fun H' e kp=>⟨rfl,h x H' nx (fun b o z=>?_) ⟨dx,e⟩⟩⟩
 refine kp b o ?_ (D8 z nx)
 rw[C9 (D8 z nx),C9 (D8 z nd)]
 exact z
structure A8q(P:Program)(w:World)(K:Frag)(mg:Str ->Option Value)(base:Heap)(CC CB CT CW:Addr)(cw:Wy ->Addr):Prop where
 c:B2t K mg CC
 way:A7q P w K mg base CC "way" 2 ["self"] (B1k CC cw)
 low:A7q P w K mg base CC "lowest" 1 ["self"] (B2q CC)
 raised:A7q P w K mg base CC "raised" 3 Q11 (B1q K CC CB CT)
 wc:∀y:Wy,A9m K mg y.cls (cw y) CW
 u:∀y:Wy,G6g P w K mg base (cw y) y
 e:∀y:Wy,G7x P w K mg base (cw y) y
noncomputable def B3k (CN:Addr):Sp:=fun vs H Q _=>∃i s f p:Int,vs=[.int i,.int s,.int f,.int p]/\∀n H',H n=none ->B5 H H' ->Y8 CN H' n ⟨.plain,s,(A0a i f p).1,(A0a i f p).2⟩ ->Q (.ref n) H'
theorem scNearest:B8 Q22 Q22 (A5 A7k):=scK
theorem B9j{f fI CN:Addr}{fd fdI:FuncData}(D:Def K mg "nearest_to" Q22 A7k f fd)(N:Num K mg CN)(M:A9h P w K mg base CN fI fdI):C6 P w K mg base 3 f fd Q22 (B3k CN):=by
 refine D.F.ok2 scNearest (fun vs H Q E h=>?_) (fun X cdv A outer s H vs Q E hX hr hx h=>?_)
 . obtain⟨i,s,f,p,rfl,_⟩:=h
   rfl
 subst hX
 obtain⟨i,sg,fg,pw,rfl,k⟩:=h
 refine⟨_,(A4 (A7f PassesOwn.leaving (PW.pt (A2y (C8 A3y (pv 3) (pv 0) (B9 _)) (A1n (C8 G4 (A9 U3 (pv 2) A2) A2 (B9 _))))) (A4 (D5 (i:=2) scNearest.nd rfl (Or.inl rfl) (A9 G9 (pv 2) A2)) (A7 (D5 (i:=3) scNearest.nd rfl (Or.inl rfl) (A9 U7 (pv 3) A2))))) (A7 (B7 (A2v M.m (C6.up M.g) hr N.g M.b .nil hx (A0 C7 (A0 (pv 1) (A0 (pv 2) (A0 (pv 3) A3)))))))),?_⟩
 have d10:(0:Int)<10/\(10:Int).natAbs.log2<9000:=⟨by decide,by decide+kernel⟩
 refine A6y (fun σ H2=>H2=H/\∃f p:Int,A0a i f p=A0a i fg pw/\σ=[si i,si sg,si f,si p]) (fun σ _=>match σ with| [_,_,_,some (.int p)]=>(i-p).toNat|_=>0) ?_ ?_ ?_
 . exact⟨rfl,fg,pw,rfl,rfl⟩
 . rintro σ H2 ⟨rfl,f,p,e,rfl⟩
   have stop:¬(p<i/\f % 10=0) ->∀n H',H2 n=none ->B5 H2 H' ->A2k CN H' n (.str "plain") (.int sg) (.int f) (.int p) ->Q (.ref n) H':=fun h n H' nn sm num=>by
     refine k n H' nn sm ?_
     rw[<-e,B1x h]
     exact num
   refine⟨_,rfl,_,rfl,_,_,rfl,rfl,_,rfl,U5 (fun h1=>?_) (fun h1=>Y1 ⟨_,rfl,_,rfl,_,rfl,B3q (stop fun q=>h1 q.1)⟩)⟩
   refine⟨_,rfl,_,_,rfl,rfl,d10.1,rfl,_,rfl,U5 (fun h2=>?_) (fun h2=>⟨_,rfl,_,rfl,_,rfl,B3q (stop fun q=>h2 (congrArg V.int q.2))⟩)⟩
   have h1:p<i:=h1
   have h2:f % 10=0:=by injection h2
   refine⟨_,rfl,_,_,rfl,rfl,d10,_,rfl,_,_,rfl,rfl,⟨rfl,f/10,p+1,(B0n h1 h2).symm.trans e,rfl⟩,?_⟩
   show(i-(p+1)).toNat<(i-p).toNat
   omega
 rintro σ H2 Q1 Q2 hQ ⟨v,e,v2,e2,a,b,e3,e4,c,e5,q⟩
 refine⟨v,e,v2,e2,a,b,e3,e4,c,e5,?_⟩
 cases c with
 |false=>exact Y1 (hQ _ _ (by simpa using q))
 | true=>
   have q:_:=q
   rw[if_pos rfl] at q ⊢
   obtain⟨v3,e6,a2,b2,e7,e8,e9,e10,e11,e12,q⟩:=q
   exact⟨v3,e6,a2,b2,e7,e8,e9,e10,e11,e12,hQ _ _ q⟩
noncomputable def A9e (CC:Addr):Sp:=fun vs H Q _=>∃c v a b xs ys p,∃s wh pt:Int,vs=[.ref c,.int s,.ref p]/\Z7 CC H c v a b xs ys/\H p=some (.tup [.int wh,.int pt])/\∀H',B5 H H' ->Q (.int (upI v.y s wh pt)) H'
theorem B7w:B8 Q23 Q23 (A5 A3p):=scK
theorem B6u{f CC CB CT CW:Addr}{cw:Wy ->Addr}(D:Def K mg "neighbour" Q23 A3p f fd)(C:A8q P w K mg base CC CB CT CW cw):C6 P w K mg base 3 f fd Q23 (A9e CC):=by
 refine D.F.ok2 B7w (fun vs H Q E h=>?_) (fun X cdv A outer s H vs Q E hX hr hx h=>?_)
 . obtain⟨c,v,a,b,xs,ys,p,sg,wh,pt,rfl,_⟩:=h
   rfl
 subst hX
 obtain⟨c,v,a,b,xs,ys,p,sg,wh,pt,rfl,hc,hp,k⟩:=h
 obtain⟨fW,fdW,mW,gW,bW⟩:=C.way
 obtain⟨fU,fdU,mU,gU,bU⟩:=C.u v.y
 refine⟨_,(A4 (U0 (PW.pt (A2y (C8 C3a (V8 A1h (pv 2) A2 (fun _ _=>rfl)) A2 (B9 _)) (A1n (Z5 (A4m (A2p (pv 0) C.c.cl mW gW hr bW .nil hx) (C.wc v.y).cl mU gU hr bU .nil hx (A0 (pv 1) (A0 (A9 U3 (V8 A1h (pv 2) A2 (fun _ _=>rfl)) A2) (A0 (V8 A1h (pv 2) A2 (fun _ _=>rfl)) A3)))))))) (A7 (B7 (A9 U7 (V8 A1h (pv 2) A2 (fun _ _=>rfl)) A2))) D7) (A7 (B7 (V8 A1h (pv 2) A2 (fun _ _=>rfl))))),?_⟩
 obtain⟨⟨dx,e⟩,_,_⟩:=id hc
 unfold upI at k
 refine⟨_,rfl,p,_,_,_,rfl,rfl,SqT.of hp,V6 (j:=1) rfl,rfl,_,rfl,?_⟩
 by_cases h0:pt=0
 . subst h0
   rw[if_pos rfl,if_neg Bool.false_ne_true] at k
   exact G0j rfl (Y1 ⟨_,rfl,p,_,_,_,rfl,rfl,SqT.of hp,V6 (j:=0) rfl,k H (B5.refl H)⟩)
 rw[if_neg h0] at k
 rw[decide_eq_false (fun q=>h0 (by injection q):¬V.int pt=V.int 0)]
 refine Z3 ⟨_,rfl,c,dx,_,rfl,e,B1y _ _ _ _ _ _,c,v.r,v.y,v.l,v.m,a,b,_,_,rfl,hc,fun q dq H1 nq s1 eq=>?_⟩
 refine⟨q,dq,_,rfl,eq,rfl,_,rfl,_,rfl,p,_,_,_,rfl,rfl,SqT.of (s1 _ _ hp),V6 (j:=0) rfl,_,_,rfl,rfl,(by decide:(0:Int)<10),_,rfl,p,_,_,_,rfl,rfl,SqT.of (s1 _ _ hp),V6 (j:=1) rfl,q,sg,wh % 10,pt,rfl,fun H2 s2=>⟨_,rfl,?_⟩⟩
 have s3:=s1.trans s2
 cases g:v.y.goes sg (wh % 10) pt with
 | true=>
   rw[g,if_pos rfl] at k
   exact Z3 ⟨_,rfl,p,_,_,_,rfl,rfl,SqT.of (s3 _ _ hp),V6 (j:=0) rfl,_,_,rfl,rfl,k H2 s3⟩
 | false=>
   rw[g,if_neg Bool.false_ne_true] at k
   exact Y1 ⟨_,rfl,p,_,_,_,rfl,rfl,SqT.of (s3 _ _ hp),V6 (j:=0) rfl,k H2 s3⟩
noncomputable def B8d (CN CC:Addr):Sp:=fun vs H Q _=>∃c v a b xs ys,∃s f q:Int,vs=[.ref c,.int s,.int f,.int q]/\Z7 CC H c v a b xs ys/\v.Ok/\∀n H',H n=none ->B5 H H' ->Y8 CN H' n ⟨.plain,s,(A4u v.r f q).1,(A4u v.r f q).2⟩ ->Q (.ref n) H'
theorem C9z:B8 Q24 Q24 (A5 A9x):=scK
theorem C5q{f f1 fI CN CC CB CT CW:Addr}{cw:Wy ->Addr}{fd fd1 fdI:FuncData}(D:Def K mg "within_room" Q24 A9x f fd)(dA:Def K mg "ten_to" ["count"] A6f f1 fd1)(dB:C6 P w K mg base 2 f1 fd1 ["count"] A6w)(C:A8q P w K mg base CC CB CT CW cw)(N:Num K mg CN)(M:A9h P w K mg base CN fI fdI):
   C6 P w K mg base 3 f fd Q24 (B8d CN CC):=by
 refine D.F.ok2 C9z (fun vs H Q E h=>?_) (fun X cdv A outer s H vs Q E hX hr hx h=>?_)
 . obtain⟨c,v,a,b,xs,ys,sg,f,q,rfl,_⟩:=h
   rfl
 subst hX
 obtain⟨c,v,a,b,xs,ys,sg,fg,q,rfl,hc,ok,k⟩:=h
 refine⟨_,(A4 (U0 (C8 G4 (pv 2) (G5 dA dB hr hx (A0 (U6 (pv 0) rfl) A3)) (B9 _)) (A7 (B7 (A2v M.m (C6.up M.g) hr N.g M.b .nil hx (A0 C7 (A0 (pv 1) (A0 (A9 G9 (pv 2) A2) (A0 (A9 U7 (pv 3) A2) A3))))))) D7) (A7 (B7 (A2v M.m (C6.up M.g) hr N.g M.b .nil hx (A0 C7 (A0 (pv 1) (A0 (pv 2) (A0 (pv 3) A3)))))))),?_⟩
 have d10:(0:Int)<10/\(10:Int).natAbs.log2<9000:=⟨by decide,by decide+kernel⟩
 obtain⟨⟨dx,e⟩,_,_⟩:=id hc
 have r1:=ok.r1;have r2:=ok.r2
 refine⟨_,rfl,_,rfl,c,CC,dx,_,_,rfl,e,C.c.cl,C.c.n_room,A4z _ _ _ _ _ _,v.r.toNat,(by rw[Int.toNat_of_nonneg (by omega)];rfl),by omega,rfl,_,rfl,?_⟩
 unfold A4u at k
 refine U5 (fun h=>?_) (fun h=>?_)
 . have h:fg=B0 v.r:=by injection h
   rw[if_pos h] at k
   exact⟨_,rfl,_,rfl,_,_,rfl,rfl,d10,_,rfl,_,_,rfl,rfl,B3q k⟩
 have h:¬fg=B0 v.r:=fun z=>h (congrArg V.int z)
 rw[if_neg h] at k
 exact⟨_,rfl,_,rfl,_,rfl,B3q k⟩
noncomputable def B8k (CN CC:Addr):Sp:=fun vs H Q _=>∃c v a b xs ys n x,vs=[.ref c,.ref n]/\Z7 CC H c v a b xs ys/\Y8 CN H n x/\x.f.natAbs<2^300/\Q (.bl (A1c v.m x.f x.p)) H
theorem D0e:B8 Q25 Q25 (A5 A9u):=scK
theorem C6u{f f1 CN CC CB CT CW:Addr}{cw:Wy ->Addr}(D:Def K mg "is_beyond" Q25 A9u f fd)(dA:Def K mg "lead_of" ["number"] C2a f1 fd1)(dB:C6 P w K mg base 1 f1 fd1 ["number"] (D0y CN))(C:A8q P w K mg base CC CB CT CW cw)(N:Num K mg CN):
   C6 P w K mg base 2 f fd Q25 (B8k CN CC):=by
 refine D.F.ok2 D0e (fun vs H Q E h=>?_) (fun X cdv A outer s H vs Q E hX hr hx h=>?_)
 . obtain⟨c,v,a,b,xs,ys,n,x,rfl,_⟩:=h
   rfl
 subst hX
 obtain⟨c,v,a,b,xs,ys,n,x,rfl,hc,hn,hf,k⟩:=h
 refine⟨_,(A7 (B7 (Z4 (D9 C3a (U6 (pv 1) rfl) A2 (B9 _)) (Z6 (D9 A2f (G5 dA dB hr hx (A0 (pv 1) A3)) (U6 (pv 0) rfl) (B9 _)))))),?_⟩
 obtain⟨⟨dx,e⟩,_,_⟩:=id hc
 obtain⟨dn,en⟩:=id hn
 unfold A1c at k
 refine⟨_,rfl,n,CN,dn,_,_,rfl,en,N.cl,N.n3,D0d _ _ _ _,rfl,_,rfl,?_⟩
 by_cases h0:x.f=0
 . rw[if_pos h0] at k
   rw[decide_eq_true (congrArg V.int h0)]
   exact Y1 k
 rw[if_neg h0] at k
 rw[decide_eq_false (fun q=>h0 (by injection q):¬V.int x.f=V.int 0)]
 exact Z3 ⟨_,rfl,n,_,_,_,_,rfl,hn,hf,_,rfl,c,CC,dx,_,_,rfl,e,C.c.cl,C.c.n_most,B1m _ _ _ _ _ _,_,_,rfl,rfl,k⟩
noncomputable def C2k (CN CC:Addr):Sp:=fun vs H Q _=>∃c v a b xs ys,∃s:Int,vs=[.ref c,.int s]/\Z7 CC H c v a b xs ys/\v.Ok/\∀n H',H n=none ->B5 H H' ->Y8 CN H' n ⟨.plain,s,B0 v.r-1,v.m-v.r+1⟩ ->Q (.ref n) H'
theorem D9d:B8 Q5 Q5 (A5 B5f):=scK
theorem C7v{f f1 fI CN CC CB CT CW:Addr}{cw:Wy ->Addr}{fd fd1 fdI:FuncData}(D:Def K mg "nines" Q5 B5f f fd)(dA:Def K mg "ten_to" ["count"] A6f f1 fd1)(dB:C6 P w K mg base 2 f1 fd1 ["count"] A6w)(C:A8q P w K mg base CC CB CT CW cw)(N:Num K mg CN)(M:A9h P w K mg base CN fI fdI):
   C6 P w K mg base 3 f fd Q5 (C2k CN CC):=by
 refine D.F.ok2 D9d (fun vs H Q E h=>?_) (fun X cdv A outer s H vs Q E hX hr hx h=>?_)
 . obtain⟨c,v,a,b,xs,ys,sg,rfl,_⟩:=h
   rfl
 subst hX
 obtain⟨c,v,a,b,xs,ys,sg,rfl,hc,ok,k⟩:=h
 refine⟨_,(A7 (B7 (A2v M.m (C6.up M.g) hr N.g M.b .nil hx (A0 C7 (A0 (pv 1) (A0 (A9 V3 (G5 dA dB hr hx (A0 (U6 (pv 0) rfl) A3)) A2) (A0 (A9 U7 (A9 V3 (U6 (pv 0) rfl) (U6 (pv 0) rfl)) A2) A3))))))),?_⟩
 obtain⟨⟨dx,e⟩,_,_⟩:=id hc
 have r1:=ok.r1;have r2:=ok.r2
 exact⟨_,rfl,_,rfl,c,CC,dx,_,_,rfl,e,C.c.cl,C.c.n_room,A4z _ _ _ _ _ _,v.r.toNat,(by rw[Int.toNat_of_nonneg (by omega)];rfl),by omega,_,_,rfl,rfl,_,rfl,c,CC,dx,_,_,rfl,e,C.c.cl,C.c.n_most,B1m _ _ _ _ _ _,_,rfl,c,CC,dx,_,_,rfl,e,C.c.cl,C.c.n_room,A4z _ _ _ _ _ _,_,_,rfl,rfl,_,_,rfl,rfl,B3q k⟩
noncomputable def C3t (CN CC:Addr):Sp:=fun vs H Q _=>∃c v a b xs ys,∃s:Int,vs=[.ref c,.int s]/\Z7 CC H c v a b xs ys/\v.Ok/\0<=s/\s<=1/\∀n H',B5 H H' ->Y8 CN H' n (A8k v s) ->Q (.ref n) H'
theorem D9f:B8 Q5 Q5 (A5 B5j):=scK
theorem C9c{f f1 f2 CN CN' CC CB CT CW:Addr}{cw:Wy ->Addr}(D:Def K mg "burst" Q5 B5j f fd)(dA:Def K mg "nines" Q5 B5f f1 fd1)(dB:C6 P w K mg base 3 f1 fd1 Q5 (C2k CN CC))(dC:Def K mg "end" ["sign"] B9p f2 fd2)(dD:C6 P w K mg base 3 f2 fd2 ["sign"] (B7j K CN CN'))(C:A8q P w K mg base CC CB CT CW cw):
   C6 P w K mg base 4 f fd Q5 (C3t CN CC):=by
 refine D.F.ok2 D9f (fun vs H Q E h=>?_) (fun X cdv A outer s H vs Q E hX hr hx h=>?_)
 . obtain⟨c,v,a,b,xs,ys,sg,rfl,_⟩:=h
   rfl
 subst hX
 obtain⟨c,v,a,b,xs,ys,sg,rfl,hc,ok,s0,s1,k⟩:=h
 obtain⟨fW,fdW,mW,gW,bW⟩:=C.way
 obtain⟨fU,fdU,mU,gU,bU⟩:=C.e v.y
 refine⟨_,(A7 (B7 (A0h (Z5 (A4m (A2p (pv 0) C.c.cl mW gW hr bW .nil hx) (C.wc v.y).cl mU gU hr bU .nil hx (A0 (pv 1) A3))) (G5 dC dD hr hx (A0 (pv 1) A3)) (G5 dA dB hr hx (A0 (pv 0) (A0 (pv 1) A3)))))),?_⟩
 obtain⟨⟨dx,e⟩,_,_⟩:=id hc
 unfold A8k at k
 refine⟨_,rfl,c,dx,_,rfl,e,B1y _ _ _ _ _ _,c,v.r,v.y,v.l,v.m,a,b,_,_,rfl,hc,fun q dq H1 nq t1 eq=>?_⟩
 refine⟨q,dq,_,rfl,eq,rfl,_,rfl,q,sg,rfl,fun H2 t2=>⟨_,rfl,?_⟩⟩
 have t3:=t1.trans t2
 cases g:v.y.toEnd sg with
 | true=>
   rw[g,if_pos rfl] at k
   exact Z3 ⟨_,rfl,_,rfl,.inl ⟨⟨sg,rfl,s0,s1⟩,fun n H' _ sm num=>k n H' (t3.trans sm) num⟩⟩
 | false=>
   rw[g,if_neg Bool.false_ne_true] at k
   exact Y1 ⟨_,rfl,_,rfl,c,v,a,b,xs,ys,sg,rfl,hc.same t3,ok,fun n H' _ sm num=>k n H' (t3.trans sm) num⟩
noncomputable def B4g:Sp:=fun vs H Q _=>∃(pt:Int) (cut:Bool),vs=[.int pt,.bl cut]/\∀l,H l=none ->Q (.ref l) (upd H l (.lst ((A0n pt cut).map V.str)))
theorem C6v:B8 Q26 Q26 (A5 A7j):=scK
theorem C0c(D:Def K mg "signals_of_rest" Q26 A7j f fd):C6 P w K mg base 1 f fd Q26 B4g:=by
 refine D.F.ok2 C6v (fun vs H Q E h=>?_) (fun X cdv A outer s H vs Q E hX hr hx h=>?_)
 . obtain⟨pt,cut,rfl,_⟩:=h
   rfl
 subst hX
 obtain⟨pt,cut,rfl,k⟩:=h
 refine⟨_,(A4 (U0 (C8 C3a (pv 0) A2 (B9 _)) (A7 (B7 (J9 (A0 C7 (A0 C7 A3))))) D7) (A7 (B7 (A0h (Z5 (pv 1)) (J9 (A0 C7 A3)) (J9 A3))))),?_⟩
 unfold A0n at k
 refine⟨_,rfl,rfl,_,rfl,?_⟩
 by_cases h0:pt=0
 . subst h0
   rw[if_pos rfl] at k
   refine G0j rfl ⟨_,rfl,_,rfl,?_⟩
   cases cut with
   |true=>exact Z3 ⟨D3 (by decide),k⟩
   |false=>exact Y1 ⟨D3 (by decide),k⟩
 rw[if_neg h0] at k
 rw[decide_eq_false (fun q=>h0 (by injection q):¬V.int pt=V.int 0)]
 exact Z3 ⟨D3 (by decide),k⟩
noncomputable def B3x (CC:Addr):Sp:=fun vs H Q _=>∃c v a b xs ys,∃L pt:Int,vs=[.ref c,.int L,.int pt]/\Z7 CC H c v a b xs ys/\∀l,H l=none ->Q (.ref l) (upd H l (.lst ((A0k v.l L pt).map V.str)))
theorem C6p:B8 Q27 Q27 (A5 A7n):=scK
theorem C0r{f CC CB CT CW:Addr}{cw:Wy ->Addr}(D:Def K mg "signals_of_lead" Q27 A7n f fd)(C:A8q P w K mg base CC CB CT CW cw):C6 P w K mg base 1 f fd Q27 (B3x CC):=by
 refine D.F.ok2 C6p (fun vs H Q E h=>?_) (fun X cdv A outer s H vs Q E hX hr hx h=>?_)
 . obtain⟨c,v,a,b,xs,ys,L,pt,rfl,_⟩:=h
   rfl
 subst hX
 obtain⟨c,v,a,b,xs,ys,L,pt,rfl,hc,k⟩:=h
 refine⟨_,(A4 (U0 (C8 C3q (pv 1) (U6 (pv 0) rfl) (B9 _)) (A7 (B7 (J9 A3))) D7) (A7 (B7 (A0h (C8 G4 (pv 2) A2 (B9 _)) (J9 (A0 C7 A3)) (J9 (A0 C7 (A0 C7 A3))))))),?_⟩
 obtain⟨⟨dx,e⟩,_,_⟩:=id hc
 unfold A0k at k
 refine⟨_,rfl,_,rfl,c,CC,dx,_,_,rfl,e,C.c.cl,C.c.n_least,B3s _ _ _ _ _ _,_,_,rfl,rfl,_,rfl,U5 (fun h=>?_) (fun h=>?_)⟩
 . rw[if_pos h] at k
   exact⟨D3 (by decide),k⟩
 rw[if_neg h] at k
 refine⟨_,rfl,rfl,_,rfl,U5 (fun h=>?_) (fun h=>?_)⟩
 . rw[if_pos (by injection h)] at k
   exact⟨D3 (by decide),k⟩
 rw[if_neg fun q=>h (congrArg V.int q)] at k
 exact⟨D3 (by decide),k⟩
noncomputable def B2e (CN CC:Addr):Sp:=fun vs H Q _=>∃c v a b xs ys,∃s i:Int,vs=[.ref c,.int s,.int i]/\Z7 CC H c v a b xs ys/\∀n H',H n=none ->B5 H H' ->Y8 CN H' n ⟨.plain,s,0,B3b (A3k i (v.l-v.r+1)) v.m⟩ ->Q (.ref n) H'
theorem C9u:B8 Q12 Q12 (A5 A6r):=scK
theorem C5z{f fI CN CC CB CT CW:Addr}{cw:Wy ->Addr}{fd fdI:FuncData}(D:Def K mg "nought" Q12 A6r f fd)(C:A8q P w K mg base CC CB CT CW cw)(N:Num K mg CN)(M:A9h P w K mg base CN fI fdI)(O:Own mg):C6 P w K mg base 3 f fd Q12 (B2e CN CC):=by
 refine D.F.ok2 C9u (fun vs H Q E h=>?_) (fun X cdv A outer s H vs Q E hX hr hx h=>?_)
 . obtain⟨c,v,a,b,xs,ys,sg,i,rfl,_⟩:=h
   rfl
 subst hX
 obtain⟨c,v,a,b,xs,ys,sg,i,rfl,hc,k⟩:=h
 obtain⟨fL,fdL,mL,gL,bL⟩:=C.low
 refine⟨_,(A7 (B7 (A2v M.m (C6.up M.g) hr N.g M.b .nil hx (A0 C7 (A0 (pv 1) (A0 A2 (A0 (U8 (C1g hx.hd) (by rfl) O.min_ boot_min (A0 (U8 (A3v hx.hd) (by rfl) O.max_ boot_max (A0 (pv 2) (A0 (A2p (pv 0) C.c.cl mL gL hr bL .nil hx) A3))) (A0 (U6 (pv 0) rfl) A3))) A3))))))),?_⟩
 obtain⟨⟨dx,e⟩,_,_⟩:=id hc
 exact⟨_,rfl,_,rfl,_,rfl,c,dx,_,rfl,e,A2z _ _ _ _ _ _,c,v.r,v.y,v.l,v.m,a,b,_,_,rfl,hc,_,_,rfl,_,rfl,c,CC,dx,_,_,rfl,e,C.c.cl,C.c.n_most,B1m _ _ _ _ _ _,_,_,rfl,B3q k⟩
noncomputable abbrev A6v:Stmt:=(top 28)
theorem B0r(i:Int):∀(n:Nat) (f p:Int),0<=f ->0<=(A5w i n f p).1/\(A5w i n f p).1<=f
 |0,f,p,h=>⟨h,Int.le_refl _⟩
 | n +1,f,p,h=>by
   show 0<=(if f % 10=0 then A5w i n (f/10) (p+1) else(f,p)).1/\(if f % 10=0 then A5w i n (f/10) (p+1) else(f,p)).1<=f
   by_cases z:f % 10=0
   . rw[if_pos z]
     have:=B0r i n (f/10) (p+1) (by omega)
     omega
   . rw[if_neg z]
     exact⟨h,Int.le_refl _⟩
theorem B8w{t b u1 v1 u2 v2 d:Nat}(h:t*10^u1<10*(b*10^v1))(e:u2+v1<=u1+v2+d):t*10^u2<10^(d+1)*(b*10^v2):=by
 have p:0<10^v1:=Nat.pow_pos (by decide)
 apply Nat.lt_of_mul_lt_mul_right (a:=10^v1)
 calc t*10^u2*10^v1=t*10^(u2+v1):=by rw[Nat.mul_assoc, <-Nat.pow_add]
   _<=t*10^(u1+v2+d):=Nat.mul_le_mul_left t (Nat.pow_le_pow_right (by decide) e)
   _=t*10^u1*(10^v2*10^d):=by rw[Nat.mul_assoc, <-Nat.pow_add, <-Nat.pow_add,Nat.add_assoc]
   _<10*(b*10^v1)*(10^v2*10^d):=Nat.mul_lt_mul_of_pos_right h (Nat.mul_pos (Nat.pow_pos (by decide)) (Nat.pow_pos (by decide)))
   _=10^(d+1)*(b*10^v2)*10^v1:=by rw[Nat.pow_succ];ac_rfl
theorem D7h{t b s1 s2 r:Int}(ht:Sz t)(hb:Sz b)(h:A0s t b s1)(hr:1<=r)(e:s2<=s1+(r-1)):0<=whI t b s2/\whI t b s2<B0 r:=by
 obtain⟨tn,rfl,_,_⟩:=ht.nat
 obtain⟨bn,rfl,b1,_⟩:=hb.nat
 have lp:0<(bn:Int)*B0 (-s2):=Int.mul_pos (by omega) (Y3 _)
 refine⟨Int.ediv_nonneg (Int.mul_nonneg (by omega) (Int.le_of_lt (Y3 _))) (Int.le_of_lt lp),?_⟩
 refine Int.ediv_lt_of_lt_mul lp ?_
 have a:tn*10^s1.toNat<10*(bn*10^(-s1).toNat):=Int.ofNat_lt.mp h.2
 have c:=B8w (u2:=s2.toNat) (v2:=(-s2).toNat) (d:=(r-1).toNat) a (by
   have x1:=Int.toNat_sub_toNat_neg s1
   have x2:=Int.toNat_sub_toNat_neg s2
   have x3:=Int.toNat_of_nonneg (show 0<=r-1 by omega)
   clear a lp h
   generalize s1.toNat=A at*
   generalize (-s1).toNat=B at*
   generalize s2.toNat=C at*
   generalize (-s2).toNat=D at*
   generalize (r-1).toNat=E at*
   omega)
 rw[show(r-1).toNat+1=r.toNat by omega] at c
 exact Int.ofNat_lt.mpr c
theorem D9a{r:Int}(h:r<=24):B0 r<=10^24:=by
 unfold B0
 have:10^r.toNat<=10^24:=Nat.pow_le_pow_right (by decide) (by omega)
 exact Int.ofNat_le.mpr this
theorem B1u{c:Cv}{s wh pt q i:Int}(ok:c.Ok)(h0:0<=wh)(h1:wh<B0 c.r):(A0d c s wh pt q i).1.natAbs<2^300:=by
 have t:=D9a ok.r2
 have big:((10^24:Nat):Int)=10^24:=by decide+kernel
 have lt:∀z:Int,0<=z ->z<=10^24 ->z.natAbs<2^300:=fun z a b=>Nat.lt_of_le_of_lt (show z.natAbs<=10^24 by omega) (by decide+kernel)
 unfold A0d
 split
 . have:=B0r i (i-q).toNat wh q h0
   exact lt _ this.1 (by unfold A0a;omega)
 have hu:0<=upI c.y s wh pt/\upI c.y s wh pt<=B0 c.r:=by
   have e:upI c.y s wh pt=wh+1\/upI c.y s wh pt=wh:=by
     unfold upI
     generalize (if pt=0 then false else c.y.goes s (wh % 10) pt)=g
     cases g with
     |true=>exact .inl rfl
     |false=>exact .inr rfl
   omega
 generalize upI c.y s wh pt=u at hu
 unfold A4u
 split
 . exact lt (u/10) (by omega) (by omega)
 exact lt u (by omega) (by omega)
noncomputable def B7d (CC CR:Addr):Sp:=fun vs H Q _=>∃c v a b xs ys x,∃t bo n L:Int,vs=[.ref c,.ref x]/\Z7 CC H c v a b xs ys/\A7r CR H x t bo n/\Sz t/\Sz bo/\A0s t bo (n-L)/\∀H',B5 H H' ->Q (.int (A3k (L-v.r+1) (v.l-v.r+1))) H'
theorem C8m:B8 Q28 Q28 (A5 B0g):=scK
theorem C6t{f CC CB CT CW CR CE g1 g2:Addr}{cw:Wy ->Addr}(D:Def K mg "finest_power" Q28 B0g f fd)(C:A8q P w K mg base CC CB CT CW cw)(RM:G3r P w K mg base CR g1 g2 gd1 gd2)(R:C1t K mg CR CE)(O:Own mg):C6 P w K mg base 5 f fd Q28 (B7d CC CR):=by
 refine D.F.ok2 C8m (fun vs H Q E h=>?_) (fun X cdv A outer s H vs Q E hX hr hx h=>?_)
 . obtain⟨c,v,a,b,xs,ys,x,t,bo,n,L,rfl,_⟩:=h
   rfl
 subst hX
 obtain⟨c,v,a,b,xs,ys,x,t,bo,n,L,rfl,hc,ra,ht,hb,hL,k⟩:=h
 obtain⟨fL,fdL,mL,gL,bL⟩:=C.low
 refine⟨_,(A7 (B7 (U8 (A3v hx.hd) (by rfl) O.max_ boot_max (A0 (A9 U7 (A9 V3 (A2p (pv 1) R.cl RM.m1 RM.g1 hr RM.b1 .nil hx) (U6 (pv 0) rfl)) A2) (A0 (A2p (pv 0) C.c.cl mL gL hr bL .nil hx) A3))))),?_⟩
 obtain⟨dr,er⟩:=id ra
 refine⟨_,rfl,x,dr,_,rfl,er,A6q _ _ _,x,t,bo,n,rfl,ra,ht,hb,fun f H1 s1 ld=>?_⟩
 have ef:f=L:=by
   have:=C2t (show 0<bo by have:=hb.1;omega) ld hL
   omega
 subst ef
 have hc1:=hc.same s1
 obtain⟨⟨dx,e⟩,_,_⟩:=id hc1
 exact⟨_,rfl,c,CC,dx,_,_,rfl,e,C.c.cl,C.c.n_room,A4z _ _ _ _ _ _,_,_,rfl,rfl,_,_,rfl,rfl,_,rfl,c,dx,_,rfl,e,A2z _ _ _ _ _ _,c,v.r,v.y,v.l,v.m,a,b,_,_,rfl,hc1,_,_,rfl,k H1 s1⟩
noncomputable def Cv.fin (v:Cv) (L:Int):Int:=A3k (L-v.r+1) (v.l-v.r+1)
noncomputable def Z9 (v:Cv) (s t bo n L i:Int):Nm×List Str:=A2n v s (whI t bo (n-v.fin L)) (ptI t bo (n-v.fin L)) L (v.fin L) i
noncomputable def A5c (CN CC CT:Addr) (H:Hp) (c:Addr) (v:Cv) (b:Addr) (xs ys:List Str) (res:Nm×List Str) (Q:VK) (E:XK):Prop:=
 (hit ys res.2=none ->∀m a' H',Exc c H H' ->Z7 CC H' c v a' b (Y0 (xs++res.2)) ys ->Y8 CN H' m res.1 ->Q (.ref m) H')/\
 (∀z,hit ys res.2=some z ->∀a' d H',Exc c H H' ->Z7 CC H' c v a' b (Y0 (xs++res.2)) ys ->H' d=some (.xd [("signal",.str z)]) ->E (.ref CT) (some d) H')
noncomputable def B4m (CN CC CT CR:Addr):Sp:=fun vs H Q E=>∃c v a b xs ys x,∃t bo n L s i:Int,vs=[.ref c,.int s,.ref x,.int i]/\Z7 CC H c v a b xs ys/\v.Ok/\xs.length<=900/\A7r CR H x t bo n/\Sz t/\Sz bo/\A0s t bo (n-L)/\ -1500<=n-v.fin L/\n-v.fin L<=1500/\0<=s/\s<=1/\
 A5c CN CC CT H c v b xs ys (Z9 v s t bo n L i) Q E
theorem scSettled:B8 ["context","sign","exact","ideal","finest","pair","number","names"] Q37 (A5 A6v):=scK
theorem C4r:∀z∈(Q36:List Str),z∈Y5:=by decide+kernel
theorem D1d{pt:Int}{cut:Bool}{l L:Int}:∀z∈A0n pt cut++A0k l L pt,z∈Y5:=by
 have r:∀z∈A0n pt cut,z∈Y5:=by
   unfold A0n
   split
   . split
     . decide+kernel
     . decide+kernel
   . decide+kernel
 have d:∀z∈A0k l L pt,z∈Y5:=by
   unfold A0k
   split
   . decide+kernel
   . split
     . decide+kernel
     . decide+kernel
 intro z hz
 rcases List.mem_append.mp hz with h|h
 . exact r z h
 exact d z h
theorem C8c{pt:Int}{cut:Bool}{l L:Int}:(A0n pt cut++A0k l L pt).length<=4:=by
 have r:(A0n pt cut).length<=2:=by
   unfold A0n
   split
   . split<;>decide
   . decide
 have d:(A0k l L pt).length<=2:=by
   unfold A0k
   split
   . decide
   . split<;>decide
 rw[List.length_append]
 omega
theorem B9y{f f1 f2 f3 f4 f5 f6 f7 f8 CN CC CB CT CW CR CE g1 g2:Addr}{cw:Wy ->Addr}(D:Def K mg "settled" Q37 A6v f fd)
   (dA:Def K mg "finest_power" Q28 B0g f1 fd1) (dB:C6 P w K mg base 5 f1 fd1 Q28 (B7d CC CR)) (dC:Def K mg "nearest_to" Q22 A7k f2 fd2) (dD:C6 P w K mg base 3 f2 fd2 Q22 (B3k CN))
   (dE:Def K mg "neighbour" Q23 A3p f3 fd3) (dF:C6 P w K mg base 3 f3 fd3 Q23 (A9e CC)) (dG:Def K mg "within_room" Q24 A9x f4 fd4) (dH:C6 P w K mg base 3 f4 fd4 Q24 (B8d CN CC))
   (dJ:Def K mg "is_beyond" Q25 A9u f5 fd5) (dL:C6 P w K mg base 2 f5 fd5 Q25 (B8k CN CC)) (dM:Def K mg "burst" Q5 B5j f6 fd6) (dN:C6 P w K mg base 4 f6 fd6 Q5 (C3t CN CC))
   (dP:Def K mg "signals_of_rest" Q26 A7j f7 fd7) (dQ:C6 P w K mg base 1 f7 fd7 Q26 B4g) (dS:Def K mg "signals_of_lead" Q27 A7n f8 fd8) (dU:C6 P w K mg base 1 f8 fd8 Q27 (B3x CC))
   (C:A8q P w K mg base CC CB CT CW cw) (RM:G3r P w K mg base CR g1 g2 gd1 gd2) (R:C1t K mg CR CE) (N:Num K mg CN):C6 P w K mg base 6 f fd Q37 (B4m CN CC CT CR):=by
 refine D.F.ok2 scSettled (fun vs H Q E h=>?_) (fun X cdv A outer s H vs Q E hX hr hx h=>?_)
 . obtain⟨c,v,a,b,xs,ys,x,t,bo,n,L,sg,i,rfl,_⟩:=h
   rfl
 subst hX
 obtain⟨c,v,a,b,xs,ys,x,t,bo,n,L,sg,i,rfl,hc,ok,lx,ra,ht,hb,hL,q0,q1,s0,s1,k⟩:=h
 obtain⟨fR,fdR,mR,gR,bR⟩:=C.raised
 refine⟨_,(A4 (A8 (D5 (i:=4) scSettled.nd rfl (Or.inl rfl) (G5 dA dB hr hx (A0 (pv 0) (A0 (pv 2) A3))))) (A4 (A8 (D5 (i:=5) scSettled.nd rfl (Or.inl rfl) (A4m (pv 2) R.cl RM.m2 RM.g2 hr RM.b2 .nil hx (A0 (pv 4) A3)))) (A4 (A8 (U0 (C8 G4 (V8 A1h (pv 5) A2 (fun _ _=>rfl)) A2 (B9 _)) (A7 (D5 (i:=6) scSettled.nd rfl (Or.inl rfl) (G5 dC dD hr hx (A0 (pv 3) (A0 (pv 1) (A0 (V8 A1h (pv 5) A2 (fun _ _=>rfl)) (A0 (pv 4) A3))))))) (A7 (D5 (i:=6) scSettled.nd rfl (Or.inl rfl) (G5 dG dH hr hx (A0 (pv 0) (A0 (pv 1) (A0 (G5 dE dF hr hx (A0 (pv 0) (A0 (pv 1) (A0 (pv 5) A3)))) (A0 (pv 4) A3))))))))) (A4 (A8 (U0 (Z5 (G5 dJ dL hr hx (A0 (pv 0) (A0 (pv 6) A3)))) (A4 (Y6 (A4m (pv 0) C.c.cl mR gR hr bR .nil hx (A0 (J9 (A0 C7 (A0 C7 (A0 C7 A3)))) A3))) (A7 (B7 (G5 dM dN hr hx (A0 (pv 0) (A0 (pv 1) A3)))))) D7)) (A4 (A8 (D5 (i:=7) scSettled.nd rfl (Or.inl rfl) (G5 dP dQ hr hx (A0 (V8 A1h (pv 5) A2 (fun _ _=>rfl)) (A0 (D9 A2f (U6 (pv 6) rfl) (pv 3) (B9 _)) A3))))) (A4 (A8 (Y6 (A4m (pv 0) C.c.cl mR gR hr bR .nil hx (A0 (A9 B1d (pv 7) (G5 dS dU hr hx (A0 (pv 0) (A0 (A2p (pv 2) R.cl RM.m1 RM.g1 hr RM.b1 .nil hx) (A0 (V8 A1h (pv 5) A2 (fun _ _=>rfl)) A3))))) A3)))) (A7 (B7 (pv 6))))))))),?_⟩
 have b0:0<bo:=by have:=hb.1;omega
 have wr:=D7h (s2:=n-v.fin L) ht hb hL ok.r1 (by
   unfold Cv.fin A3k
   split<;>omega)
 unfold Z9 A2n at k
 refine⟨fun σ' H'=>B5 H H'/\σ'=[sr c,si sg,sr x,si i,si (v.fin L),none,none,none],?_,?_⟩
 . exact⟨_,rfl,_,rfl,c,v,a,b,xs,ys,x,t,bo,n,L,rfl,hc,ra,ht,hb,hL,fun H' s'=>⟨s',rfl⟩⟩
 rintro σ' H1 ⟨t1,rfl⟩
 have hc1:=hc.same t1
 have ra1:=ra.same t1
 generalize v.fin L=q at*
 generalize hwh:whI t bo (n-q)=wh at*
 generalize hpt:ptI t bo (n-q)=pt at*
 refine⟨fun σ' H'=>∃p,B5 H1 H'/\H' p=some (.tup [.int wh,.int pt])/\σ'=[sr c,si sg,sr x,si i,si q,sr p,none,none],?_,?_⟩
 . obtain⟨dr,er⟩:=id ra1
   refine⟨_,rfl,x,dr,_,rfl,er,B4e _ _ _,_,rfl,x,t,bo,n,q,rfl,ra1,ht,hb,q0,q1,fun p H' s' np ep=>⟨p,s',?_,rfl⟩⟩
   rw[hwh,hpt] at ep
   exact ep
 refine L2.hideG fun Z_ z_=>?_
 rintro σ' H2 ⟨p,t2,hp,rfl⟩
 subst z_
 have hc2:=hc1.same t2
 have sm:=B1u (s:=sg) (pt:=pt) (q:=q) (i:=i) ok wr.1 wr.2
 refine⟨fun σ' H'=>∃m,B5 H2 H'/\H2 m=none/\Y8 CN H' m ⟨.plain,sg,(A0d v sg wh pt q i).1,(A0d v sg wh pt q i).2⟩/\σ'=[sr c,si sg,sr x,si i,si q,sr p,sr m,none],?_,?_⟩
 . refine⟨_,rfl,p,_,_,_,rfl,rfl,SqT.of hp,V6 (j:=1) rfl,rfl,_,rfl,U5 (fun h=>?_) (fun h=>?_)⟩
   . have h:pt=0:=by injection h
     refine⟨_,rfl,_,rfl,_,rfl,p,_,_,_,rfl,rfl,SqT.of hp,V6 (j:=0) rfl,_,rfl,i,sg,wh,q,rfl,fun m H' nm s' num=>⟨m,s',nm,?_,rfl⟩⟩
     unfold A0d
     rw[if_pos h]
     exact num
   . have h:¬pt=0:=fun z=>h (congrArg V.int z)
     refine⟨_,rfl,_,rfl,_,rfl,_,rfl,_,rfl,c,v,a,b,xs,ys,p,sg,wh,pt,rfl,hc2,hp,fun H3 s3=>?_⟩
     refine⟨_,rfl,c,v,a,b,xs,ys,sg,_,q,rfl,hc2.same s3,ok,fun m H' nm s' num=>⟨m,s3.trans s',s3.free nm,?_,rfl⟩⟩
     unfold A0d
     rw[if_neg h]
     exact num
 refine L2.hideG fun Z_ z_=>?_
 rintro σ' H3 ⟨m,t3,nm,num,rfl⟩
 subst z_
 have hc3:=hc2.same t3
 have tA:=(t1.trans t2).trans t3
 have nmc:m≠c:=fun z=>by
   obtain⟨⟨dx,e⟩,_,_⟩:=hc2
   rw[z,e] at nm
   cases nm
 obtain⟨⟨dx,e3⟩,_,_⟩:=id hc3
 generalize hf:(A0d v sg wh pt q i).1=fg at*
 generalize hg:(A0d v sg wh pt q i).2=pw at*
 refine⟨fun σ' H'=>H'=H3/\A1c v.m fg pw=false/\σ'=[sr c,si sg,sr x,si i,si q,sr p,sr m,none],?_,?_⟩
 . refine⟨_,rfl,_,rfl,c,v,a,b,xs,ys,m,_,rfl,hc3,num,sm,_,rfl,?_⟩
   cases e:A1c v.m fg pw with
   |false=>exact Y1 ⟨rfl,rfl,rfl⟩
   | true=>
     rw[e,if_pos rfl] at k
     refine Z3 ⟨_,rfl,c,dx,_,rfl,e3,A1p _ _ _ _ _ _,D3 (by decide),fun l nl=>?_⟩
     have u:=B5.upd (o:= .lst [.str "burst",.str "off",.str "cut"]) nl
     refine⟨c,v.r,v.y,v.l,v.m,a,b,xs,ys,.ref l,rfl,hc3.same u,by omega,.inl ⟨l,Q36,rfl,A6,by decide,C4r,fun hn a' H4 x4 na ct=>?_,fun z hz a' d H4 x4 na ct nd ed=>?_⟩⟩
     . refine⟨_,rfl,_,rfl,c,v,a',b,_,ys,sg,rfl,ct,ok,s0,s1,fun m' H5 s5 num5=>k.1 hn m' a' H5 (((Exc.of (tA.trans u)).trans x4).trans (.of s5)) (Z7.same ct s5) num5⟩
     . exact k.2 z hz a' d H4 ((Exc.of (tA.trans u)).trans x4) ct ed
 refine L2.hideG fun Z_ z_=>?_
 rintro σ' H4 ⟨rfl,e,rfl⟩
 subst z_
 rw[e,if_neg Bool.false_ne_true] at k
 refine⟨fun σ' H'=>∃l,B5 H4 H'/\H' l=some (.lst ((A0n pt (decide (pw>i))).map V.str))/\σ'=[sr c,si sg,sr x,si i,si q,sr p,sr m,sr l],?_,?_⟩
 . obtain⟨dn,en⟩:=id num
   exact⟨_,rfl,p,_,_,_,rfl,rfl,SqT.of (t3 _ _ hp),V6 (j:=1) rfl,_,rfl,m,CN,dn,_,_,rfl,en,N.cl,N.n4,num4 _ _ _ _,_,rfl,_,_,rfl,rfl,pt,_,rfl,fun l nl=>⟨l,B5.upd nl,A6,rfl⟩⟩
 refine L2.hideG fun Z_ z_=>?_
 rintro σ' H5 ⟨l,t5,hl,rfl⟩
 subst z_
 refine⟨fun σ' H'=>hit ys (A0n pt (decide (pw>i))++A0k v.l L pt)=none/\∃a',Exc c H H'/\Z7 CC H' c v a' b (Y0 (xs++(A0n pt (decide (pw>i))++A0k v.l L pt))) ys/\Y8 CN H' m ⟨.plain,sg,fg,pw⟩/\σ'=[sr c,si sg,sr x,si i,si q,sr p,sr m,sr l],?_,?_⟩
 . have ra5:=((ra1.same t2).same t3).same t5
   obtain⟨dr,er⟩:=id ra5
   have hc5:=hc3.same t5
   refine⟨_,rfl,c,dx,_,rfl,t5 _ _ e3,A1p _ _ _ _ _ _,_,rfl,_,rfl,_,rfl,x,dr,_,rfl,er,A6q _ _ _,x,t,bo,n,rfl,ra5,ht,hb,fun f H6 t6 ld=>?_⟩
   have ef:f=L:=by
     have:=C2t b0 ld hL
     omega
   subst ef
   refine⟨_,rfl,p,_,_,_,rfl,rfl,SqT.of ((t5.trans t6) _ _ (t3 _ _ hp)),V6 (j:=1) rfl,c,v,a,b,xs,ys,f,pt,rfl,hc5.same t6,fun l2 nl2=>?_⟩
   have u2:=B5.upd (o:= .lst ((A0k v.l f pt).map V.str)) nl2
   have rl:=C8c (pt:=pt) (cut:=decide (pw>i)) (l:=v.l) (L:=f)
   rw[List.length_append] at rl
   refine⟨l,l2,_,_,rfl,rfl,(t6.trans u2) _ _ hl,A6,D3 (by rw[List.length_map,List.length_map];omega),fun l3 nl3=>?_⟩
   have u3:=B5.upd (o:= .lst ((A0n pt (decide (pw>i))).map V.str++(A0k v.l f pt).map V.str)) nl3
   have tB:=(t6.trans u2).trans u3
   have num7:=(num.same t5).same tB
   obtain⟨dn7,en7⟩:=id num7
   have keep:∀{H':Hp},Exc c _ H' ->Y8 CN H' m ⟨.plain,sg,fg,pw⟩:=fun x7=>⟨dn7,x7 _ _ en7 nmc⟩
   refine⟨c,v.r,v.y,v.l,v.m,a,b,xs,ys,.ref l3,rfl,(hc5.same tB),by omega,.inl ⟨l3,A0n pt (decide (pw>i))++A0k v.l f pt,rfl,by rw[A6,List.map_append],by rw[List.length_append];omega,D1d,fun hn a' H8 x8 na ct=>?_,fun z hz a' d H8 x8 na ct nd ed=>?_⟩⟩
   . exact⟨hn,a',(Exc.of (tA.trans (t5.trans tB))).trans x8,ct,keep x8,rfl⟩
   . exact k.2 z hz a' d H8 ((Exc.of (tA.trans (t5.trans tB))).trans x8) ct ed
 refine L2.hideG fun Z_ z_=>?_
 rintro σ' H6 ⟨hn,a',x6,ct,num6,rfl⟩
 subst z_
 exact⟨_,rfl,k.1 hn m a' H6 x6 ct num6⟩
theorem C7q:Sz 1:=⟨by decide,by
 have:B0 1<=B0 1000:=A5f (by decide)
 have e:B0 1=10:=rfl
 omega⟩
noncomputable def B2k:Nm:=⟨.none,0,0,0⟩
noncomputable def A5n (v:Cv) (s i:Int):Nm:=⟨.plain,s,0,B3b (A3k i (v.l-v.r+1)) v.m⟩
theorem A5c.same{CN CC CT:Addr}{H H1:Hp}{c:Addr}{v:Cv}{b:Addr}{xs ys:List Str}{res:Nm×List Str}{Q:VK}{E:XK}(k:A5c CN CC CT H c v b xs ys res Q E)(s:B5 H H1):A5c CN CC CT H1 c v b xs ys res Q E:=
 ⟨fun hn m a' H' x=>k.1 hn m a' H' ((Exc.of s).trans x),fun z hz a' d H' x=>k.2 z hz a' d H' ((Exc.of s).trans x)⟩
theorem D6x(tr:List Str):hit tr []=none:=by
 unfold hit
 rw[List.find?_eq_none]
 simp
theorem A5c.calm{CN CC CT:Addr}{H H1:Hp}{c n a:Addr}{v:Cv}{b:Addr}{xs ys:List Str}{x:Nm}{Q:VK}{E:XK}(k:A5c CN CC CT H c v b xs ys (x,[]) Q E)(ox:Y0 xs=xs)(s:B5 H H1)(hc:Z7 CC H c v a b xs ys)(hn:Y8 CN H1 n x):Q (.ref n) H1:=
 k.1 (D6x _) n a H1 (Exc.of s) (by show Z7 CC H1 c v a b (Y0 (xs++ [])) ys;rw[List.append_nil,ox];exact hc.same s) hn
deriving instance DecidableEq for Kd
noncomputable abbrev C3w:Stmt:=(top 39)
noncomputable def D0z (CN CC CT:Addr):Sp:=fun vs H Q E=>∃c v a b xs ys,vs=[.ref c]/\Z7 CC H c v a b xs ys/\xs.length<=900/\A5c CN CC CT H c v b xs ys (B2k,["void"]) Q E
theorem G1k:B8 ["context"] ["context"] (A5 C3w):=scK
theorem D9u{f f1 CN CC CB CT CW:Addr}{cw:Wy ->Addr}(D:Def K mg "void" ["context"] C3w f fd)(dA:Def K mg "nothing" [] A3a f1 fd1)(dB:C6 P w K mg base 3 f1 fd1 [] (A5s CN))(C:A8q P w K mg base CC CB CT CW cw):C6 P w K mg base 4 f fd ["context"] (D0z CN CC CT):=by
 refine D.F.ok2 G1k (fun vs H Q E h=>?_) (fun X cdv A outer s H vs Q E hX hr hx h=>?_)
 . obtain⟨c,v,a,b,xs,ys,rfl,_⟩:=h
   rfl
 subst hX
 obtain⟨c,v,a,b,xs,ys,rfl,hc,lx,k⟩:=h
 obtain⟨fR,fdR,mR,gR,bR⟩:=C.raised
 refine⟨_,(A4 (Y6 (A4m (pv 0) C.c.cl mR gR hr bR .nil hx (A0 (J9 (A0 C7 A3)) A3))) (A7 (B7 (C4c dA dB hr hx)))),?_⟩
 have z1:1<=sizeLine:=D3 (by decide)
 obtain⟨dx,e⟩:=hc.ins
 refine⟨_,rfl,c,dx,_,rfl,e,A1p _ _ _ _ _ _,z1,fun p np=>?_⟩
 have u:=B5.upd (o:= .lst [.str "void"]) np
 refine⟨c,v.r,v.y,v.l,v.m,a,b,xs,ys,_,rfl,hc.same u,by omega,.inl ⟨p,["void"],rfl,A6,by decide,by decide+kernel,fun hn a' H' x na ct=>?_,fun t ht a' d H' x na ct nd ed=>?_⟩⟩
 . exact⟨rfl,fun n H2 nn s2 num=>k.1 hn n a' H2 ((Exc.of u).trans (x.trans (Exc.of s2))) (A0e.same ct s2) num⟩
 exact k.2 t ht a' d H' ((Exc.of u).trans x) ct ed
noncomputable abbrev B0w:Stmt:=(top 42)
noncomputable abbrev A3q:Stmt:=(top 44)
noncomputable abbrev B0e:Stmt:=(top 43)
noncomputable abbrev B6n:Stmt:=(top 40)
noncomputable abbrev B4z:Stmt:=(top 26)
noncomputable def A4b (f k:Int):Int:=((f.toNat^k.natAbs:Nat):Int)
noncomputable def sgI (s k:Int):Int:=if k % 2=1 then s else 0
theorem G0k{s k:Int}(h0:0<=s)(h1:s<=1):0<=sgI s k/\sgI s k<=1:=by unfold sgI;split<;>omega
theorem G2z{f k:Int}(f0:0<f)(f1:f<B0 24)(k0: -20<=k)(k1:k<=20):Sz (A4b f k):=by
 unfold A4b
 have a:0<f.toNat^k.natAbs:=Nat.pow_pos (by omega)
 refine⟨by omega,?_⟩
 have e:B0 24=((10^24:Nat):Int):=rfl
 have b:f.toNat^k.natAbs<=(10^24)^k.natAbs:=Nat.pow_le_pow_left (by omega) _
 have c:(10^24)^k.natAbs<=(10^24)^20:=Nat.pow_le_pow_right (by decide) (by omega)
 have d:(10^24)^20<10^1000:=by decide+kernel
 have g:B0 1000=((10^1000:Nat):Int):=rfl
 rw[g]
 exact Int.ofNat_lt.mpr (by omega)
noncomputable def A4d (f k:Int):Int:=if k<0 then 1 else A4b f k
noncomputable def A4c (f k:Int):Int:=if k<0 then A4b f k else 1
noncomputable def A2m (v:Cv) (x:Nm) (k L:Int):Nm×List Str:=
 if x.k= .none then(B2k,[])
 else if x.k= .end_ then(if k=0 then(⟨.plain,0,1,0⟩,[]) else if k>0 then(⟨.end_,sgI x.s k,0,0⟩,[]) else(A5n v (sgI x.s k) (v.l-v.r+1),[]))
 else if x.f=0 then(if k=0 then(B2k,["void"]) else if k<0 then(⟨.end_,sgI x.s k,0,0⟩,["split"]) else(A5n v (sgI x.s k) (k*x.p),[]))
 else Z9 v (sgI x.s k) (A4d x.f k) (A4c x.f k) (k*x.p) L (k*x.p)
noncomputable def B0y (x:Nm) (k L:Int):Prop:=x.k= .plain ->x.f≠0 ->A0s (A4d x.f k) (A4c x.f k) (k*x.p-L)
structure Nm.Sm(x:Nm):Prop where
 ok:x.Ok
 f24:x.f<B0 24
 p0: -60<=x.p
 p1:x.p<=60
theorem D6h{v:Cv}{t b n L:Int}(ok:v.Ok)(ht:Sz t)(hb:Sz b)(h:A0s t b (n-L))(t5:t<B0 481)(b5:b<B0 481)(n0: -1200<=n)(n1:n<=1200): -1500<=n-v.fin L/\n-v.fin L<=1500:=by
 have r1:=ok.r1;have r2:=ok.r2;have l1:=ok.l1;have l2:=ok.l2
 have key: -482<=n-L/\n-L<=482:=by
   refine⟨?_,?_⟩
   . apply Classical.byContradiction
     intro hs
     have z:B0 (n-L)=1:=by unfold B0;rw[show(n-L).toNat=0 by omega];rfl
     have g:B0 482<=B0 (-(n-L)):=A5f (by omega)
     have a:=h.1
     rw[z,Int.mul_one] at a
     have c:1*B0 (-(n-L))<=b*B0 (-(n-L)):=Int.mul_le_mul_of_nonneg_right hb.1 (Int.le_of_lt (Y3 _))
     have d:B0 481<=B0 482:=A5f (by decide)
     omega
   . apply Classical.byContradiction
     intro hs
     have z:B0 (-(n-L))=1:=by unfold B0;rw[show(-(n-L)).toNat=0 by omega];rfl
     have g:B0 482<=B0 (n-L):=A5f (by omega)
     have e1:B0 482=10*B0 481:=by decide+kernel
     have a:=h.2
     rw[z,Int.mul_one] at a
     have c:1*B0 (n-L)<=t*B0 (n-L):=Int.mul_le_mul_of_nonneg_right ht.1 (Int.le_of_lt (Y3 _))
     omega
 unfold Cv.fin A3k
 split<;>omega
noncomputable def C3k (K:Frag) (CB:Addr):Sp:=fun vs H Q E=>∃v,∃m:Int,vs=[v,.int m]/\m.natAbs.log2<1920/\(Str.ofString (toString m)).length<=100/\((A2s (-m) m v/\Q .non H)\/(A4e K H (-m) m v/\E (.ref CB) none H))
theorem D7x:B8 Q29 Q29 (A5 B4z):=scK
theorem C7h{f f1 CB:Addr}(D:Def K mg "need_count" Q29 B4z f fd)(D1:Def K mg "is_between" Q4 B8m f1 fd1)(O:Own mg)(T:Kit K)(B:Err K mg "BadCount" CB):C6 P w K mg base 2 f fd Q29 (C3k K CB):=by
 have G1:=C0b (P:=P) (w:=w) (base:=base) D1 O T
 refine D.F.ok2 D7x (fun vs H Q E h=>?_) (fun X cdv A outer s H vs Q E hX hr hx h=>?_)
 . obtain⟨v,m,rfl,_⟩:=h
   rfl
 subst hX
 obtain⟨v,m,rfl,lm,ls,h⟩:=h
 refine⟨_,(A7 (U0 (A1a (Z5 (G5 D1 G1 hr hx (A0 (pv 0) (A0 (A1q A0m (pv 1)) (A0 (pv 1) A3)))))) (A7 (A0y (by rfl) B.g B.q PySem.F.excBase_ValueError hx (A0 (B6g (.cons .lit (.cons (.int (pv 1)) (.cons .lit (.cons (.int (pv 1)) .nil))))) A3))) D7)),?_⟩
 rcases h with⟨g,k⟩|⟨g,k⟩
 . exact⟨_,rfl,_,rfl,_,rfl,_,rfl,_,_,_,rfl,.inl ⟨g,_,rfl,Y1 k⟩⟩
 have a0:Str.empty.length=0:=rfl
 have a1:(Str.ofString "not a whole number from -").length=25:=by decide+kernel
 have a2:(Str.ofString " to ").length=4:=by decide+kernel
 have l3:(Str.ofString (toString m)).length<=100:=ls
 have l4:=l3
 have sz:∀{n:Nat},n<=1000 ->n<=sizeLine:=fun h=>Nat.le_of_lt (A0r h)
 refine⟨_,rfl,_,rfl,_,rfl,_,rfl,_,_,_,rfl,.inr ⟨g,_,rfl,Z3 ?_⟩⟩
 exact⟨_,rfl,sz (by rw[strLen_append];omega),_,rfl,_,rfl,lm,_,rfl,sz (by rw[strLen_append,strLen_append];omega),_,rfl,sz (by rw[strLen_append,strLen_append,strLen_append];omega),_,rfl,_,rfl,lm,_,rfl,sz (by rw[strLen_append,strLen_append,strLen_append,strLen_append];omega),sz (by rw[strLen_append,strLen_append,strLen_append,strLen_append];omega),sz (by show 1<=1000;decide),k⟩
noncomputable def C2m (CN CC CT:Addr):Sp:=fun vs H Q E=>∃c v a b xs ys,∃sg:Int,vs=[.ref c,.int sg]/\Z7 CC H c v a b xs ys/\xs.length<=900/\0<=sg/\sg<=1/\A5c CN CC CT H c v b xs ys (⟨.end_,sg,0,0⟩,["split"]) Q E
theorem D6g:B8 Q5 Q5 (A5 B6n):=scK
theorem D1b{f f1 CN CC CB CB' CT CW:Addr}{cw:Wy ->Addr}(D:Def K mg "split_to_end" Q5 B6n f fd)(dA:Def K mg "end" ["sign"] B9p f1 fd1)(dB:C6 P w K mg base 3 f1 fd1 ["sign"] (B7j K CN CB'))(C:A8q P w K mg base CC CB CT CW cw):C6 P w K mg base 4 f fd Q5 (C2m CN CC CT):=by
 refine D.F.ok2 D6g (fun vs H Q E h=>?_) (fun X cdv A outer s H vs Q E hX hr hx h=>?_)
 . obtain⟨c,v,a,b,xs,ys,sg,rfl,_⟩:=h
   rfl
 subst hX
 obtain⟨c,v,a,b,xs,ys,sg,rfl,hc,lx,s0,s1,k⟩:=h
 obtain⟨fR,fdR,mR,gR,bR⟩:=C.raised
 refine⟨_,(A4 (Y6 (A4m (pv 0) C.c.cl mR gR hr bR .nil hx (A0 (J9 (A0 C7 A3)) A3))) (A7 (B7 (G5 dA dB hr hx (A0 (pv 1) A3))))),?_⟩
 have z1:1<=sizeLine:=D3 (by decide)
 obtain⟨dx,e⟩:=hc.ins
 refine⟨_,rfl,c,dx,_,rfl,e,A1p _ _ _ _ _ _,z1,fun p np=>?_⟩
 have u:=B5.upd (o:= .lst [.str "split"]) np
 refine⟨c,v.r,v.y,v.l,v.m,a,b,xs,ys,_,rfl,hc.same u,by omega,.inl ⟨p,["split"],rfl,A6,by decide,by decide+kernel,fun hn a' H' x na ct=>?_,fun t ht a' d H' x na ct nd ed=>?_⟩⟩
 . exact⟨_,rfl,_,rfl,.inl ⟨⟨sg,rfl,s0,s1⟩,fun n H2 nn s2 num=>k.1 hn n a' H2 ((Exc.of u).trans (x.trans (Exc.of s2))) (A0e.same ct s2) num⟩⟩
 exact k.2 t ht a' d H' ((Exc.of u).trans x) ct ed
noncomputable def C8v (CN CC CT:Addr):Sp:=fun vs H Q E=>∃c v a b xs ys,∃s p k:Int,vs=[.ref c,.int s,.int p,.int k]/\Z7 CC H c v a b xs ys/\xs.length<=900/\Y0 xs=xs/\0<=s/\s<=1/\ -20<=k/\k<=20/\
 A5c CN CC CT H c v b xs ys (if k=0 then(B2k,["void"]) else if k<0 then(⟨.end_,s,0,0⟩,["split"]) else(A5n v s (k*p),[])) Q E
theorem G2a:B8 Q30 Q30 (A5 A3q):=scK
theorem D8x{f f1 f2 f3 CN CC CT:Addr}(D:Def K mg "power_of_nought" Q30 A3q f fd)(dA:Def K mg "void" ["context"] C3w f1 fd1)(dB:C6 P w K mg base 4 f1 fd1 ["context"] (D0z CN CC CT))(dC:Def K mg "nought" Q12 A6r f2 fd2)(dD:C6 P w K mg base 3 f2 fd2 Q12 (B2e CN CC))
   (dE:Def K mg "split_to_end" Q5 B6n f3 fd3) (dF:C6 P w K mg base 4 f3 fd3 Q5 (C2m CN CC CT)):C6 P w K mg base 5 f fd Q30 (C8v CN CC CT):=by
 refine D.F.ok2 G2a (fun vs H Q E h=>?_) (fun X cdv A outer s H vs Q E hX hr hx h=>?_)
 . obtain⟨c,v,a,b,xs,ys,sg,p,n,rfl,_⟩:=h
   rfl
 subst hX
 obtain⟨c,v,a,b,xs,ys,sg,p,n,rfl,hc,lx,ox,s0,s1,n0,n1,k⟩:=h
 refine⟨_,(A4 (U0 (C8 G4 (pv 3) A2 (B9 _)) (A7 (B7 (G5 dA dB hr hx (A0 (pv 0) A3)))) D7) (A7 (B7 (A0h (C8 A2f (pv 3) A2 (B9 _)) (G5 dC dD hr hx (A0 (pv 0) (A0 (pv 1) (A0 (A9 U2 (pv 3) (pv 2)) A3)))) (G5 dE dF hr hx (A0 (pv 0) (A0 (pv 1) A3))))))),?_⟩
 refine⟨_,rfl,rfl,_,rfl,U5 (fun h=>?_) (fun h=>?_)⟩
 . rw[if_pos (V.int.inj h)] at k
   exact⟨_,rfl,c,v,a,b,xs,ys,rfl,hc,lx,k⟩
 have hn:¬n=0:=fun z=>h (congrArg V.int z)
 rw[if_neg hn] at k
 refine⟨_,rfl,_,_,rfl,rfl,_,rfl,U5 (fun h=>?_) (fun h=>?_)⟩
 . have h:n>0:=h
   rw[if_neg (by omega)] at k
   exact⟨_,rfl,_,rfl,_,rfl,_,rfl,_,_,rfl,rfl,A2a.ok (.inl ⟨by omega,by omega⟩),c,v,a,b,xs,ys,sg,_,rfl,hc,fun m H' nm sm num=>k.calm ox sm hc num⟩
 have h:¬n>0:=h
 rw[if_pos (by omega)] at k
 exact⟨_,rfl,_,rfl,c,v,a,b,xs,ys,sg,rfl,hc,lx,s0,s1,k⟩
noncomputable def B7a (CN CC:Addr):Sp:=fun vs H Q _=>∃c v a b xs ys,∃s k:Int,vs=[.ref c,.int s,.int k]/\Z7 CC H c v a b xs ys/\v.Ok/\0<=s/\s<=1/\∀n H',H n=none ->B5 H H' ->Y8 CN H' n (if k=0 then⟨.plain,0,1,0⟩ else if k>0 then⟨.end_,s,0,0⟩ else A5n v s (v.l-v.r+1)) ->Q (.ref n) H'
theorem C8k:B8 Q31 Q31 (A5 B0e):=scK
theorem C4z{f f1 f2 f3 CN CC CB CB' CT CW:Addr}{cw:Wy ->Addr}(D:Def K mg "power_of_end" Q31 B0e f fd)(dA:Def K mg "plain" Q10 B2r f1 fd1)(dB:C6 P w K mg base 3 f1 fd1 Q10 (B5t K CN CB'))(dC:Def K mg "end" ["sign"] B9p f2 fd2)(dD:C6 P w K mg base 3 f2 fd2 ["sign"] (B7j K CN CB'))
   (dE:Def K mg "nought" Q12 A6r f3 fd3) (dF:C6 P w K mg base 3 f3 fd3 Q12 (B2e CN CC)) (C:A8q P w K mg base CC CB CT CW cw):C6 P w K mg base 4 f fd Q31 (B7a CN CC):=by
 refine D.F.ok2 C8k (fun vs H Q E h=>?_) (fun X cdv A outer s H vs Q E hX hr hx h=>?_)
 . obtain⟨c,v,a,b,xs,ys,sg,n,rfl,_⟩:=h
   rfl
 subst hX
 obtain⟨c,v,a,b,xs,ys,sg,n,rfl,hc,ok,s0,s1,k⟩:=h
 obtain⟨fL,fdL,mL,gL,bL⟩:=C.low
 refine⟨_,(A4 (U0 (C8 G4 (pv 2) A2 (B9 _)) (A7 (B7 (G5 dA dB hr hx (A0 A2 (A0 A2 (A0 A2 A3)))))) D7) (A7 (B7 (A0h (C8 A2f (pv 2) A2 (B9 _)) (G5 dC dD hr hx (A0 (pv 1) A3)) (G5 dE dF hr hx (A0 (pv 0) (A0 (pv 1) (A0 (A2p (pv 0) C.c.cl mL gL hr bL .nil hx) A3)))))))),?_⟩
 obtain⟨dx,e⟩:=hc.ins
 refine⟨_,rfl,rfl,_,rfl,U5 (fun h=>?_) (fun h=>?_)⟩
 . rw[if_pos (V.int.inj h)] at k
   exact⟨_,_,_,rfl,.inl ⟨⟨0,rfl,by decide,by decide⟩,⟨1,rfl,by decide,by decide⟩,⟨0,rfl,by decide,by decide⟩,fun m H' nm sm num=>k m H' nm sm num⟩⟩
 have hn:¬n=0:=fun z=>h (congrArg V.int z)
 rw[if_neg hn] at k
 refine⟨_,rfl,_,_,rfl,rfl,_,rfl,U5 (fun h=>?_) (fun h=>?_)⟩
 . rw[if_pos (show n>0 from h)] at k
   exact⟨_,rfl,_,rfl,.inl ⟨⟨sg,rfl,s0,s1⟩,fun m H' nm sm num=>k m H' nm sm num⟩⟩
 rw[if_neg (show¬n>0 from h)] at k
 exact⟨_,rfl,_,rfl,_,rfl,c,dx,_,rfl,e,A2z _ _ _ _ _ _,c,v.r,v.y,v.l,v.m,a,b,_,_,rfl,hc,c,v,a,b,xs,ys,sg,v.l-v.r+1,rfl,hc,fun m H' nm sm num=>k m H' nm sm num⟩
theorem J0e{k p:Int}(k0: -20<=k)(k1:k<=20)(p0: -60<=p)(p1:p<=60): -1300<=k*p/\k*p<=1300:=by
 have a:(k*p).natAbs<=20*60:=by
   rw[Int.natAbs_mul]
   exact Nat.mul_le_mul (by omega) (by omega)
 omega
theorem C3h{f k:Int}(f0:0<f)(f1:f<B0 24)(k0: -20<=k)(k1:k<=20):Sz (A4d f k)/\Sz (A4c f k)/\A4d f k<B0 481/\A4c f k<B0 481:=by
 have a:=G2z f0 f1 k0 k1
 have b:A4b f k<B0 481:=by
   unfold A4b
   have e:B0 24=((10^24:Nat):Int):=rfl
   have b:f.toNat^k.natAbs<=(10^24)^k.natAbs:=Nat.pow_le_pow_left (by omega) _
   have c:(10^24)^k.natAbs<=(10^24)^20:=Nat.pow_le_pow_right (by decide) (by omega)
   have d:(10^24)^20<10^481:=by decide+kernel
   have g:B0 481=((10^481:Nat):Int):=rfl
   rw[g]
   exact Int.ofNat_lt.mpr (by omega)
 have c:(1:Int)<B0 481:=by decide+kernel
 unfold A4d A4c
 split
 . exact⟨C7q,a,c,b⟩
 exact⟨a,C7q,b,c⟩
noncomputable def C2c (K:Frag) (CN CC CT CB CB4:Addr):Sp:=fun vs H Q E=>∃c v1 v2,vs=[.ref c,v1,v2]/\
 ((∃v a b xs ys n x k L,v1= .ref n/\v2= .int k/\Z7 CC H c v a b xs ys/\v.Ok/\xs.length<=900/\Y0 xs=xs/\Y8 CN H n x/\x.Sm/\ -20<=k/\k<=20/\B0y x k L/\A5c CN CC CT H c v b xs ys (A2m v x k L) Q E)\/
  (B2d K CN H v1/\E (.ref CB) none H)\/(∃n x,v1= .ref n/\Y8 CN H n x/\A4e K H (-20) 20 v2/\E (.ref CB4) none H))
theorem scPow:B8 ["context","one","count","sign","ideal","product","exact"] Q16 (A5 B0w):=scK
theorem G2v{f f1 f2 f3 f4 f5 f6 f7 fR CN CC CB' CB4 CT CR CE:Addr}{fd fd1 fd2 fd3 fd4 fd5 fd6 fd7 fdR:FuncData}{d0:Value}{gP:List Value ->List Value ->List Value}{vP:List V ->List V ->List V}(D:Def K mg "to_power" Q16 B0w f fd)(dA:Def K mg "need_number" ["thing"] B1h f1 fd1)(dB:C6 P w K mg base 1 f1 fd1 ["thing"] (C2e K CN CB'))
   (dC:Def K mg "need_count" Q29 B4z f2 fd2) (dD:C6 P w K mg base 2 f2 fd2 Q29 (C3k K CB4)) (dE:Def K mg "nothing" [] A3a f3 fd3) (dF:C6 P w K mg base 3 f3 fd3 [] (A5s CN)) (dG:Def K mg "power_of_end" Q31 B0e f4 fd4) (dH:C6 P w K mg base 4 f4 fd4 Q31 (B7a CN CC))
   (dJ:Def K mg "power_of_nought" Q30 A3q f5 fd5) (dL:C6 P w K mg base 5 f5 fd5 Q30 (C8v CN CC CT)) (dM:Def K mg "product_of" Q14 A2c f6 fd6) (dN:C6 P w K mg base 1 f6 fd6 Q14 A5a)
   (dP:Def K mg "settled" Q37 A6v f7 fd7) (dQ:C6 P w K mg base 6 f7 fd7 Q37 (B4m CN CC CT CR)) (N:Num K mg CN) (MR:G0s P w K mg base CR fR fdR d0 gP vP) (R:C1t K mg CR CE) (O:Own mg):C6 P w K mg base 7 f fd Q16 (C2c K CN CC CT CB' CB4):=by
 refine D.F.ok2 scPow (fun vs H Q E h=>?_) (fun X cdv A outer s H vs Q E hX hr hx h=>?_)
 . obtain⟨c,v1,v2,rfl,_⟩:=h
   rfl
 subst hX
 obtain⟨c,v1,v2,rfl,h⟩:=h
 refine⟨_,(A4 (A8 (Y6 (G5 dA dB hr hx (A0 (pv 1) A3)))) (A4 (A8 (Y6 (G5 dC dD hr hx (A0 (pv 2) (A0 A2 A3))))) (A4 (A8 (U0 (C8 G4 (U6 (pv 1) rfl) C7 (B9 _)) (A7 (B7 (C4c dE dF hr hx))) D7)) (A4 (A8 (D5 (i:=3) scPow.nd rfl (Or.inl rfl) (A0h (C8 G4 (A9 U3 (pv 2) A2) A2 (B9 _)) (U6 (pv 1) rfl) A2))) (A4 (A8 (U0 (C8 G4 (U6 (pv 1) rfl) C7 (B9 _)) (A7 (B7 (G5 dG dH hr hx (A0 (pv 0) (A0 (pv 3) (A0 (pv 2) A3)))))) D7)) (A4 (A8 (U0 (C8 G4 (U6 (pv 1) rfl) A2 (B9 _)) (A7 (B7 (G5 dJ dL hr hx (A0 (pv 0) (A0 (pv 3) (A0 (U6 (pv 1) rfl) (A0 (pv 2) A3))))))) D7)) (A4 (A8 (D5 (i:=4) scPow.nd rfl (Or.inl rfl) (A9 U2 (pv 2) (U6 (pv 1) rfl)))) (A4 (A8 (D5 (i:=5) scPow.nd rfl (Or.inl rfl) (G5 dM dN hr hx (A0 (U6 (pv 1) rfl) (A0 (U8 B2h (by rfl) O.abs_ boot_abs (A0 (pv 2) A3)) A3))))) (A4 (A8 (D5 (i:=6) scPow.nd rfl (Or.inl rfl) (A0h (C8 A3y (pv 2) A2 (B9 _)) (A2v MR.m MR.g hr R.g MR.b3 .nil hx (A0 A2 (A0 (pv 5) (A0 (pv 4) A3)))) (A2v MR.m MR.g hr R.g MR.b3 .nil hx (A0 (pv 5) (A0 A2 (A0 (pv 4) A3))))))) (A7 (B7 (G5 dP dQ hr hx (A0 (pv 0) (A0 (pv 3) (A0 (pv 6) (A0 (pv 4) A3)))))))))))))))),?_⟩
 have l20:(20:Int).natAbs.log2<1920:=by decide+kernel
 have s20:(Str.ofString (toString (20:Int))).length<=100:=by decide+kernel
 rcases h with⟨v,a,b,xs,ys,n,x,k,L,rfl,rfl,hc,ok,lx,ox,hn,sm,k0,k1,hL,kk⟩|⟨bad,kk⟩|⟨n,x,rfl,hn,bad,kk⟩
 rotate_left
 . exact⟨fun _ _=>False,⟨_,rfl,_,rfl,.inr ⟨bad,kk⟩⟩,fun _ _ h=>h.elim⟩
 . refine⟨fun σ' H'=>H'=H/\σ'=[sr c,sr n,some v2,none,none,none,none],⟨_,rfl,_,rfl,.inl ⟨n,_,_,_,_,rfl,hn,rfl,rfl⟩⟩,?_⟩
   rintro σ' H1 ⟨rfl,rfl⟩
   exact⟨fun _ _=>False,⟨_,rfl,v2,20,rfl,l20,s20,.inr ⟨bad,kk⟩⟩,fun _ _ h=>h.elim⟩
 have xo:=sm.ok;have f24:=sm.f24;have p0:=sm.p0;have p1:=sm.p1
 obtain⟨dn,en⟩:=id hn
 refine⟨fun σ' H'=>H'=H/\σ'=[sr c,sr n,si k,none,none,none,none],⟨_,rfl,_,rfl,.inl ⟨n,_,_,_,_,rfl,hn,rfl,rfl⟩⟩,?_⟩
 rintro σ' H1 ⟨rfl,rfl⟩
 refine⟨fun σ' H'=>H'=H1/\σ'=[sr c,sr n,si k,none,none,none,none],⟨_,rfl,_,20,rfl,l20,s20,.inl ⟨⟨k,rfl,k0,k1⟩,rfl,rfl⟩⟩,?_⟩
 rintro σ' H2 ⟨rfl,rfl⟩
 unfold A2m at kk
 let I_:L2.St ->L2.Hp ->Prop:=fun σ' H'=>H'=H2/\x.k≠ .none/\σ'=[sr c,sr n,si k,none,none,none,none]
 refine⟨I_,?_,?_⟩
 . refine⟨_,rfl,n,CN,dn,_,_,rfl,en,N.cl,N.n1,num1 _ _ _ _,rfl,_,rfl,U5 (fun h=>?_) (fun h=>⟨rfl,neS (b:= .none) h,rfl⟩)⟩
   rw[if_pos (eqS (b:= .none) h)] at kk
   exact⟨rfl,fun m H' nm sm num=>kk.calm ox sm hc num⟩
 refine L2.hideG fun Z_ z_=>?_
 rintro σ' H3 ⟨rfl,hn0,rfl⟩
 subst z_
 clear I_
 rw[if_neg hn0] at kk
 have so:=G0k (k:=k) xo.s0 xo.s1
 let I_:L2.St ->L2.Hp ->Prop:=fun σ' H'=>H'=H3/\σ'=[sr c,sr n,si k,si (sgI x.s k),none,none,none]
 refine⟨I_,?_,?_⟩
 . refine⟨_,rfl,_,_,rfl,rfl,(by decide:(0:Int)<2),rfl,_,rfl,?_⟩
   by_cases h2:k % 2=1
   . refine A0c (congrArg V.int h2) ⟨_,rfl,n,CN,dn,_,_,rfl,en,N.cl,N.n2,G6t _ _ _ _,rfl,?_⟩
     show _=[sr c,sr n,si k,si (sgI x.s k),none,none,none]
     unfold sgI
     rw[if_pos h2]
     rfl
   . refine G6 (fun z=>h2 (by injection z)) ⟨rfl,?_⟩
     show _=[sr c,sr n,si k,si (sgI x.s k),none,none,none]
     unfold sgI
     rw[if_neg h2]
     rfl
 rintro σ' H4 ⟨rfl,rfl⟩
 clear I_
 let I_:L2.St ->L2.Hp ->Prop:=fun σ' H'=>H'=H4/\x.k≠ .end_/\σ'=[sr c,sr n,si k,si (sgI x.s k),none,none,none]
 refine⟨I_,?_,?_⟩
 . refine⟨_,rfl,n,CN,dn,_,_,rfl,en,N.cl,N.n1,num1 _ _ _ _,rfl,_,rfl,U5 (fun h=>?_) (fun h=>⟨rfl,neS (b:= .end_) h,rfl⟩)⟩
   rw[if_pos (eqS (b:= .end_) h)] at kk
   refine⟨_,rfl,_,rfl,_,rfl,c,v,a,b,xs,ys,sgI x.s k,k,rfl,hc,ok,so.1,so.2,fun m H' nm sm num=>?_⟩
   by_cases c1:k=0
   . rw[if_pos c1] at kk num
     exact kk.calm ox sm hc num
   . rw[if_neg c1] at kk num
     by_cases c2:k>0
     . rw[if_pos c2] at kk num
       exact kk.calm ox sm hc num
     . rw[if_neg c2] at kk num
       exact kk.calm ox sm hc num
 refine L2.hideG fun Z_ z_=>?_
 rintro σ' H5 ⟨rfl,hE,rfl⟩
 subst z_
 clear I_
 rw[if_neg hE] at kk
 have hk:x.k= .plain:=by
   cases q:x.k with
   |plain=>rfl
   |end_=>exact absurd q hE
   |none=>exact absurd q hn0
 let I_:L2.St ->L2.Hp ->Prop:=fun σ' H'=>H'=H5/\x.f≠0/\σ'=[sr c,sr n,si k,si (sgI x.s k),none,none,none]
 refine⟨I_,?_,?_⟩
 . refine⟨_,rfl,n,CN,dn,_,_,rfl,en,N.cl,N.n3,D0d _ _ _ _,rfl,_,rfl,U5 (fun h0=>?_) (fun h0=>⟨rfl,fun z=>h0 (congrArg V.int z),rfl⟩)⟩
   rw[if_pos (V.int.inj h0)] at kk
   exact⟨_,rfl,_,rfl,_,rfl,n,CN,dn,_,_,rfl,en,N.cl,N.n4,num4 _ _ _ _,_,rfl,c,v,a,b,xs,ys,_,x.p,k,rfl,hc,lx,ox,so.1,so.2,k0,k1,kk⟩
 refine L2.hideG fun Z_ z_=>?_
 rintro σ' H6 ⟨rfl,hf,rfl⟩
 subst z_
 clear I_
 rw[if_neg hf] at kk
 have xp0:=xo.p0;have xp1:=xo.p1;have xf0:=xo.f0;have xf1:=xo.f1
 refine⟨fun σ' H'=>H'=H6/\σ'=[sr c,sr n,si k,si (sgI x.s k),si (k*x.p),none,none],⟨_,rfl,_,rfl,n,CN,dn,_,_,rfl,en,N.cl,N.n4,num4 _ _ _ _,_,_,rfl,rfl,A2a.ok (.inl ⟨by omega,by omega⟩),rfl,rfl⟩,?_⟩
 rintro σ' H7 ⟨rfl,rfl⟩
 let I_:L2.St ->L2.Hp ->Prop:=fun σ' H'=>H'=H7/\σ'=[sr c,sr n,si k,si (sgI x.s k),si (k*x.p),si (A4b x.f k),none]
 refine⟨I_,?_,?_⟩
 . have e60:((10^60:Nat):Int)=10^60:=by decide+kernel
   have b:x.f.toNat<2^200:=Nat.lt_of_lt_of_le (m:=10^60) (by omega) (by decide+kernel)
   refine⟨_,rfl,n,CN,dn,_,_,rfl,en,N.cl,N.n3,D0d _ _ _ _,_,rfl,k,rfl,x.f.toNat,k.natAbs,200,?_,b,by omega,rfl,rfl⟩
   show [V.int x.f,V.int (if k<0 then -k else k)]=[V.int (x.f.toNat:Int),V.int (k.natAbs:Int)]
   rw[Int.toNat_of_nonneg xf0]
   congr 3
   split<;>omega
 rintro σ' H8 ⟨rfl,rfl⟩
 clear I_
 obtain⟨st,sb,t5,b5⟩:=C3h (k:=k) (show 0<x.f by omega) f24 k0 k1
 have kb: -1200<=k*x.p/\k*x.p<=1200:=by
   have a:(k*x.p).natAbs<=20*60:=by
     rw[Int.natAbs_mul]
     exact Nat.mul_le_mul (by omega) (by omega)
   omega
 have ld:=hL hk hf
 have fp:=D6h ok st sb ld t5 b5 kb.1 kb.2
 let I_:L2.St ->L2.Hp ->Prop:=fun σ' H'=>∃q,B5 H8 H'/\A7r CR H' q (A4d x.f k) (A4c x.f k) (k*x.p)/\σ'=[sr c,sr n,si k,si (sgI x.s k),si (k*x.p),si (A4b x.f k),sr q]
 refine⟨I_,?_,?_⟩
 . by_cases hk0:k<0
   . refine⟨_,rfl,_,_,rfl,rfl,_,rfl,A0c hk0 ⟨_,rfl,_,rfl,fun q dq m1 m2 me=>G0e m1 m2 me fun H9 s9 ra=>⟨rfl,q,s9,?_,rfl⟩⟩⟩
     unfold A4d A4c
     rw[if_pos hk0,if_pos hk0]
     exact ra
   . refine⟨_,rfl,_,_,rfl,rfl,_,rfl,G6 hk0 ⟨_,rfl,_,rfl,fun q dq m1 m2 me=>G0e m1 m2 me fun H9 s9 ra=>⟨rfl,q,s9,?_,rfl⟩⟩⟩
     unfold A4d A4c
     rw[if_neg hk0,if_neg hk0]
     exact ra
 refine L2.hideG fun Z_ z_=>?_
 rintro σ' H9 ⟨q,s9,ra,rfl⟩
 subst z_
 clear I_
 exact⟨_,rfl,_,rfl,_,rfl,_,rfl,c,v,a,b,xs,ys,q,A4d x.f k,A4c x.f k,k*x.p,L,sgI x.s k,k*x.p,rfl,hc.same s9,ok,lx,ra,st,sb,ld,fp.1,fp.2,so.1,so.2,kk.same s9⟩
noncomputable abbrev C2b:Stmt:=(top 63)
noncomputable def C7r (K:Frag):Sp:=fun vs H Q _=>∃a ns k,vs=[.ref a,.int k]/\SqL K H a ((ns:List Int).map V.int)/\0<=k/\∀i,Q (.int i) H
theorem G1p:B8 Q32 Q32 (A5 C2b):=scK
theorem D8m(D:Def K mg "_law_cell_at" Q32 C2b f fd)(O:Own mg):sI P w K mg base 1 f fd Q32 (C7r K):=by
 refine G0.up (D.F.ok G1p (fun vs H Q E h=>?_) (fun cdv A outer s H vs Q E hr h=>?_))
 . obtain⟨a,ns,k,rfl,_⟩:=h
   rfl
 obtain⟨a,ns,i,rfl,hs,h0,k⟩:=h
 refine⟨_,(A4 (U0 (C8 A3y (pv 1) (U8 B6h (by rfl) O.len_ PySem.boot_len (A0 (pv 0) A3)) (B9 _)) (A7 (B7 (V8 V2 (pv 0) (pv 1) (fun _ _=>rfl)))) D7) (A7 (B7 A2))),?_⟩
 refine⟨_,rfl,_,rfl,a,_,rfl,.inl hs,_,_,rfl,rfl,_,rfl,?_⟩
 refine U5 (fun hlt=>?_) (fun _=>k 0)
 rw[List.length_map] at hlt
 obtain⟨j,rfl⟩:=Int.eq_ofNat_of_zero_le h0
 have hj:j<ns.length:=by omega
 exact⟨_,rfl,_,rfl,a,_,_,_,rfl,rfl,hs,V6 (v:=V.int ns[j]) (by simp[hj]),k _⟩
noncomputable abbrev A4q:Stmt:=(top 64)
noncomputable def B0a:Sp:=fun vs H Q _=>∃c k,vs=[.int c,.int k]/\0<=k/\k<=100/\∀m,0<=m ->m<2147483629 ->Q (.int m) H
theorem C3z:B8 Q7 Q7 (A5 A4q):=scK
theorem C8q(D:Def K mg "_law_mixed" Q7 A4q f fd):sI P w K mg base 1 f fd Q7 B0a:=by
 refine G0.up (D.F.ok C3z (fun vs H Q E h=>?_) (fun cdv A outer s H vs Q E hr h=>?_))
 . obtain⟨c,k,rfl,_⟩:=h
   rfl
 obtain⟨c,i,rfl,h0,h1,k⟩:=h
 refine⟨_,(A7 (B7 (A9 U3 (A9 U2 (A9 U3 (A9 U7 (A9 U7 (A9 U2 (pv 0) (A9 U7 A2 (A9 U2 (A9 U2 A2 (pv 1)) (pv 1)))) (A9 U2 A2 (pv 1))) A2) A2) A2) A2))),?_⟩
 have q0:(0:Int)<=2*i*i:=Int.mul_nonneg (by omega) h0
 have q1:2*i*i<=200*100:=Int.mul_le_mul (by omega) h1 h0 (by decide)
 have m1:IntMulOk 2 i:=A2a.ok (.inl ⟨by decide,by decide⟩)
 have m2:IntMulOk (2*i) i:=A2a.ok (.inr ⟨by omega,by omega⟩)
 have m3:IntMulOk c (48271+2*i*i):=A2a.ok (.inr ⟨by omega,by omega⟩)
 have m4:IntMulOk 69621 i:=A2a.ok (.inl ⟨by decide,by decide⟩)
 have m5:∀z:Int,IntMulOk z 69621:=fun z=>A2a.ok (.inr ⟨by decide,by decide⟩)
 refine⟨_,rfl,_,rfl,_,_,rfl,rfl,m1,_,rfl,_,_,rfl,rfl,m2,_,_,rfl,rfl,_,_,rfl,rfl,m3,_,rfl,_,_,rfl,rfl,m4,_,_,rfl,rfl,_,_,rfl,rfl,_,_,rfl,rfl,(by show(0:Int)<2147483647;decide),_,_,rfl,rfl,m5 _,_,_,rfl,rfl,(by show(0:Int)<2147483629;decide),?_⟩
 exact k _ (Int.emod_nonneg _ (by decide)) (Int.emod_lt_of_pos _ (by decide))
noncomputable abbrev A8z:Stmt:=(top 65)
noncomputable def A7y:Sp:=fun vs H Q _=>∃n:Nat,vs=[.int (n:Int)]/\n<=2500/\Q (.int ((10^n:Nat):Int)) H
theorem G1g:B8 ["_law_count"] ["_law_count"] (A5 A8z):=scK
theorem D8y(D:Def K mg "_law_ten" ["_law_count"] A8z f fd)(O:Own mg)(DG:base.NoDigits):sI P w K mg base 1 f fd ["_law_count"] A7y:=by
 refine G0.up (D.F.ok G1g (fun vs H Q E h=>?_) (fun cdv A outer s H vs Q E hr h=>?_))
 . obtain⟨n,rfl,_⟩:=h
   rfl
 obtain⟨n,rfl,hn,k⟩:=h
 refine⟨_,(A7 (B7 (V5 (B2a DG) (by rfl) O.int_ boot_int (A0 (A9 C0j C7 (A9 B9u C7 (pv 0))) A3)))),?_⟩
 have l1:("1":Str).length=1:=by decide+kernel
 have l0:("0":Str).length=1:=by decide+kernel
 refine⟨_,rfl,_,_,rfl,rfl,by omega,by omega,A4s (by rw[l0];omega),_,_,rfl,rfl,A4s (by rw[B1z,l0,l1];omega),?_⟩
 exact⟨C4h n,_,rfl,C5y n (by omega),A4s (by rw[B7z];omega),k⟩
noncomputable abbrev B0d:Stmt:=(top 66)
noncomputable abbrev A4r:Stmt:=(top 67)
noncomputable abbrev B0p:Stmt:=(top 68)
structure Nm.Wf(x:Nm):Prop where
 ok:x.Ok
 e:x.k= .end_ ->x.f=0/\x.p=0
 n:x.k= .none ->x.s=0/\x.f=0/\x.p=0
theorem C9b{s f p:Int}(h1:0<=s/\s<=1)(h2:0<=f/\f<=10^60-1)(h3: -200<=p/\p<=200):(Nm.mk .plain s f p).Wf:=⟨⟨h1.1,h1.2,h2.1,h2.2,h3.1,h3.2⟩,fun q=>(by cases q),fun q=>(by cases q)⟩
theorem G2d{s:Int}(h1:0<=s/\s<=1):(Nm.mk .end_ s 0 0).Wf:=⟨⟨h1.1,h1.2,by show(0:Int)<=0;decide,by show(0:Int)<=10^60-1;decide,by show(-200:Int)<=0;decide,by show(0:Int)<=200;decide⟩,fun _=>⟨rfl,rfl⟩,fun q=>(by cases q)⟩
theorem D7q:(Nm.mk .none 0 0 0).Wf:=⟨⟨by show(0:Int)<=0;decide,by show(0:Int)<=1;decide,by show(0:Int)<=0;decide,by show(0:Int)<=10^60-1;decide,by show(-200:Int)<=0;decide,by show(0:Int)<=200;decide⟩,fun q=>(by cases q),fun _=>⟨rfl,rfl,rfl⟩⟩
theorem D8e{L:Int}{n:Nat}(hn:n<=60):0<=L % ((10^n:Nat):Int)/\L % ((10^n:Nat):Int)<=10^60-1:=by
 have p:0<((10^n:Nat):Int):=Int.natCast_pos.mpr (Nat.pow_pos (by decide))
 have a:=Int.emod_nonneg L (Int.ne_of_gt p)
 have b:=Int.emod_lt_of_pos L p
 have c:(10:Nat)^n<=10^60:=Nat.pow_le_pow_right (by decide) hn
 have e:((10^60:Nat):Int)=10^60:=by decide+kernel
 omega
theorem C6d{L:Int}{n:Nat}(h1:1<=n)(hn:n<=60):0<=((10^n:Nat):Int)-1-L % 3/\((10^n:Nat):Int)-1-L % 3<=10^60-1:=by
 have c:(10:Nat)^n<=10^60:=Nat.pow_le_pow_right (by decide) hn
 have d:(10:Nat)^1<=10^n:=Nat.pow_le_pow_right (by decide) h1
 have e:((10^60:Nat):Int)=10^60:=by decide+kernel
 omega
theorem C5b{L:Int}{n:Nat}(hn:n<60):0<=((10^n:Nat):Int)*(1+L % 9)/\((10^n:Nat):Int)*(1+L % 9)<=10^60-1:=by
 have c:(10:Nat)^n<=10^59:=Nat.pow_le_pow_right (by decide) (by omega)
 have q:0<=1+L % 9/\1+L % 9<=9:=by omega
 generalize 1+L % 9=d at q
 have a:((10^n:Nat):Int)*d<=((10^59:Nat):Int)*9:=Int.mul_le_mul (Int.ofNat_le.mpr c) q.2 q.1 (by omega)
 have b:0<=((10^n:Nat):Int)*d:=Int.mul_nonneg (Int.natCast_nonneg _) q.1
 have e:((10^59:Nat):Int)*9<=10^60-1:=by decide+kernel
 exact⟨b,Int.le_trans a e⟩
noncomputable def B8g:Sp:=fun vs H Q _=>∃i,vs=[.int i]/\Q (.bl true) H
theorem D0h:B8 ["_law_thing"] ["_law_thing"] (A5 B0d):=scK
noncomputable def B4c:Sp:=fun vs H Q _=>∃c,vs=[.int c]/\∀(x:Nm) t H',x.Wf ->B5 H H' ->H' t=some (.tup x.vs) ->Q (.ref t) H'
theorem scLNumber:B8 Q51 ["_law_cell"] (A5 A4r):=scK
theorem C0k(D:Def K mg "_law_number" ["_law_cell"] A4r f fd)(dA:Def K mg "_law_mixed" Q7 A4q f1 fd1)(dB:sI P w K mg base 1 f1 fd1 Q7 B0a)
   (dC:Def K mg "_law_ten" ["_law_count"] A8z f2 fd2) (dD:sI P w K mg base 1 f2 fd2 ["_law_count"] A7y) (O:Own mg):sI P w K mg base 2 f fd ["_law_cell"] B4c:=by
 refine G0.up (D.F.ok scLNumber (fun vs H Q E h=>?_) (fun cdv A outer s H vs Q E hr h=>?_))
 . obtain⟨c,rfl,_⟩:=h
   rfl
 obtain⟨c,rfl,k⟩:=h
 have hx:V1 (A2d CX0 P w K mg base Q51 "_law_number" (A5 A4r) f cdv A outer s H E).nox EKF:=A1u
 refine⟨_,(A4 (A8 (D5 (i:=1) scLNumber.nd rfl (Or.inl rfl) (A9 U3 (A9 G9 (V0 dA dB hr hx (A0 (pv 0) (A0 A2 A3))) A2) A2))) (A4 (A8 (D5 (i:=2) scLNumber.nd rfl (Or.inl rfl) (A9 U3 (A9 G9 (V0 dA dB hr hx (A0 (pv 0) (A0 A2 A3))) A2) A2))) (A4 (A8 (U0 (C8 A3y (pv 1) A2 (B9 _)) (A7 (B7 (V8 V2 (J9 (A0 (V7 (A0 C7 (A0 A2 (A0 A2 (A0 A2 A3))))) (A0 (V7 (A0 C7 (A0 (pv 2) (A0 A2 (A0 A2 A3))))) A3))) (pv 1) (fun _ _=>rfl)))) D7)) (A4 (A8 (D5 (i:=3) scLNumber.nd rfl (Or.inl rfl) (V8 V2 (J9 (A0 A2 (A0 A2 (A0 A2 (A0 A2 (A0 A2 (A0 A2 (A0 A2 (A0 A2 (A0 A2 (A0 A2 (A0 A2 (A0 A2 A3))))))))))))) (A9 U3 (A9 G9 (V0 dA dB hr hx (A0 (pv 0) (A0 A2 A3))) A2) A2) (fun _ _=>rfl)))) (A4 (A8 (D5 (i:=4) scLNumber.nd rfl (Or.inl rfl) A2)) (A4 (A8 (B0s PassesOwn.never rfl (A2b rfl O.range_ (A0 (A9 U7 A2 (A9 G9 (pv 3) A2)) A3)) (D0 (i:=5) scLNumber.nd rfl (Or.inl rfl)) (A7 (D5 (i:=4) scLNumber.nd rfl (Or.inl rfl) (A9 U7 (A9 U2 (pv 4) A2) (V0 dA dB hr hx (A0 (pv 0) (A0 (A9 U7 A2 (pv 5)) A3)))))))) (A4 (A8 (D5 (i:=6) scLNumber.nd rfl (Or.inl rfl) (A9 U3 (pv 4) (V0 dC dD hr hx (A0 (pv 3) A3))))) (A4 (A8 (U0 (C8 A3y (pv 1) A2 (B9 _)) (A7 (D5 (i:=6) scLNumber.nd rfl (Or.inl rfl) A2)) (A7 (U0 (C8 A3y (pv 1) A2 (B9 _)) (A7 (D5 (i:=6) scLNumber.nd rfl (Or.inl rfl) (A9 V3 (A9 V3 (V0 dC dD hr hx (A0 (pv 3) A3)) A2) (A9 U3 (pv 4) A2)))) (A7 (U0 (C8 A3y (pv 1) A2 (B9 _)) (A7 (D5 (i:=6) scLNumber.nd rfl (Or.inl rfl) (A9 U2 (V0 dC dD hr hx (A0 (A9 V3 (pv 3) A2) A3)) (A9 U7 A2 (A9 U3 (pv 4) A2))))) D7)))))) (A4 (A8 (D5 (i:=7) scLNumber.nd rfl (Or.inl rfl) (A9 V3 (A9 U3 (A9 G9 (V0 dA dB hr hx (A0 (pv 0) (A0 A2 A3))) A2) A2) A2))) (A4 (A8 (U0 (C8 G4 (A9 U3 (A9 G9 (V0 dA dB hr hx (A0 (pv 0) (A0 A2 A3))) A2) A2) A2 (B9 _)) (A7 (D5 (i:=7) scLNumber.nd rfl (Or.inl rfl) (V8 V2 (J9 (A0 (A1q A0m A2) (A0 A2 (A0 A2 (A0 (A1q A0m A2) (A0 A2 (A0 (A1q A0m A2) (A0 A2 (A0 (A1q A0m A2) A3))))))))) (A9 U3 (A9 G9 (V0 dA dB hr hx (A0 (pv 0) (A0 A2 A3))) A2) A2) (fun _ _=>rfl)))) D7)) (A7 (B7 (V7 (A0 C7 (A0 (pv 2) (A0 (pv 6) (A0 (pv 7) A3))))))))))))))))),?_⟩
 have z2:2<=sizeLine:=D3 (by decide)
 have z4:4<=sizeLine:=D3 (by decide)
 have z8:8<=sizeLine:=D3 (by decide)
 have z12:12<=sizeLine:=D3 (by decide)
 have d7:(0:Int)<7/\(7:Int).natAbs.log2<9000:=⟨by decide,by decide+kernel⟩
 have d8:(0:Int)<8/\(8:Int).natAbs.log2<9000:=⟨by decide,by decide+kernel⟩
 have mC:∀z n:Int, -(2^64)<n ->n<2^64 ->IntMulOk z n:=fun z n a b=>A2a.ok (.inr ⟨a,b⟩)
 have pT:∀n:Nat,0<((10^n:Nat):Int):=fun n=>Int.natCast_pos.mpr (Nat.pow_pos (by decide))
 let I_:L2.St ->L2.Hp ->Prop:=fun σ' H'=>∃kd:Int,H'=H/\0<=kd/\kd<24/\σ'=[si c,si kd,none,none,none,none,none,none]
 refine⟨I_,?_,?_⟩
 . refine⟨_,rfl,c,1,rfl,by decide,by decide,fun m _ _=>⟨_,_,rfl,rfl,d7,_,_,rfl,rfl,(by decide:(0:Int)<24),_,rfl,Int.emod_nonneg _ (by decide),Int.emod_lt_of_pos _ (by decide),rfl⟩⟩
 refine L2.hideG fun Z_ z_=>?_
 rintro σ' H' ⟨kd,rfl,k0,k1,rfl⟩
 subst z_
 clear I_
 refine⟨fun σ' H2=>∃sg:Int,H2=H'/\0<=sg/\sg<=1/\σ'=[si c,si kd,si sg,none,none,none,none,none],?_,?_⟩
 . refine⟨_,rfl,c,2,rfl,by decide,by decide,fun m _ _=>⟨_,_,rfl,rfl,d7,_,_,rfl,rfl,(by decide:(0:Int)<2),m/7 % 2,rfl,by omega,by omega,rfl⟩⟩
 refine L2.hideG fun Z_ z_=>?_
 rintro σ' H2 ⟨sg,rfl,s0,s1,rfl⟩
 subst z_
 refine⟨fun σ' H3=>H3=H2/\σ'=[si c,si kd,si sg,none,none,none,none,none],?_,?_⟩
 . refine⟨_,rfl,_,_,rfl,rfl,_,rfl,U5 (fun hk=>?_) (fun hk=>⟨rfl,rfl⟩)⟩
   refine⟨z4,fun t1 n1=>?_⟩
   have u1:=B5.upd (o:= .tup [.str "none",.int 0,.int 0,.int 0]) n1
   refine⟨_,rfl,z4,fun t2 n2=>⟨z2,fun l nl=>?_⟩⟩
   have u2:=B5.upd (o:= .tup [.str "end",.int sg,.int 0,.int 0]) n2
   have u3:=B5.upd (o:= .lst [.ref t1,.ref t2]) nl
   have hk:kd<2:=hk
   rcases(by omega:kd=0\/kd=1) with rfl|rfl
   . exact⟨_,rfl,l,_,_,_,rfl,rfl,SqL.of A6,V6 (j:=0) rfl,k ⟨.none,0,0,0⟩ t1 _ D7q ((u1.trans u2).trans u3) ((u2.trans u3) _ _ A6)⟩
   . exact⟨_,rfl,l,_,_,_,rfl,rfl,SqL.of A6,V6 (j:=1) rfl,k ⟨.end_,sg,0,0⟩ t2 _ (G2d ⟨s0,s1⟩) ((u1.trans u2).trans u3) (u3 _ _ A6)⟩
 rintro σ' H3 ⟨rfl,rfl⟩
 refine⟨fun σ' H4=>∃n:Nat,B5 H3 H4/\1<=n/\n<=60/\σ'=[si c,si kd,si sg,si (n:Int),none,none,none,none],?_,?_⟩
 . refine⟨z12,fun l nl=>⟨_,rfl,c,3,rfl,by decide,by decide,fun m _ _=>?_⟩⟩
   obtain⟨v,hv,ix⟩:=ixs (xs:=[1,1,2,2,3,3,4,5,9,12,24,60]) (i:=m/7 % 12) (Int.emod_nonneg _ (by decide)) (by show m/7 % 12<12;exact Int.emod_lt_of_pos _ (by decide))
   have bv:1<=v/\v<=60:=by
     simp only[List.mem_cons,List.not_mem_nil,or_false] at hv
     omega
   obtain⟨n,rfl⟩:=Int.eq_ofNat_of_zero_le (show 0<=v by omega)
   exact⟨_,_,rfl,rfl,d7,_,_,rfl,rfl,(by decide:(0:Int)<12),l,_,_,_,rfl,rfl,SqL.of A6,ix,n,B5.upd nl,by omega,by omega,rfl⟩
 refine L2.hideG fun Z_ z_=>?_
 rintro σ' H4 ⟨n,s4,n1,n2,rfl⟩
 subst z_
 refine⟨fun σ' H5=>H5=H4/\σ'=[si c,si kd,si sg,si (n:Int),si 0,none,none,none],⟨rfl,rfl⟩,?_⟩
 rintro σ' H5 ⟨rfl,rfl⟩
 refine⟨fun σ' H6=>H6=H5/\∃(L:Int) (v:Option V),σ'=[si c,si kd,si sg,si (n:Int),si L,v,none,none],?_,?_⟩
 . refine⟨_,rfl,_,_,rfl,rfl,d8,_,_,rfl,rfl,_,rfl,by omega,by omega,A8j (fun i σ' H6=>H6=H5/\∃(L:Int) (v:Option V),σ'=[si c,si kd,si sg,si (n:Int),si L,v,none,none]) ⟨rfl,0,none,rfl⟩ ?_ ?_⟩
   . rintro i σ' H6 hi ⟨rfl,L,v,rfl⟩
     exact⟨_,rfl,_,_,rfl,rfl,mC _ _ (by decide) (by decide),_,rfl,_,rfl,_,_,rfl,rfl,c,_,rfl,by omega,by omega,fun m _ _=>⟨_,_,rfl,rfl,rfl,_,_,rfl⟩⟩
   . rintro σ' H6 h
     exact h
 refine L2.hideG fun Z_ z_=>?_
 rintro σ' H6 ⟨rfl,L,v,rfl⟩
 subst z_
 refine⟨fun σ' H7=>H7=H6/\σ'=[si c,si kd,si sg,si (n:Int),si L,v,si (L % ((10^n:Nat):Int)),none],?_,?_⟩
 . exact⟨_,rfl,_,rfl,n,rfl,by omega,_,_,rfl,rfl,pT n,rfl,rfl⟩
 rintro σ' H7 ⟨rfl,rfl⟩
 refine⟨fun σ' H8=>H8=H7/\∃fg:Int,0<=fg/\fg<=10^60-1/\σ'=[si c,si kd,si sg,si (n:Int),si L,v,si fg,none],?_,?_⟩
 . have f1:=D8e (L:=L) n2
   have f2:=C6d (L:=L) n1 n2
   have f3:=C5b (L:=L) (n:=n-1) (by omega)
   refine⟨_,rfl,_,_,rfl,rfl,_,rfl,U5 (fun _=>⟨rfl,0,by decide,by decide,rfl⟩) (fun _=>?_)⟩
   refine⟨_,rfl,_,_,rfl,rfl,_,rfl,U5 (fun _=>?_) (fun _=>?_)⟩
   . exact⟨_,rfl,n,rfl,by omega,_,_,rfl,rfl,_,rfl,_,_,rfl,rfl,(by decide:(0:Int)<3),_,_,rfl,rfl,rfl,_,f2.1,f2.2,rfl⟩
   refine⟨_,rfl,_,_,rfl,rfl,_,rfl,U5 (fun _=>?_) (fun _=>⟨rfl,_,f1.1,f1.2,rfl⟩)⟩
   have mu:IntMulOk ((10^(n-1):Nat):Int) (1+L % 9):=A2a.ok (.inr ⟨by omega,by omega⟩)
   exact⟨_,rfl,_,_,rfl,rfl,n-1,(by show [V.int ((n:Int)-1)]=[V.int ((n-1:Nat):Int)];rw[show(n:Int)-1=((n-1:Nat):Int) by omega]),by omega,_,rfl,_,_,rfl,rfl,(by decide:(0:Int)<9),_,_,rfl,rfl,_,_,rfl,rfl,mu,rfl,_,f3.1,f3.2,rfl⟩
 refine L2.hideG fun Z_ z_=>?_
 rintro σ' H8 ⟨rfl,fg,g0,g1,rfl⟩
 subst z_
 refine⟨fun σ' H9=>H9=H8/\∃pw:Int, -200<=pw/\pw<=200/\σ'=[si c,si kd,si sg,si (n:Int),si L,v,si fg,si pw],?_,?_⟩
 . exact⟨_,rfl,c,14,rfl,by decide,by decide,fun m _ _=>⟨_,_,rfl,rfl,d7,_,_,rfl,rfl,(by decide:(0:Int)<13),_,_,rfl,rfl,rfl,m/7 % 13-6,by omega,by omega,rfl⟩⟩
 refine L2.hideG fun Z_ z_=>?_
 rintro σ' H9 ⟨rfl,pw,p0,p1,rfl⟩
 subst z_
 refine⟨fun σ' H10=>B5 H9 H10/\∃pw:Int, -200<=pw/\pw<=200/\σ'=[si c,si kd,si sg,si (n:Int),si L,v,si fg,si pw],?_,?_⟩
 . refine⟨_,rfl,c,15,rfl,by decide,by decide,fun m _ _=>⟨_,_,rfl,rfl,d7,_,_,rfl,rfl,(by decide:(0:Int)<12),rfl,_,rfl,U5 (fun _=>?_) (fun _=>⟨B5.refl _,pw,p0,p1,rfl⟩)⟩⟩
   refine⟨_,rfl,_,rfl,_,rfl,_,rfl,z8,fun l nl=>⟨_,rfl,c,16,rfl,by decide,by decide,fun m' _ _=>?_⟩⟩
   obtain⟨q,hq,ix⟩:=ixs (xs:=[-200,200,60, -60,97, -83,30, -30]) (i:=m'/7 % 8) (Int.emod_nonneg _ (by decide)) (by show m'/7 % 8<8;exact Int.emod_lt_of_pos _ (by decide))
   have bq: -200<=q/\q<=200:=by
     simp only[List.mem_cons,List.not_mem_nil,or_false] at hq
     omega
   exact⟨_,_,rfl,rfl,d7,_,_,rfl,rfl,(by decide:(0:Int)<8),l,_,_,_,rfl,rfl,SqL.of A6,ix,B5.upd nl,q,bq.1,bq.2,rfl⟩
 refine L2.hideG fun Z_ z_=>?_
 rintro σ' H10 ⟨s10,pw,p0,p1,rfl⟩
 subst z_
 refine⟨_,rfl,_,rfl,_,rfl,z4,fun t nt=>?_⟩
 exact k ⟨.plain,sg,fg,pw⟩ t _ (C9b ⟨s0,s1⟩ ⟨g0,g1⟩ ⟨p0,p1⟩) (s4.trans (s10.trans (B5.upd nt))) A6
noncomputable def C2x (CN:Addr):Sp:=fun vs H Q _=>∃t x,vs=[.ref t]/\H t=some (.tup (Nm.vs x))/\x.Wf/\∀n H',H n=none ->B5 H H' ->Y8 CN H' n x ->Q (.ref n) H'
theorem scLMade:B8 Q52 Q8 (A5 B0p):=scK
theorem C9s{f f1 f2 f3 CN CB:Addr}(D:Def K mg "_law_made" Q8 B0p f fd)(dA:Def K mg "plain" Q10 B2r f1 fd1)(dB:sI P w K mg base 3 f1 fd1 Q10 (B5t K CN CB))
   (dC:Def K mg "end" ["sign"] B9p f2 fd2) (dD:sI P w K mg base 3 f2 fd2 ["sign"] (B7j K CN CB)) (dE:Def K mg "nothing" [] A3a f3 fd3) (dF:sI P w K mg base 3 f3 fd3 [] (A5s CN)):sI P w K mg base 4 f fd Q8 (C2x CN):=by
 refine G0.up (D.F.ok scLMade (fun vs H Q E h=>?_) (fun cdv A outer s H vs Q E hr h=>?_))
 . obtain⟨t,x,rfl,_⟩:=h
   rfl
 obtain⟨t,x,rfl,ht,wf,k⟩:=h
 have hx:V1 (A2d CX0 P w K mg base Q52 "_law_made" (A5 B0p) f cdv A outer s H E).nox EKF:=A1u
 refine⟨_,(A4 (A1e (pv 0) (A0x rfl (D4 (D0 (i:=1) scLMade.nd rfl (Or.inl rfl)) (D4 (D0 (i:=2) scLMade.nd rfl (Or.inl rfl)) (D4 (D0 (i:=3) scLMade.nd rfl (Or.inl rfl)) (D4 (D0 (i:=4) scLMade.nd rfl (Or.inl rfl)) Z0)))))) (A4 (U0 (C8 G4 (pv 1) C7 (B9 _)) (A7 (B7 (V0 dA dB hr hx (A0 (pv 2) (A0 (pv 3) (A0 (pv 4) A3)))))) D7) (A4 (U0 (C8 G4 (pv 1) C7 (B9 _)) (A7 (B7 (V0 dC dD hr hx (A0 (pv 2) A3)))) D7) (A7 (B7 (G1v dE dF hr hx)))))),?_⟩
 have ok:=wf.ok
 have g1:A2s 0 1 (.int x.s):=⟨_,rfl,ok.s0,ok.s1⟩
 have g2:A2s 0 (10^60-1) (.int x.f):=⟨_,rfl,ok.f0,ok.f1⟩
 have g3:A2s (-200) 200 (.int x.p):=⟨_,rfl,ok.p0,ok.p1⟩
 refine⟨_,rfl,t,_,rfl,SqT.of ht,rfl,_,_,rfl,_,_,rfl,_,_,rfl,_,_,rfl,rfl,?_⟩
 refine⟨_,rfl,rfl,_,rfl,U5 (fun h=>?_) (fun h=>?_)⟩
 . have hk:x.k= .plain:=eqS (b:= .plain) h
   refine⟨_,rfl,_,rfl,_,rfl,_,_,_,rfl,.inl ⟨g1,g2,g3,fun n H' nn sm num=>k n H' nn sm ?_⟩⟩
   unfold Y8
   rw[hk]
   exact num
 have hk:x.k≠ .plain:=neS (b:= .plain) h
 refine⟨_,rfl,rfl,_,rfl,U5 (fun h=>?_) (fun h=>?_)⟩
 . have hk:x.k= .end_:=eqS (b:= .end_) h
   obtain⟨ef,ep⟩:=wf.e hk
   refine⟨_,rfl,_,rfl,.inl ⟨g1,fun n H' nn sm num=>k n H' nn sm ?_⟩⟩
   unfold Y8
   rw[hk,ef,ep]
   exact num
 have hk':x.k= .none:=by
   have a:=neS (b:= .end_) h
   cases q:x.k with
   |plain=>exact absurd q hk
   |end_=>exact absurd q a
   |none=>rfl
 obtain⟨es,ef,ep⟩:=wf.n hk'
 refine⟨rfl,fun n H' nn sm num=>k n H' nn sm ?_⟩
 unfold Y8
 rw[hk',es,ef,ep]
 exact num
structure A8s(H:Hp)(l:Addr)(ts:List (Addr×Nm)):Prop where
 l:H l=some (.lst (ts.map fun p=>V.ref p.1))
 t:∀p∈ts,H p.1=some (.tup p.2.vs)/\p.2.Wf
theorem A8s.same{H H':Hp}{l:Addr}{ts:List (Addr×Nm)}(h:A8s H l ts)(e:B5 H H'):A8s H' l ts:=⟨e _ _ h.l,fun p hp=>⟨e _ _ (h.t p hp).1,(h.t p hp).2⟩⟩
theorem C2n{α:Type}{f:α ->V}{R:α ->Prop}:∀{ys:List V},(∀(i:Nat) y,ys[i]?=some y ->∃a,y=f a/\R a) ->∃as:List α,ys=as.map f/\∀a∈as,R a
 | [],_=>⟨[],rfl,fun a h=>by simp at h⟩
 | y::ys,h=>by
   obtain⟨a,ha,ra⟩:=h 0 y rfl
   obtain⟨as,e,r⟩:=C2n (ys:=ys) (fun i z hz=>h (i+1) z (by simpa using hz))
   refine⟨a::as,by rw[ha,e];rfl,fun b hb=>?_⟩
   rcases List.mem_cons.mp hb with rfl|hb
   . exact ra
   . exact r b hb
noncomputable def rdS (zs:List Str):PyData:= .list (zs.map PyData.str)
noncomputable def OkL (zs:List Str):Prop:=zs.length<=100/\∀z∈zs,PyData.strOk z=true
theorem G6r:∀{zs:List Str},(∀z∈zs,PyData.strOk z=true) ->PyData.canLayAll0 (zs.map PyData.str)=true/\PyData.depthAll (zs.map PyData.str)<=1
 | [],_=>by simp[PyData.canLayAll0,PyData.depthAll]
 | z ::zs,h=>by
   obtain⟨a,b⟩:=G6r (zs:=zs) fun z' h'=>h z' (List.mem_cons_of_mem _ h')
   have c:=h z List.mem_cons_self
   constructor
   . simp[PyData.canLayAll0,PyData.canLay0,c,a]
   . simp only[List.map_cons,PyData.depthAll,PyData.depth]
     omega
theorem shS{zs:List Str}(h:OkL zs):SeqAt.shaped (rdS zs)=true:=by
 obtain⟨a,b⟩:=G6r h.2
 unfold SeqAt.shaped rdS
 simp only[PyData.canLay0,PyData.depth,a,Bool.and_true,Bool.and_eq_true,decide_eq_true_eq,List.length_map]
 exact⟨trivial,decide_eq_true (by omega)⟩
theorem G1y:∀zs:List Str,PyData.eqv (rdS zs) (rdS zs)=true:=by
 have h:∀zs:List Str,PyData.eqvAll (zs.map PyData.str) (zs.map PyData.str)=true:=fun zs=>by
   induction zs with
   |nil=>simp[PyData.eqvAll]
   |cons z zs ih=>simp[PyData.eqvAll,PyData.eqv,ih]
 intro zs
 simp[rdS,PyData.eqv,h]
theorem G6c{K:Frag}{H:Hp}:∀zs:List Str,B2u K H (zs.map V.str) (zs.map PyData.str)
 | []=> .nil
 |z::zs=> .cons (.str z) (G6c zs)
theorem A4h{K:Frag}{H:Hp}{p:Addr}{zs:List Str}(h:H p=some (.lst (zs.map V.str))):RdD K H (.ref p) (rdS zs):= .lst (SqL.of h) (G6c zs)
theorem C7k:∀z∈Y5,PyData.strOk z=true:=by decide+kernel
noncomputable def B3e (zs:List Str):Prop:=∃p:Str ->Bool,zs=Y5.filter p
theorem B3e.mem{zs:List Str}(h:B3e zs):∀z∈zs,z∈Y5:=by
 obtain⟨p,rfl⟩:=h
 exact fun z hz=>(List.mem_filter.mp hz).1
theorem B0q{zs ws:List Str}(h:B3e zs)(e:∀z,z∈ws↔z∈zs):Y0 ws=zs:=by
 obtain⟨p,rfl⟩:=h
 unfold Y0
 refine List.filter_congr fun z hz=>?_
 rw[Bool.eq_iff_iff,List.contains_iff_mem,e,List.mem_filter]
 simp[hz]
theorem G1w:∀i<7,Y5.idxOf (Y5.getD i "")=i:=by decide+kernel
noncomputable def B7p (k:Str) (s f p:Int):PyData:= .tuple [.str k,.int s,.int f,.int p]
theorem shD{k:Str}(s f p:Int)(h:PyData.strOk k=true):SeqAt.shaped (B7p k s f p)=true:=by
 unfold SeqAt.shaped B7p
 simp[PyData.canLay0,PyData.canLayAll0,PyData.depth,PyData.depthAll,h]
theorem eqD(k:Str)(s f p:Int):PyData.eqv (B7p k s f p) (B7p k s f p)=true:=by
 simp[B7p,PyData.eqv,PyData.eqvAll]
theorem rdD{K:Frag}{H:Hp}{d:Addr}{k:Str}{s f p:Int}(h:H d=some (.tup [.str k,.int s,.int f,.int p])):RdD K H (.ref d) (B7p k s f p):= .tup (SqT.of h) (.cons (.str _) (.cons (.int _) (.cons (.int _) (.cons (.int _) .nil))))
theorem okK(k:Kd):PyData.strOk k.str=true:=by cases k<;>decide+kernel
noncomputable abbrev D0s:Stmt:=(top 78)
theorem C0m(D:Def K mg "_law_whole" ["_law_thing"] B0d f fd)(O:Own mg)(T:Kit K):C6 P w K mg base 1 f fd ["_law_thing"] B8g:=by
 refine D.F.ok2 D0h (fun vs H Q E h=>?_) (fun X cdv A outer s H vs Q E hX hr hx h=>?_)
 . obtain⟨i,rfl,_⟩:=h
   rfl
 subst hX
 obtain⟨i,rfl,k⟩:=h
 refine⟨_,(A7 (B7 (Z4 (A9j O.isi (pv 0) (pty O.int_ boot_int)) (Z6 (G2g (A9j O.isi (pv 0) (pty O.bool_ boot_bool))))))),?_⟩
 exact⟨_,rfl,_,_,_,_,true,rfl,rfl,B4u i,T.int_int,_,rfl,Z3 ⟨_,rfl,_,_,_,_,false,rfl,rfl,B4u i,T.int_bool,_,rfl,k⟩⟩
noncomputable def C8r (CN:Addr):Sp:=fun vs H Q _=>∃n q x,vs=[.ref n,.ref q]/\Y8 CN H n x/\H q=some (.tup (Nm.vs x))/\∀H',B5 H H' ->Q (.bl true) H'
theorem scLIs:B8 ["_law_found","_law_due","_law_made_here"] Q17 (A5 D0s):=scK
theorem G2t{f f1 f2 CN CB:Addr}(D:Def K mg "_law_is" Q17 D0s f fd)(dA:Def K mg "told" ["number"] C2f f1 fd1)(dB:C6 P w K mg base 2 f1 fd1 ["number"] (C9n K CN CB))(dC:Def K mg "_law_whole" ["_law_thing"] B0d f2 fd2)(dD:C6 P w K mg base 1 f2 fd2 ["_law_thing"] B8g)(O:Own mg)(T:Kit K):C6 P w K mg base 3 f fd Q17 (C8r CN):=by
 refine D.F.ok2 scLIs (fun vs H Q E h=>?_) (fun X cdv A outer s H vs Q E hX hr hx h=>?_)
 . obtain⟨n,q,x,rfl,_⟩:=h
   rfl
 subst hX
 obtain⟨n,q,x,rfl,num,eq,k⟩:=h
 have hu:=hr.units
 refine⟨_,(A4 (A8 (D5 (i:=2) scLIs.nd rfl (Or.inl rfl) (G5 dA dB hr hx (A0 (pv 0) A3)))) (A4 (A8 (U0 (PW.pt (A4n (A1a (Z5 (A9j O.isi (pv 2) (pty O.tuple_ boot_tuple)))) (A4n (C8 (C0w hr.units) (pv 2) (pv 1) (B9 _)) (A6b (A1a (Z5 (A9j O.isi (V8 A1h (pv 2) A2 (fun _ _=>rfl)) (pty O.str_ boot_str)))))))) (A7 (B7 A0v)) D7)) (A7 (B7 (U8 (C5v hx.hd) (by rfl) O.all_ boot_all (A0 (C7x (N:=["_law_part"]) ⟨rfl,by decide+kernel,by decide+kernel,by decide+kernel,by decide+kernel⟩ hx.hd (A9w (C8e G3e (pv 2) (D6u A2) D6p)) rfl (fun C s₀ H₀ ex pn h=>D0 (i:=0) (by decide+kernel:(["_law_part"]:List Str).Nodup) rfl (Or.inl rfl)) (fun C s₀ H₀ ex pn h=>(D7v h dC dD hr (A0 (pv 0) A3)))) A3)))))),?_⟩
 refine⟨fun σ' H'=>∃t,B5 H H'/\H' t=some (.tup x.vs)/\σ'=[sr n,sr q,sr t],⟨_,rfl,_,rfl,.inl ⟨n,_,_,_,_,rfl,num,fun t nt=>⟨t,B5.upd nt,A6,rfl⟩⟩⟩,?_⟩
 refine L2.hideG fun Z_ z_=>?_
 rintro σ' H1 ⟨t,s1,et,rfl⟩
 subst z_
 let I_:L2.St ->L2.Hp ->Prop:=fun σ' H'=>H'=H1/\σ'=[sr n,sr q,sr t]
 refine⟨I_,?_,?_⟩
 . refine⟨_,rfl,_,_,_,_,true,rfl,rfl,G0m et,T.tuple_tuple,_,rfl,Y1 ?_⟩
   refine⟨_,rfl,_,rfl,B7p x.k.str x.s x.f x.p,B7p x.k.str x.s x.f x.p,rdD et,rdD (s1 _ _ eq),shD _ _ _ (okK _),shD _ _ _ (okK _),_,rfl,?_⟩
   rw[if_pos rfl,eqD]
   refine Y1 ⟨_,rfl,t,_,_,_,rfl,rfl,SqT.of et,V6 (j:=0) rfl,_,_,_,_,true,rfl,rfl,B4s _,T.str_str,_,rfl,Y1 ⟨rfl,rfl⟩⟩
 rintro σ' H2 ⟨rfl,rfl⟩
 clear I_
 refine⟨_,rfl,1,rfl,t,x.vs,rfl,SqT.of et,(fun z=>absurd (show HT.sIx 4 0 (some 1)=0 from z.1) (by decide)),fun p np=>⟨p,rfl,⟨_,SqT.of A6⟩,?_⟩⟩
 have u1:=B5.upd (o:= .tup (C0v x.vs (some 1) none)) np
 have ep:upd H2 p (.tup (C0v x.vs (some 1) none)) p=some (.tup [.int x.s,.int x.f,.int x.p]):=A6
 generalize upd H2 p (.tup (C0v x.vs (some 1) none))=G at*
 refine A3c (J:=Itt K p) (n:=3) (fun _ y _=>y= .bl true) (by decide) (fun _ _ _ _ _ _ h _ _=>h) (fun i H3 Qy hi sm hy=>?_) (fun H3 sm=>⟨_,SqT.of (sm _ _ ep),Nat.le_refl 3⟩) (fun D H' ys sm nD eD hlen hR=>?_)
 . obtain⟨j,hj⟩:∃j:Int,([.int x.s,.int x.f,.int x.p]:List V)[i]?=some (.int j):=by
     rcases(by omega:i=0\/i=1\/i=2) with rfl|rfl|rfl<;>exact⟨_,rfl⟩
   refine⟨⟨_,_,SqT.of (sm _ _ ep),hj⟩,fun y H4 yl=>?_⟩
   obtain⟨rfl,yl⟩:=yl
   have e:=yl _ (SqT.of (sm _ _ ep))
   rw[hj] at e
   obtain rfl:=(Option.some.inj e).symm
   exact⟨_,rfl,j,rfl,hy _ _ (B5.refl _) rfl⟩
 have ey:ys=[true,true,true].map V.bl:=by
   match ys,hlen with
   | [a,b,c],_=>rw[hR 0 a rfl,hR 1 b rfl,hR 2 c rfl];rfl
 refine⟨D,[true,true,true],rfl,SqL.of (by rw[eD,ey]),k _ (s1.trans (u1.trans sm))⟩
noncomputable abbrev A4y:Stmt:=(top 77)
noncomputable def Rdy (CN:Addr) (wh:Int) (as:List V) (v:Cv) (c:Addr) (res:Nm×List Str) (H:Hp):Prop:=∃n x k L,as=[.ref n,.int k]/\Y8 CN H n x/\x.Sm/\ -20<=k/\k<=20/\B0y x k L/\res=A2m v x k L/\n≠c
noncomputable def G7b (K:Frag) (CN:Addr) (wh:Int) (as:List V) (H:Hp):Prop:=∃v1 v2,as=[v1,v2]/\B2d K CN H v1
theorem Y8.keepD{CN:Addr}{H H':Hp}{n c:Addr}{x:Nm}(h:Y8 CN H n x)(k:∀b o,H b=some o ->(∀kv,o≠ .dK kv) ->b≠c ->H' b=some o)(hn:n≠c):Y8 CN H' n x:=by
 obtain⟨d,e⟩:=h
 exact⟨d,k _ _ e (fun _ z=>by cases z) hn⟩
theorem Rdy.keep{CN:Addr}{wh:Int}{as:List V}{v:Cv}{c:Addr}{res:Nm×List Str}{H H':Hp}(h:Rdy CN wh as v c res H)(k:∀b o,H b=some o ->(∀kv,o≠ .dK kv) ->b≠c ->H' b=some o):Rdy CN wh as v c res H':=by
 obtain⟨n,x,k',L,h1,m1,o1,a1,a2,hL,hr,c1⟩:=h
 exact⟨n,x,k',L,h1,m1.keepD k c1,o1,a1,a2,hL,hr,c1⟩
noncomputable def A8d (K:Frag) (CN CC CT CB:Addr):Sp:=fun vs H Q E=>∃wh c l as,vs=[.int wh,.ref c,.ref l]/\H l=some (.lst as)/\
 ((∃v a b xs ys res,Z7 CC H c v a b xs ys/\v.Ok/\xs.length<=900/\Y0 xs=xs/\Rdy CN wh as v c res H/\A5c CN CC CT H c v b xs ys res Q E)\/(G7b K CN wh as H/\∀H',B5 H H' ->E (.ref CB) none H'))
theorem C6m:B8 Q13 Q13 (A5 A4y):=scK
theorem C0s{f f1 CN CC CB CB4 CT:Addr}(D:Def K mg "_law_called" Q13 A4y f fd)(dA:Def K mg "to_power" Q16 B0w f1 fd1)(dB:C6 P w K mg base 7 f1 fd1 Q16 (C2c K CN CC CT CB CB4)):C6 P w K mg base 9 f fd Q13 (A8d K CN CC CT CB):=by
 have G_to_power:=C6.mono dB (show 7<=8 by decide)
 refine D.F.ok2 C6m (fun vs H Q E h=>?_) (fun X cdv A outer s H vs Q E hX hr hx h=>?_)
 . obtain⟨wh,c,l,as,rfl,_⟩:=h
   rfl
 subst hX
 obtain⟨wh,c,l,as,rfl,el,h⟩:=h
 have go:∃v1 v2,as=[v1,v2]/\C2c K CN CC CT CB CB4 [.ref c,v1,v2] H Q E:=by
   rcases h with⟨v,a,b,xs,ys,res,ct,ok,lx,ox,⟨n,x,k',L,rfl,m1,o1,a1,a2,hL,rfl,_⟩,k⟩|⟨⟨v1,v2,rfl,bad⟩,k⟩
   . exact⟨_,_,rfl,c,_,_,rfl,.inl ⟨v,a,b,xs,ys,n,x,k',L,rfl,rfl,ct,ok,lx,ox,m1,o1,a1,a2,hL,k⟩⟩
   . exact⟨_,_,rfl,c,_,_,rfl,.inr (.inl ⟨bad,k H (B5.refl _)⟩)⟩
 obtain⟨v1,v2,rfl,k⟩:=go
 refine⟨_,(A7 (B7 (G5 dA G_to_power hr hx (A0 (pv 1) (A0 (V8 V2 (pv 2) A2 (fun _ _=>rfl)) (A0 (V8 V2 (pv 2) A2 (fun _ _=>rfl)) A3)))))),?_⟩
 exact⟨_,rfl,_,rfl,l,_,_,_,rfl,rfl,SqL.of el,V6 (j:=0) rfl,_,rfl,l,_,_,_,rfl,rfl,SqL.of el,V6 (j:=1) rfl,k⟩
theorem B7e(n q:Int):∃d:Nat,B0 n*B0 (0-q)=B0 (n-q)*((10^d:Nat):Int)/\B0 (-n)*B0 (-(0-q))=B0 (-(n-q))*((10^d:Nat):Int):=by
 refine⟨n.toNat+(0-q).toNat-(n-q).toNat,?_,?_⟩
 . unfold B0
   rw[<-Int.natCast_mul, <-Int.natCast_mul, <-Nat.pow_add, <-Nat.pow_add]
   congr 2
   omega
 unfold B0
 rw[<-Int.natCast_mul, <-Int.natCast_mul, <-Nat.pow_add, <-Nat.pow_add]
 congr 2
 omega
theorem C0q{l m k:Int}(hk:0<k):A1g (l*k) (m*k)=A1g l m:=by
 unfold A1g
 have a:(0<l*k)↔0<l:=by
   constructor
   . intro h
     apply Classical.byContradiction
     intro z
     have:l*k<=0:=Int.mul_nonpos_of_nonpos_of_nonneg (by omega) (Int.le_of_lt hk)
     omega
   . intro h;exact Int.mul_pos h hk
 have e:2*(l*k)=2*l*k:=by rw[Int.mul_assoc]
 have b:(m*k<=2*(l*k))↔m<=2*l:=by
   rw[e]
   exact⟨fun h=>Int.le_of_mul_le_mul_right h hk,fun h=>Int.mul_le_mul_of_nonneg_right h (Int.le_of_lt hk)⟩
 have c:(m*k<2*(l*k))↔m<2*l:=by
   rw[e]
   exact⟨fun h=>Int.lt_of_mul_lt_mul_right h (Int.le_of_lt hk),fun h=>Int.mul_lt_mul_of_pos_right h hk⟩
 simp only[a,b,c]
theorem C8z{t b n q:Int}(hb:0<b):whI (t*B0 n) (b*B0 (-n)) (0-q)=whI t b (n-q)/\ptI (t*B0 n) (b*B0 (-n)) (0-q)=ptI t b (n-q):=by
 obtain⟨d,e1,e2⟩:=B7e n q
 have hk:0<((10^d:Nat):Int):=Int.natCast_pos.mpr (Nat.pow_pos (by decide))
 have a:t*B0 n*B0 (0-q)=t*B0 (n-q)*((10^d:Nat):Int):=by rw[Int.mul_assoc,e1,Int.mul_assoc]
 have c:b*B0 (-n)*B0 (-(0-q))=b*B0 (-(n-q))*((10^d:Nat):Int):=by rw[Int.mul_assoc,e2,Int.mul_assoc]
 have w:whI (t*B0 n) (b*B0 (-n)) (0-q)=whI t b (n-q):=by
   unfold whI
   rw[a,c]
   exact Int.mul_ediv_mul_of_pos_left _ _ hk
 refine⟨w,?_⟩
 unfold ptI
 rw[w,a,c,show whI t b (n-q)*(b*B0 (-(n-q))*((10^d:Nat):Int))=whI t b (n-q)*(b*B0 (-(n-q)))*((10^d:Nat):Int) by ac_rfl, <-Int.sub_mul]
 exact C0q hk
theorem lead_scale{t b n L:Int}:A0s (t*B0 n) (b*B0 (-n)) (0-L)↔A0s t b (n-L):=by
 obtain⟨d,e1,e2⟩:=B7e n L
 have hk:0<((10^d:Nat):Int):=Int.natCast_pos.mpr (Nat.pow_pos (by decide))
 have a:t*B0 n*B0 (0-L)=t*B0 (n-L)*((10^d:Nat):Int):=by rw[Int.mul_assoc,e1,Int.mul_assoc]
 have c:b*B0 (-n)*B0 (-(0-L))=b*B0 (-(n-L))*((10^d:Nat):Int):=by rw[Int.mul_assoc,e2,Int.mul_assoc]
 unfold A0s
 rw[a,c,show 10*(b*B0 (-(n-L))*((10^d:Nat):Int))=10*(b*B0 (-(n-L)))*((10^d:Nat):Int) by ac_rfl]
 constructor
 . intro h
   exact⟨Int.le_of_mul_le_mul_right h.1 hk,Int.lt_of_mul_lt_mul_right h.2 (Int.le_of_lt hk)⟩
 intro h
 exact⟨Int.mul_le_mul_of_nonneg_right h.1 (Int.le_of_lt hk),Int.mul_lt_mul_of_pos_right h.2 hk⟩
theorem B5x(v:Cv)(s t b n L i:Int)(hb:0<b):Z9 v s (t*B0 n) (b*B0 (-n)) 0 L i=Z9 v s t b n L i:=by
 unfold Z9
 have:=C8z (t:=t) (b:=b) (n:=n) (q:=v.fin L) hb
 rw[this.1,this.2]
theorem C3e(n:Nat)(h:1<=n):∃L:Nat,10^L<=n/\n<10^(L+1):=by
 induction n using Nat.strongRecOn with
 | ind n ih=>
   by_cases h10:n<10
   . exact⟨0,by simpa using h,by simpa using h10⟩
   . obtain⟨L,a,b⟩:=ih (n/10) (by omega) (by omega)
     refine⟨L+1,?_,?_⟩
     . rw[Nat.pow_succ];omega
     . rw[Nat.pow_succ];omega
theorem C2v{n j:Nat}(h1:n<10^(j+1))(h2:10^j<=n):A1f (n:Int)=(j:Int)+1:=by
 unfold A1f
 have e:(Str.ofString (toString (n:Int))).length=(Nat.toDigits 10 n).length:=by
   have:=congrArg List.length (KIN.signs_num n)
   rw[List.length_map] at this
   rw[<-this];rfl
 rw[e]
 have a:(Nat.toDigits 10 n).length<=j+1:=digits10_le (by omega) h1
 have b:j+1<=(Nat.toDigits 10 n).length:=digits10_ge h2
 omega
noncomputable abbrev A7a:Stmt:=(top 69)
noncomputable abbrev A2j:Stmt:=(top 70)
noncomputable abbrev B2b:Stmt:=(top 71)
noncomputable def Cv.tup (v:Cv):List V:=[.int v.r,.str v.y.name,.int v.l,.int v.m]
noncomputable def G0t:List Wy:=[.down,.up,.floor,.ceiling,.halfUp,.halfDown,.halfEven,.fiveUp]
noncomputable def B8r:Sp:=fun vs H Q _=>∃c,vs=[.int c]/\∀(v:Cv) t H',v.Ok ->B5 H H' ->H' t=some (.tup v.tup) ->Q (.ref t) H'
theorem scLRules:B8 Q53 ["_law_cell"] (A5 A7a):=scK
theorem C5n(D:Def K mg "_law_rules" ["_law_cell"] A7a f fd)(dA:Def K mg "_law_mixed" Q7 A4q f1 fd1)(dB:sI P w K mg base 1 f1 fd1 Q7 B0a):sI P w K mg base 2 f fd ["_law_cell"] B8r:=by
 refine G0.up (D.F.ok scLRules (fun vs H Q E h=>?_) (fun cdv A outer s H vs Q E hr h=>?_))
 . obtain⟨c,rfl,_⟩:=h
   rfl
 obtain⟨c,rfl,k⟩:=h
 have hx:V1 (A2d CX0 P w K mg base Q53 "_law_rules" (A5 A7a) f cdv A outer s H E).nox EKF:=A1u
 refine⟨_,(A4 (A8 (D5 (i:=1) scLRules.nd rfl (Or.inl rfl) (V8 V2 (J9 (A0 A2 (A0 A2 (A0 A2 (A0 A2 (A0 A2 (A0 A2 (A0 A2 (A0 A2 A3))))))))) (A9 U3 (A9 G9 (V0 dA dB hr hx (A0 (pv 0) (A0 A2 A3))) A2) A2) (fun _ _=>rfl)))) (A4 (A8 (D5 (i:=2) scLRules.nd rfl (Or.inl rfl) (J9 (A0 C7 (A0 C7 (A0 C7 (A0 C7 (A0 C7 (A0 C7 (A0 C7 (A0 C7 A3))))))))))) (A4 (A8 (D5 (i:=3) scLRules.nd rfl (Or.inl rfl) (V8 V2 (pv 2) (A9 U3 (A9 G9 (V0 dA dB hr hx (A0 (pv 0) (A0 A2 A3))) A2) A2) (fun _ _=>rfl)))) (A4 (A8 (D5 (i:=4) scLRules.nd rfl (Or.inl rfl) (V8 V2 (J9 (A0 (A1q A0m A2) (A0 A2 (A0 (A1q A0m A2) (A0 (A1q A0m A2) (A0 (A1q A0m A2) (A0 (A1q A0m A2) A3))))))) (A9 U3 (A9 G9 (V0 dA dB hr hx (A0 (pv 0) (A0 A2 A3))) A2) A2) (fun _ _=>rfl)))) (A4 (A8 (D5 (i:=5) scLRules.nd rfl (Or.inl rfl) (V8 V2 (J9 (A0 A2 (A0 A2 (A0 A2 (A0 A2 (A0 A2 (A0 A2 A3))))))) (A9 U3 (A9 G9 (V0 dA dB hr hx (A0 (pv 0) (A0 A2 A3))) A2) A2) (fun _ _=>rfl)))) (A7 (B7 (V7 (A0 (pv 1) (A0 (pv 3) (A0 (pv 4) (A0 (pv 5) A3)))))))))))),?_⟩
 have z4:4<=sizeLine:=D3 (by decide)
 have z6:6<=sizeLine:=D3 (by decide)
 have z8:8<=sizeLine:=D3 (by decide)
 have d7:(0:Int)<7/\(7:Int).natAbs.log2<9000:=⟨by decide,by decide+kernel⟩
 let I_:L2.St ->L2.Hp ->Prop:=fun σ' H'=>B5 H H'/\∃r:Int,1<=r/\r<=24/\σ'=[si c,si r,none,none,none,none]
 refine⟨I_,?_,?_⟩
 . refine⟨z8,fun l nl=>⟨_,rfl,c,1,rfl,by decide,by decide,fun m _ _=>?_⟩⟩
   obtain⟨q,hq,ix⟩:=ixs (xs:=[1,2,3,4,5,9,24,2]) (i:=m/7 % 8) (Int.emod_nonneg _ (by decide)) (by show m/7 % 8<8;exact Int.emod_lt_of_pos _ (by decide))
   have bq:1<=q/\q<=24:=by
     simp only[List.mem_cons,List.not_mem_nil,or_false] at hq
     omega
   exact⟨_,_,rfl,rfl,d7,_,_,rfl,rfl,(by decide:(0:Int)<8),l,_,_,_,rfl,rfl,SqL.of A6,ix,B5.upd nl,q,bq.1,bq.2,rfl⟩
 refine L2.hideG fun Z_ z_=>?_
 rintro σ' H1 ⟨s1,r,r1,r2,rfl⟩
 subst z_
 clear I_
 let I_:L2.St ->L2.Hp ->Prop:=fun σ' H'=>∃l,B5 H H'/\H' l=some (.lst (G0t.map fun y=>V.str y.name))/\σ'=[si c,si r,sr l,none,none,none]
 refine⟨I_,?_,?_⟩
 . exact⟨z8,fun l nl=>⟨l,s1.trans (B5.upd nl),A6,rfl⟩⟩
 refine L2.hideG fun Z_ z_=>?_
 rintro σ' H2 ⟨l,s2,hl,rfl⟩
 subst z_
 clear I_
 let I_:L2.St ->L2.Hp ->Prop:=fun σ' H'=>H'=H2/\∃y:Wy,σ'=[si c,si r,sr l,sR y.name,none,none]
 refine⟨I_,?_,?_⟩
 . refine⟨_,rfl,_,rfl,c,2,rfl,by decide,by decide,fun m _ _=>?_⟩
   obtain⟨q,hq,ix⟩:=ixv (xs:=G0t.map fun y=>V.str y.name) (i:=m/7 % 8) (Int.emod_nonneg _ (by decide)) (by show m/7 % 8<8;exact Int.emod_lt_of_pos _ (by decide))
   obtain⟨y,_,rfl⟩:=List.mem_map.mp hq
   exact⟨_,_,rfl,rfl,d7,_,_,rfl,rfl,(by decide:(0:Int)<8),l,_,_,_,rfl,rfl,SqL.of hl,ix,rfl,y,rfl⟩
 refine L2.hideG fun Z_ z_=>?_
 rintro σ' H3 ⟨rfl,y,rfl⟩
 subst z_
 clear I_
 let I_:L2.St ->L2.Hp ->Prop:=fun σ' H'=>B5 H H'/\∃q:Int, -60<=q/\q<=0/\σ'=[si c,si r,sr l,sR y.name,si q,none]
 refine⟨I_,?_,?_⟩
 . refine⟨_,rfl,_,rfl,_,rfl,_,rfl,_,rfl,z6,fun p np=>⟨_,rfl,c,3,rfl,by decide,by decide,fun m _ _=>?_⟩⟩
   obtain⟨q,hq,ix⟩:=ixs (xs:=[-60,0, -2, -5, -9, -1]) (i:=m/7 % 6) (Int.emod_nonneg _ (by decide)) (by show m/7 % 6<6;exact Int.emod_lt_of_pos _ (by decide))
   have bq: -60<=q/\q<=0:=by
     simp only[List.mem_cons,List.not_mem_nil,or_false] at hq
     omega
   exact⟨_,_,rfl,rfl,d7,_,_,rfl,rfl,(by decide:(0:Int)<6),p,_,_,_,rfl,rfl,SqL.of A6,ix,s2.trans (B5.upd np),q,bq.1,bq.2,rfl⟩
 refine L2.hideG fun Z_ z_=>?_
 rintro σ' H4 ⟨s4,q,q1,q2,rfl⟩
 subst z_
 clear I_
 let I_:L2.St ->L2.Hp ->Prop:=fun σ' H'=>B5 H H'/\∃m:Int,0<=m/\m<=60/\σ'=[si c,si r,sr l,sR y.name,si q,si m]
 refine⟨I_,?_,?_⟩
 . refine⟨z6,fun p np=>⟨_,rfl,c,4,rfl,by decide,by decide,fun m _ _=>?_⟩⟩
   obtain⟨u,hu,ix⟩:=ixs (xs:=[60,0,2,5,9,1]) (i:=m/7 % 6) (Int.emod_nonneg _ (by decide)) (by show m/7 % 6<6;exact Int.emod_lt_of_pos _ (by decide))
   have bu:0<=u/\u<=60:=by
     simp only[List.mem_cons,List.not_mem_nil,or_false] at hu
     omega
   exact⟨_,_,rfl,rfl,d7,_,_,rfl,rfl,(by decide:(0:Int)<6),p,_,_,_,rfl,rfl,SqL.of A6,ix,s4.trans (B5.upd np),u,bu.1,bu.2,rfl⟩
 refine L2.hideG fun Z_ z_=>?_
 rintro σ' H5 ⟨s5,m,m1,m2,rfl⟩
 subst z_
 clear I_
 exact⟨_,rfl,_,rfl,_,rfl,_,rfl,z4,fun t nt=>k ⟨r,y,q,m⟩ t _ ⟨r1,r2,q1,q2,m1,m2⟩ (s5.trans (B5.upd nt)) A6⟩
noncomputable def A5q:Sp:=fun vs H Q _=>∃t b p:Int,vs=[.int t,.int b,.int p]/\ -2500<=p/\p<=2500/\IntMulOk t (B0 p)/\IntMulOk b (B0 (-p))/\∀q H',B5 H H' ->H' q=some (.tup [.int (t*B0 p),.int (b*B0 (-p))]) ->Q (.ref q) H'
theorem C5d:B8 Q9 Q9 (A5 A2j):=scK
theorem C7e{s:Int}(h:s<=0):B0 s=1:=by unfold B0;rw[show s.toNat=0 by omega];rfl
theorem C1d(D:Def K mg "_law_scaled" Q9 A2j f fd)(dA:Def K mg "_law_ten" ["_law_count"] A8z f1 fd1)(dB:sI P w K mg base 1 f1 fd1 ["_law_count"] A7y):sI P w K mg base 2 f fd Q9 A5q:=by
 refine G0.up (D.F.ok C5d (fun vs H Q E h=>?_) (fun cdv A outer s H vs Q E hr h=>?_))
 . obtain⟨t,b,p,rfl,_⟩:=h
   rfl
 obtain⟨t,b,p,rfl,p0,p1,o1,o2,k⟩:=h
 have hx:V1 (A2d CX0 P w K mg base Q9 "_law_scaled" (A5 A2j) f cdv A outer s H E).nox EKF:=A1u
 refine⟨_,(A4 (U0 (C8 A3y (pv 2) A2 (B9 _)) (A7 (B7 (V7 (A0 (pv 0) (A0 (A9 U2 (pv 1) (V0 dA dB hr hx (A0 (A9 V3 A2 (pv 2)) A3))) A3))))) D7) (A7 (B7 (V7 (A0 (A9 U2 (pv 0) (V0 dA dB hr hx (A0 (pv 2) A3))) (A0 (pv 1) A3)))))),?_⟩
 have z2:2<=sizeLine:=D3 (by decide)
 refine⟨_,rfl,_,_,rfl,rfl,_,rfl,U5 (fun h=>?_) (fun h=>?_)⟩
 . have h:p<0:=h
   rw[C7e (s:=p) (by omega),Int.mul_one] at k
   exact⟨_,rfl,_,rfl,_,rfl,_,_,rfl,rfl,(-p).toNat,(by show [V.int (0-p)]=_;rw[Int.toNat_of_nonneg (by omega),Int.zero_sub]),by omega,_,_,rfl,rfl,o2,z2,fun q nq=>k q _ (B5.upd nq) A6⟩
 have h:¬p<0:=h
 rw[C7e (s:= -p) (by omega),Int.mul_one] at k
 exact⟨_,rfl,_,rfl,p.toNat,(by show [V.int p]=_;rw[Int.toNat_of_nonneg (by omega)]),by omega,_,_,rfl,rfl,o1,_,rfl,z2,fun q nq=>k q _ (B5.upd nq) A6⟩
noncomputable def SzL (t:Int):Prop:=1<=t/\t<B0 1800
theorem SzL.nat{t:Int}(h:SzL t):∃n:Nat,t=(n:Int)/\1<=n/\n<10^1800:=by
 obtain⟨n,rfl⟩:=Int.eq_ofNat_of_zero_le (show 0<=t by have:=h.1;omega)
 exact⟨n,rfl,Int.ofNat_le.mp h.1,Int.ofNat_lt.mp h.2⟩
theorem SzL.log{t:Int}(h:SzL t):t.natAbs<10^4300:=by
 obtain⟨n,rfl,_,hn⟩:=h.nat
 rw[Int.natAbs_natCast]
 exact Nat.lt_of_lt_of_le hn (Nat.pow_le_pow_right (by decide) (by decide))
theorem SzL.bits{t:Int}(h:SzL t):Builtin.Int.intBits t<=2^20:=by
 obtain⟨n,rfl,_,hn⟩:=h.nat
 exact A9q (k:=4*1800) (Nat.lt_of_lt_of_le hn (B5c 1800)) (by decide)
theorem B0b{t s:Int}(ht:SzL t)(h:s<=2500):IntMulOk t (B0 s):=IntMulOk.of_bits ht.bits (B3v (by omega))
theorem D8f{t b s L:Int}(ht:SzL t)(hb:SzL b)(ld:A0s t b (0-L))(h:s<=0\/s<=L):(b*B0 s).natAbs.log2<9000:=by
 obtain⟨n,rfl,_,hn⟩:=hb.nat
 obtain⟨m,rfl,_,hm⟩:=ht.nat
 have a:n*10^s.toNat<10^1800:=by
   by_cases z:s<=0
   . rw[show s.toNat=0 by omega]
     omega
   have a:n*10^(-(0-L)).toNat<=m*10^(0-L).toNat:=Int.ofNat_le.mp ld.1
   rw[show(0-L).toNat=0 by omega,Nat.pow_zero,Nat.mul_one] at a
   exact Nat.lt_of_le_of_lt (Nat.le_trans (Nat.mul_le_mul_left n (Nat.pow_le_pow_right (by decide) (by omega))) a) hm
 have e:((n:Int)*B0 s)=((n*10^s.toNat:Nat):Int):=by unfold B0;rw[Int.natCast_mul]
 rw[e]
 have b:n*10^s.toNat<2^8840:=Nat.lt_of_lt_of_le (Nat.lt_of_lt_of_le a (Nat.pow_le_pow_right (by decide) (by decide:1800<=3*884))) (B9e 884)
 exact Nat.lt_trans (A3j (i:=((n*10^s.toNat:Nat):Int)) (k:=8840) (by rw[Int.natAbs_natCast];exact b) (by decide)) (by decide)
theorem D0c{t b s1 s2 r:Int}(ht:SzL t)(hb:SzL b)(h:A0s t b s1)(hr:1<=r)(e:s2<=s1+(r-1)):0<=whI t b s2/\whI t b s2<B0 r:=by
 obtain⟨tn,rfl,_,_⟩:=ht.nat
 obtain⟨bn,rfl,b1,_⟩:=hb.nat
 have lp:0<(bn:Int)*B0 (-s2):=Int.mul_pos (by omega) (Y3 _)
 refine⟨Int.ediv_nonneg (Int.mul_nonneg (by omega) (Int.le_of_lt (Y3 _))) (Int.le_of_lt lp),?_⟩
 refine Int.ediv_lt_of_lt_mul lp ?_
 have a:tn*10^s1.toNat<10*(bn*10^(-s1).toNat):=Int.ofNat_lt.mp h.2
 have c:=B8w (u2:=s2.toNat) (v2:=(-s2).toNat) (d:=(r-1).toNat) a (by omega)
 rw[show(r-1).toNat+1=r.toNat by omega] at c
 exact Int.ofNat_lt.mpr c
noncomputable def C3u:Sp:=fun vs H Q _=>∃t b:Int,vs=[.int t,.int b]/\SzL t/\SzL b/\∀L H',A0s t b (0-L) -> -1801<=L ->L<=1801 ->B5 H H' ->Q (.int L) H'
theorem scLLead:B8 Q54 Q38 (A5 B2b):=scK
theorem C8f(D:Def K mg "_law_lead" Q38 B2b f fd)(dA:Def K mg "_law_scaled" Q9 A2j f1 fd1)(dB:sI P w K mg base 2 f1 fd1 Q9 A5q)(O:Own mg)(DG:base.NoDigits):sI P w K mg base 3 f fd Q38 C3u:=by
 refine G0.up (D.F.ok scLLead (fun vs H Q E h=>?_) (fun cdv A outer s H vs Q E hr h=>?_))
 . obtain⟨t,b,rfl,_⟩:=h
   rfl
 obtain⟨t,b,rfl,ht,hb,k⟩:=h
 have hx:V1 (A2d CX0 P w K mg base Q54 "_law_lead" (A5 B2b) f cdv A outer s H E).nox EKF:=A1u
 refine⟨_,(A4 (D5 (i:=2) scLLead.nd rfl (Or.inl rfl) (A9 V3 (U8 A1x (by rfl) O.len_ PySem.boot_len (A0 (V5 (A5x DG hr.hd) (by rfl) O.str_ boot_str (A0 (pv 0) A3)) A3)) (U8 A1x (by rfl) O.len_ PySem.boot_len (A0 (V5 (A5x DG hr.hd) (by rfl) O.str_ boot_str (A0 (pv 1) A3)) A3)))) (A4 (A1e (V0 dA dB hr hx (A0 (pv 0) (A0 (pv 1) (A0 (A9 V3 A2 (pv 2)) A3)))) (A0x rfl (D4 (D0 (i:=3) scLLead.nd rfl (Or.inl rfl)) (D4 (D0 (i:=4) scLLead.nd rfl (Or.inl rfl)) Z0)))) (A7 (B7 (A9 V3 (pv 2) (V5 A0q (by rfl) O.int_ boot_int (A0 (D9 A3y (pv 3) (pv 4) (B9 _)) A3))))))),?_⟩
 obtain⟨tn,et,t1,t2⟩:=ht.nat
 obtain⟨bn,eb,b1,b2⟩:=hb.nat
 obtain⟨L,l1,l2⟩:=C3e tn t1
 obtain⟨M,m1,m2⟩:=C3e bn b1
 have ft:A1f t=(L:Int)+1:=by rw[et];exact C2v l2 l1
 have fb:A1f b=(M:Int)+1:=by rw[eb];exact C2v m2 m1
 have lL:L<1800:=(Nat.pow_lt_pow_iff_right (by decide:1<10)).mp (Nat.lt_of_le_of_lt l1 t2)
 have lM:M<1800:=(Nat.pow_lt_pow_iff_right (by decide:1<10)).mp (Nat.lt_of_le_of_lt m1 b2)
 have es:0-(A1f t-A1f b)=(M:Int)-L:=by omega
 refine⟨_,rfl,_,rfl,ht.log,_,rfl,(A4s (by unfold A1f at ft;omega)),_,rfl,_,rfl,hb.log,_,rfl,(A4s (by unfold A1f at fb;omega)),_,_,rfl,rfl,?_⟩
 show G7r _ _ _ [si t,si b,si (A1f t-A1f b),none,none] H
 refine⟨_,rfl,_,rfl,_,rfl,_,_,rfl,rfl,t,b,0-(A1f t-A1f b),rfl,by omega,by omega,B0b ht (by omega),B0b hb (by omega),fun q H1 s1 eq=>?_⟩
 refine⟨q,_,rfl,SqT.of eq,rfl,_,_,rfl,_,_,rfl,rfl,?_⟩
 refine⟨_,rfl,_,rfl,_,rfl,_,_,rfl,rfl,.inr ⟨_,rfl,_,_,rfl,rfl,?_⟩⟩
 rw[es]
 subst et eb
 by_cases h:(tn:Int)*B0 ((M:Int)-L)<(bn:Int)*B0 (-((M:Int)-L))
 . rw[decide_eq_true h]
   refine k _ _ ?_ (by show -1801<=A1f (tn:Int)-A1f (bn:Int)-1;omega) (by show A1f (tn:Int)-A1f (bn:Int)-1<=1801;omega) s1
   have:=B0m l1 l2 m1 m2 h
   rw[show(0:Int)- (A1f (tn:Int)-A1f (bn:Int)- (if true=true then 1 else 0))=(M:Int)-L+1 by rw[if_pos rfl];omega]
   exact this
 rw[decide_eq_false h]
 refine k _ _ ?_ (by show -1801<=A1f (tn:Int)-A1f (bn:Int)-0;omega) (by show A1f (tn:Int)-A1f (bn:Int)-0<=1801;omega) s1
 have:=B4k l1 l2 m1 m2 (by omega)
 rw[show(0:Int)- (A1f (tn:Int)-A1f (bn:Int)- (if false=true then 1 else 0))=(M:Int)-L by rw[if_neg Bool.false_ne_true];omega]
 exact this
noncomputable abbrev B6c:Stmt:=(top 72)
noncomputable abbrev A6u:Stmt:=(top 73)
noncomputable abbrev A2e:Stmt:=(top 74)
noncomputable abbrev A3f:Stmt:=(top 75)
noncomputable abbrev A7b:Stmt:=(top 76)
noncomputable def Wy.code:Wy ->Nat
 | .down=>0
 | .up=>1
 | .floor=>2
 | .ceiling=>3
 | .halfUp=>4
 | .halfDown=>5
 | .halfEven=>6
 | .fiveUp=>7
theorem dI(a b:Int):decide (V.int a=V.int b)=decide (a=b):=by
 by_cases h:a=b
 . rw[decide_eq_true h,decide_eq_true (congrArg V.int h)]
 rw[decide_eq_false h,decide_eq_false fun q=>h (by injection q)]
theorem nW{y z:Wy}(h:y.code≠z.code):¬V.str y.name=V.str z.name:=fun q=>h (by rw[Wy.inj (V.str.inj q)])
noncomputable def C2z:Sp:=fun vs H Q _=>∃(y:Wy) (s l t:Int),vs=[.str y.name,.int s,.int l,.int t]/\1<=t/\t<=3/\Q (.bl (y.goes s l t)) H
theorem D7p:B8 Q33 Q33 (A5 B6c):=scK
theorem D0j(D:Def K mg "_law_goes_up" Q33 B6c f fd):sI P w K mg base 1 f fd Q33 C2z:=by
 refine G0.up (D.F.ok D7p (fun vs H Q E h=>?_) (fun cdv A outer s H vs Q E hr h=>?_))
 . obtain⟨y,z,l,t,rfl,_⟩:=h
   rfl
 obtain⟨y,z,l,t,rfl,t1,t3,k⟩:=h
 refine⟨_,(A4 (U0 (PW.pt (A4n (C8 G4 (pv 0) C7 (B9 _)) (A4n (C8 G4 (pv 0) C7 (B9 _)) (A6b (C8 G4 (pv 0) C7 (B9 _)))))) (A7 (B7 (B3j (D9 G4 (pv 3) A2 (B9 _)) (Z6 (Z4 (D9 G4 (pv 3) A2 (B9 _)) (Z6 (B3j (D9 G4 (pv 0) C7 (B9 _)) (Z6 (Z4 (D9 G4 (pv 0) C7 (B9 _)) (Z6 (D9 G4 (A9 U3 (pv 2) A2) A2 (B9 _)))))))))))) D7) (A4 (U0 (C8 G4 (pv 0) C7 (B9 _)) (A7 (B7 (B3j (D9 G4 (pv 2) A2 (B9 _)) (Z6 (D9 G4 (pv 2) A2 (B9 _)))))) D7) (A7 (B7 (B3j (D9 G4 (pv 0) C7 (B9 _)) (B3j (Z4 (D9 G4 (pv 0) C7 (B9 _)) (Z6 (D9 G4 (pv 1) A2 (B9 _)))) (Z6 (Z4 (D9 G4 (pv 0) C7 (B9 _)) (Z6 (D9 G4 (pv 1) A2 (B9 _))))))))))),?_⟩
 cases y with
 | down=>
   exact⟨_,rfl,rfl,_,rfl,G6 (nW (y:= .down) (z:= .halfUp) (by decide)) ⟨_,rfl,rfl,_,rfl,G6 (nW (y:= .down) (z:= .halfDown) (by decide)) ⟨_,rfl,rfl,_,rfl,G6 (nW (y:= .down) (z:= .halfEven) (by decide)) ⟨_,rfl,rfl,_,rfl,G6 (nW (y:= .down) (z:= .fiveUp) (by decide)) ⟨_,rfl,rfl,_,rfl,G6 (nW (y:= .down) (z:= .up) (by decide)) ⟨_,rfl,rfl,_,rfl,G6 (nW (y:= .down) (z:= .floor) (by decide)) ⟨_,rfl,Y1 ⟨_,rfl,rfl,_,rfl,G6 (nW (y:= .down) (z:= .ceiling) (by decide)) k⟩⟩⟩⟩⟩⟩⟩⟩
 | up=>
   exact⟨_,rfl,rfl,_,rfl,G6 (nW (y:= .up) (z:= .halfUp) (by decide)) ⟨_,rfl,rfl,_,rfl,G6 (nW (y:= .up) (z:= .halfDown) (by decide)) ⟨_,rfl,rfl,_,rfl,G6 (nW (y:= .up) (z:= .halfEven) (by decide)) ⟨_,rfl,rfl,_,rfl,G6 (nW (y:= .up) (z:= .fiveUp) (by decide)) ⟨_,rfl,rfl,_,rfl,A0c rfl k⟩⟩⟩⟩⟩
 | floor=>
   have kT:V.int z=V.int 1 ->Q (.bl true) H:=fun e=>by
     have k:Q (.bl (decide (V.int z=V.int 1))) H:=k
     rw[decide_eq_true e] at k
     exact k
   have kF:¬V.int z=V.int 1 ->Q (.bl false) H:=fun e=>by
     have k:Q (.bl (decide (V.int z=V.int 1))) H:=k
     rw[decide_eq_false e] at k
     exact k
   exact⟨_,rfl,rfl,_,rfl,G6 (nW (y:= .floor) (z:= .halfUp) (by decide)) ⟨_,rfl,rfl,_,rfl,G6 (nW (y:= .floor) (z:= .halfDown) (by decide)) ⟨_,rfl,rfl,_,rfl,G6 (nW (y:= .floor) (z:= .halfEven) (by decide)) ⟨_,rfl,rfl,_,rfl,G6 (nW (y:= .floor) (z:= .fiveUp) (by decide)) ⟨_,rfl,rfl,_,rfl,G6 (nW (y:= .floor) (z:= .up) (by decide)) ⟨_,rfl,rfl,_,rfl,A0c rfl ⟨_,rfl,rfl,_,rfl,U5 (fun e=>kT e) fun e=>⟨_,rfl,rfl,_,rfl,G6 (nW (y:= .floor) (z:= .ceiling) (by decide)) (kF e)⟩⟩⟩⟩⟩⟩⟩⟩
 | ceiling=>
   exact⟨_,rfl,rfl,_,rfl,G6 (nW (y:= .ceiling) (z:= .halfUp) (by decide)) ⟨_,rfl,rfl,_,rfl,G6 (nW (y:= .ceiling) (z:= .halfDown) (by decide)) ⟨_,rfl,rfl,_,rfl,G6 (nW (y:= .ceiling) (z:= .halfEven) (by decide)) ⟨_,rfl,rfl,_,rfl,G6 (nW (y:= .ceiling) (z:= .fiveUp) (by decide)) ⟨_,rfl,rfl,_,rfl,G6 (nW (y:= .ceiling) (z:= .up) (by decide)) ⟨_,rfl,rfl,_,rfl,G6 (nW (y:= .ceiling) (z:= .floor) (by decide)) ⟨_,rfl,Y1 ⟨_,rfl,rfl,_,rfl,A0c rfl ⟨_,rfl,rfl,k⟩⟩⟩⟩⟩⟩⟩⟩⟩
 | halfUp=>
   have k3:t=3 ->Q (.bl true) H:=fun e=>by subst e;exact k
   have k2:V.int t=V.int 2 ->Q (.bl true) H:=fun e=>by cases e;exact k
   have k1:¬t=3 ->¬t=2 ->Q (.bl false) H:=fun a b=>by
     have e:t=1:=by omega
     subst e;exact k
   exact⟨_,rfl,rfl,_,rfl,A0c rfl (Z3 ⟨_,rfl,rfl,_,rfl,U5 (fun e3=>k3 (by injection e3)) fun e3=>⟨_,rfl,rfl,_,rfl,U5 (fun e2=>⟨_,rfl,rfl,_,rfl,A0c rfl (k2 e2)⟩) fun e2=>k1 (fun q=>e3 (congrArg V.int q)) (fun q=>e2 (congrArg V.int q))⟩⟩)⟩
 | halfDown=>
   have k3:t=3 ->Q (.bl true) H:=fun e=>by subst e;exact k
   have k2:V.int t=V.int 2 ->Q (.bl false) H:=fun e=>by cases e;exact k
   have k1:¬t=3 ->¬t=2 ->Q (.bl false) H:=fun a b=>by
     have e:t=1:=by omega
     subst e;exact k
   exact⟨_,rfl,rfl,_,rfl,G6 (nW (y:= .halfDown) (z:= .halfUp) (by decide)) ⟨_,rfl,rfl,_,rfl,A0c rfl (Z3 ⟨_,rfl,rfl,_,rfl,U5 (fun e3=>k3 (by injection e3)) fun e3=>⟨_,rfl,rfl,_,rfl,U5 (fun e2=>⟨_,rfl,rfl,_,rfl,G6 (nW (y:= .halfDown) (z:= .halfUp) (by decide)) ⟨_,rfl,rfl,_,rfl,G6 (nW (y:= .halfDown) (z:= .halfEven) (by decide)) (k2 e2)⟩⟩) fun e2=>k1 (fun q=>e3 (congrArg V.int q)) (fun q=>e2 (congrArg V.int q))⟩⟩)⟩⟩
 | halfEven=>
   have k3:t=3 ->Q (.bl true) H:=fun e=>by subst e;exact k
   have k2:V.int t=V.int 2 ->Q (.bl (decide (V.int (l % 2)=V.int 1))) H:=fun e=>by cases e;exact k
   have k1:¬t=3 ->¬t=2 ->Q (.bl false) H:=fun a b=>by
     have e:t=1:=by omega
     subst e;exact k
   exact⟨_,rfl,rfl,_,rfl,G6 (nW (y:= .halfEven) (z:= .halfUp) (by decide)) ⟨_,rfl,rfl,_,rfl,G6 (nW (y:= .halfEven) (z:= .halfDown) (by decide)) ⟨_,rfl,rfl,_,rfl,A0c rfl ⟨_,rfl,rfl,_,rfl,U5 (fun e3=>k3 (by injection e3)) fun e3=>⟨_,rfl,rfl,_,rfl,U5 (fun e2=>⟨_,rfl,rfl,_,rfl,G6 (nW (y:= .halfEven) (z:= .halfUp) (by decide)) ⟨_,rfl,rfl,_,rfl,A0c rfl ⟨_,rfl,_,_,rfl,rfl,(by decide:(0:Int)<2),rfl,k2 e2⟩⟩⟩) fun e2=>k1 (fun q=>e3 (congrArg V.int q)) (fun q=>e2 (congrArg V.int q))⟩⟩⟩⟩⟩
 | fiveUp=>
   have e5:∀a b:Int,eqV (.int a) (.int b)=decide (V.int b=V.int a):=fun a b=>by
     rw[dI]
     show(a==b)=_
     by_cases h:a=b
     . subst h;simp
     . rw[decide_eq_false (Ne.symm h)];simpa using h
   have k:Q (.bl (eqV (.int 0) (.int l)||(eqV (.int 5) (.int l)||false))) H:=k
   rw[e5,e5,Bool.or_false] at k
   have k0:l=0 ->Q (.bl true) H:=fun e=>by rw[decide_eq_true (congrArg V.int e)] at k;exact k
   have k5:¬l=0 ->Q (.bl (decide (V.int l=V.int 5))) H:=fun e=>by rw[decide_eq_false (fun q=>e (by injection q):¬V.int l=V.int 0)] at k;exact k
   exact⟨_,rfl,rfl,_,rfl,G6 (nW (y:= .fiveUp) (z:= .halfUp) (by decide)) ⟨_,rfl,rfl,_,rfl,G6 (nW (y:= .fiveUp) (z:= .halfDown) (by decide)) ⟨_,rfl,rfl,_,rfl,G6 (nW (y:= .fiveUp) (z:= .halfEven) (by decide)) ⟨_,rfl,rfl,_,rfl,A0c rfl ⟨_,rfl,rfl,_,rfl,U5 (fun e=>k0 (by injection e)) fun e=>⟨_,rfl,rfl,k5 (fun q=>e (congrArg V.int q))⟩⟩⟩⟩⟩⟩
noncomputable def A3z (H:Hp) (q:Addr) (x:Nm) (zs:List Str):Prop:=∃t l,H q=some (.tup [.ref t,.ref l])/\H t=some (.tup x.vs)/\H l=some (.lst (zs.map V.str))
theorem A3z.same{H H':Hp}{q:Addr}{x:Nm}{zs:List Str}(h:A3z H q x zs)(s:B5 H H'):A3z H' q x zs:=by
 obtain⟨t,l,h1,h2,h3⟩:=h
 exact⟨t,l,s _ _ h1,s _ _ h2,s _ _ h3⟩
noncomputable def B7u:Sp:=fun vs H Q _=>∃rt v,∃s:Int,vs=[.ref rt,.int s]/\H rt=some (.tup (Cv.tup v))/\v.Ok/\0<=s/\s<=1/\∀q H',B5 H H' ->A3z H' q (A8k v s) Q36 ->Q (.ref q) H'
theorem scLBurst:B8 Q55 Q39 (A5 A6u):=scK
theorem C4t(D:Def K mg "_law_burst" Q39 A6u f fd)(dA:Def K mg "_law_ten" ["_law_count"] A8z f1 fd1)(dB:sI P w K mg base 1 f1 fd1 ["_law_count"] A7y):sI P w K mg base 2 f fd Q39 B7u:=by
 refine G0.up (D.F.ok scLBurst (fun vs H Q E h=>?_) (fun cdv A outer s H vs Q E hr h=>?_))
 . obtain⟨rt,v,sg,rfl,_⟩:=h
   rfl
 obtain⟨rt,v,sg,rfl,hrt,ok,s0,s1,k⟩:=h
 have hx:V1 (A2d CX0 P w K mg base Q55 "_law_burst" (A5 A6u) f cdv A outer s H E).nox EKF:=A1u
 refine⟨_,(A4 (A8 (A1e (pv 0) (A0x rfl (D4 (D0 (i:=2) scLBurst.nd rfl (Or.inl rfl)) (D4 (D0 (i:=3) scLBurst.nd rfl (Or.inl rfl)) (D4 (D0 (i:=4) scLBurst.nd rfl (Or.inl rfl)) (D4 (D0 (i:=5) scLBurst.nd rfl (Or.inl rfl)) Z0))))))) (A4 (A8 (D5 (i:=6) scLBurst.nd rfl (Or.inl rfl) (J9 (A0 C7 (A0 C7 (A0 C7 A3)))))) (A4 (A8 (U0 (PW.pt (A4n (C8 G4 (pv 3) C7 (B9 _)) (A4n (C8 G4 (pv 3) C7 (B9 _)) (A4n (PW.pt (A2y (C8 G4 (pv 3) C7 (B9 _)) (A1n (C8 G4 (pv 1) A2 (B9 _))))) (A6b (PW.pt (A2y (C8 G4 (pv 3) C7 (B9 _)) (A1n (C8 G4 (pv 1) A2 (B9 _)))))))))) (A7 (B7 (V7 (A0 (V7 (A0 C7 (A0 (pv 1) (A0 (A9 V3 (V0 dA dB hr hx (A0 (pv 2) A3)) A2) (A0 (A9 U7 (A9 V3 (pv 5) (pv 2)) A2) A3))))) (A0 (pv 6) A3))))) D7)) (A7 (B7 (V7 (A0 (V7 (A0 C7 (A0 (pv 1) (A0 A2 (A0 A2 A3))))) (A0 (pv 6) A3)))))))),?_⟩
 have z2:2<=sizeLine:=D3 (by decide)
 have z3:3<=sizeLine:=D3 (by decide)
 have z4:4<=sizeLine:=D3 (by decide)
 have r1:=ok.r1;have r2:=ok.r2
 let I_:L2.St ->L2.Hp ->Prop:=fun σ' H'=>H'=H/\σ'=[sr rt,si sg,si v.r,sR v.y.name,si v.l,si v.m,none]
 refine⟨I_,?_,?_⟩
 . exact⟨_,rfl,rt,_,rfl,SqT.of hrt,rfl,_,_,rfl,_,_,rfl,_,_,rfl,_,_,rfl,rfl,rfl,rfl⟩
 rintro σ' H1 ⟨rfl,rfl⟩
 clear I_
 refine⟨fun σ' H'=>∃l,B5 H1 H'/\H' l=some (.lst [.str "burst",.str "off",.str "cut"])/\σ'=[sr rt,si sg,si v.r,sR v.y.name,si v.l,si v.m,sr l],?_,?_⟩
 . exact⟨z3,fun l nl=>⟨l,B5.upd nl,A6,rfl⟩⟩
 refine L2.hideG fun Z_ z_=>?_
 rintro σ' H2 ⟨l,t2,hl,rfl⟩
 subst z_
 let I_:L2.St ->L2.Hp ->Prop:=fun σ' H'=>H'=H2/\v.y.toEnd sg=true/\σ'=[sr rt,si sg,si v.r,sR v.y.name,si v.l,si v.m,sr l]
 refine⟨I_,?_,?_⟩
 . have nines:v.y.toEnd sg=false ->∀t q,H2 t=none ->upd H2 t (.tup (Nm.vs ⟨.plain,sg,B0 v.r-1,v.m-v.r+1⟩)) q=none ->Q (.ref q) (upd (upd H2 t (.tup (Nm.vs ⟨.plain,sg,B0 v.r-1,v.m-v.r+1⟩))) q (.tup [.ref t,.ref l])):=fun e t q nt nq=>by
     have u1:=B5.upd (o:= .tup (Nm.vs ⟨.plain,sg,B0 v.r-1,v.m-v.r+1⟩)) nt
     have u2:=B5.upd (o:= .tup [.ref t,.ref l]) nq
     refine k q _ (t2.trans (u1.trans u2)) ⟨t,l,A6,?_,(u1.trans u2) _ _ hl⟩
     unfold A8k
     rw[e,if_neg Bool.false_ne_true]
     exact u2 _ _ A6
   obtain⟨vr,vy,vl,vm⟩:=v
   have r1:1<=vr:=ok.r1
   have r2:vr<=24:=ok.r2
   cases vy with
   | down=>
     have nines:=nines rfl
     exact⟨_,rfl,rfl,_,rfl,A0c rfl (Z3 ⟨_,rfl,_,rfl,vr.toNat,(by rw[Int.toNat_of_nonneg (by omega)];rfl),by omega,_,_,rfl,rfl,_,rfl,_,rfl,_,_,rfl,rfl,_,_,rfl,rfl,z4,fun t nt=>⟨_,rfl,z2,fun q nq=>nines t q nt nq⟩⟩)⟩
   |up=>exact⟨_,rfl,rfl,_,rfl,G6 (nW (y:= .up) (z:= .down) (by decide)) ⟨_,rfl,rfl,_,rfl,G6 (nW (y:= .up) (z:= .fiveUp) (by decide)) ⟨_,rfl,rfl,_,rfl,G6 (nW (y:= .up) (z:= .floor) (by decide)) (Y1 ⟨_,rfl,rfl,_,rfl,G6 (nW (y:= .up) (z:= .ceiling) (by decide)) (Y1 ⟨rfl,rfl,rfl⟩)⟩)⟩⟩⟩
   | floor=>
     rcases(by omega:sg=0\/sg=1) with rfl|rfl
     . have nines:=nines (show decide (V.int 0=V.int 1)=false by decide+kernel)
       exact⟨_,rfl,rfl,_,rfl,G6 (nW (y:= .floor) (z:= .down) (by decide)) ⟨_,rfl,rfl,_,rfl,G6 (nW (y:= .floor) (z:= .fiveUp) (by decide)) ⟨_,rfl,rfl,_,rfl,A0c rfl ⟨_,rfl,rfl,_,rfl,A0c rfl (Z3 ⟨_,rfl,_,rfl,vr.toNat,(by rw[Int.toNat_of_nonneg (by omega)];rfl),by omega,_,_,rfl,rfl,_,rfl,_,rfl,_,_,rfl,rfl,_,_,rfl,rfl,z4,fun t nt=>⟨_,rfl,z2,fun q nq=>nines t q nt nq⟩⟩)⟩⟩⟩⟩
     . exact⟨_,rfl,rfl,_,rfl,G6 (nW (y:= .floor) (z:= .down) (by decide)) ⟨_,rfl,rfl,_,rfl,G6 (nW (y:= .floor) (z:= .fiveUp) (by decide)) ⟨_,rfl,rfl,_,rfl,A0c rfl ⟨_,rfl,rfl,_,rfl,G6 (by decide) ⟨_,rfl,rfl,_,rfl,G6 (nW (y:= .floor) (z:= .ceiling) (by decide)) (Y1 ⟨rfl,(show decide (V.int 1=V.int 1)=true by decide+kernel),rfl⟩)⟩⟩⟩⟩⟩
   | ceiling=>
     rcases(by omega:sg=1\/sg=0) with rfl|rfl
     . have nines:=nines (show decide (V.int 1=V.int 0)=false by decide+kernel)
       exact⟨_,rfl,rfl,_,rfl,G6 (nW (y:= .ceiling) (z:= .down) (by decide)) ⟨_,rfl,rfl,_,rfl,G6 (nW (y:= .ceiling) (z:= .fiveUp) (by decide)) ⟨_,rfl,rfl,_,rfl,G6 (nW (y:= .ceiling) (z:= .floor) (by decide)) (Y1 ⟨_,rfl,rfl,_,rfl,A0c rfl ⟨_,rfl,rfl,_,rfl,A0c rfl ⟨_,rfl,_,rfl,vr.toNat,(by rw[Int.toNat_of_nonneg (by omega)];rfl),by omega,_,_,rfl,rfl,_,rfl,_,rfl,_,_,rfl,rfl,_,_,rfl,rfl,z4,fun t nt=>⟨_,rfl,z2,fun q nq=>nines t q nt nq⟩⟩⟩⟩)⟩⟩⟩
     . exact⟨_,rfl,rfl,_,rfl,G6 (nW (y:= .ceiling) (z:= .down) (by decide)) ⟨_,rfl,rfl,_,rfl,G6 (nW (y:= .ceiling) (z:= .fiveUp) (by decide)) ⟨_,rfl,rfl,_,rfl,G6 (nW (y:= .ceiling) (z:= .floor) (by decide)) (Y1 ⟨_,rfl,rfl,_,rfl,A0c rfl ⟨_,rfl,rfl,_,rfl,G6 (by decide) ⟨rfl,(show decide (V.int 0=V.int 0)=true by decide+kernel),rfl⟩⟩⟩)⟩⟩⟩
   |halfUp=>exact⟨_,rfl,rfl,_,rfl,G6 (nW (y:= .halfUp) (z:= .down) (by decide)) ⟨_,rfl,rfl,_,rfl,G6 (nW (y:= .halfUp) (z:= .fiveUp) (by decide)) ⟨_,rfl,rfl,_,rfl,G6 (nW (y:= .halfUp) (z:= .floor) (by decide)) (Y1 ⟨_,rfl,rfl,_,rfl,G6 (nW (y:= .halfUp) (z:= .ceiling) (by decide)) (Y1 ⟨rfl,rfl,rfl⟩)⟩)⟩⟩⟩
   |halfDown=>exact⟨_,rfl,rfl,_,rfl,G6 (nW (y:= .halfDown) (z:= .down) (by decide)) ⟨_,rfl,rfl,_,rfl,G6 (nW (y:= .halfDown) (z:= .fiveUp) (by decide)) ⟨_,rfl,rfl,_,rfl,G6 (nW (y:= .halfDown) (z:= .floor) (by decide)) (Y1 ⟨_,rfl,rfl,_,rfl,G6 (nW (y:= .halfDown) (z:= .ceiling) (by decide)) (Y1 ⟨rfl,rfl,rfl⟩)⟩)⟩⟩⟩
   |halfEven=>exact⟨_,rfl,rfl,_,rfl,G6 (nW (y:= .halfEven) (z:= .down) (by decide)) ⟨_,rfl,rfl,_,rfl,G6 (nW (y:= .halfEven) (z:= .fiveUp) (by decide)) ⟨_,rfl,rfl,_,rfl,G6 (nW (y:= .halfEven) (z:= .floor) (by decide)) (Y1 ⟨_,rfl,rfl,_,rfl,G6 (nW (y:= .halfEven) (z:= .ceiling) (by decide)) (Y1 ⟨rfl,rfl,rfl⟩)⟩)⟩⟩⟩
   | fiveUp=>
     have nines:=nines rfl
     exact⟨_,rfl,rfl,_,rfl,G6 (nW (y:= .fiveUp) (z:= .down) (by decide)) ⟨_,rfl,rfl,_,rfl,A0c rfl (Z3 ⟨_,rfl,_,rfl,vr.toNat,(by rw[Int.toNat_of_nonneg (by omega)];rfl),by omega,_,_,rfl,rfl,_,rfl,_,rfl,_,_,rfl,rfl,_,_,rfl,rfl,z4,fun t nt=>⟨_,rfl,z2,fun q nq=>nines t q nt nq⟩⟩)⟩⟩
 refine L2.hideG fun Z_ z_=>?_
 rintro σ' H3 ⟨rfl,e,rfl⟩
 subst z_
 clear I_
 refine⟨_,rfl,z4,fun t nt=>⟨_,rfl,z2,fun q nq=>?_⟩⟩
 have u1:=B5.upd (o:= .tup (Nm.vs ⟨.end_,sg,0,0⟩)) nt
 have u2:=B5.upd (o:= .tup [.ref t,.ref l]) nq
 refine k q _ (t2.trans (u1.trans u2)) ⟨t,l,A6,?_,(u1.trans u2) _ _ hl⟩
 unfold A8k
 rw[e,if_pos rfl]
 exact u2 _ _ A6
noncomputable def B3p:Sp:=fun vs H Q _=>∃rt v,∃s i:Int,vs=[.ref rt,.int s,.int i]/\H rt=some (.tup (Cv.tup v))/\v.Ok/\∀q H',B5 H H' ->A3z H' q ⟨.plain,s,0,B3b (A3k i (v.l-v.r+1)) v.m⟩ [] ->Q (.ref q) H'
theorem scLNought:B8 ["_law_rules_here","_law_sign","_law_ideal","_law_room","_law_way","_law_least","_law_most"] Q40 (A5 A7b):=scK
theorem C5w{v:Cv}(ok:v.Ok)(i:Int):(if(if i<v.m then i else v.m)>v.l-v.r+1 then(if i<v.m then i else v.m) else v.l-v.r+1)=B3b (A3k i (v.l-v.r+1)) v.m:=by
 have:=ok.r1;have:=ok.l2;have:=ok.m1
 unfold B3b A3k
 repeat' split
 all_goals omega
theorem C1h(D:Def K mg "_law_nought" Q40 A7b f fd)(O:Own mg):sI P w K mg base 1 f fd Q40 B3p:=by
 refine G0.up (D.F.ok scLNought (fun vs H Q E h=>?_) (fun cdv A outer s H vs Q E hr h=>?_))
 . obtain⟨rt,v,sg,i,rfl,_⟩:=h
   rfl
 obtain⟨rt,v,sg,i,rfl,hrt,ok,k⟩:=h
 refine⟨_,(A4 (A1e (pv 0) (A0x rfl (D4 (D0 (i:=3) scLNought.nd rfl (Or.inl rfl)) (D4 (D0 (i:=4) scLNought.nd rfl (Or.inl rfl)) (D4 (D0 (i:=5) scLNought.nd rfl (Or.inl rfl)) (D4 (D0 (i:=6) scLNought.nd rfl (Or.inl rfl)) Z0)))))) (A7 (B7 (V7 (A0 (V7 (A0 C7 (A0 (pv 1) (A0 A2 (A0 (U8 (A7z rfl) (by rfl) O.max_ boot_max (A0 (A9 U7 (A9 V3 (pv 5) (pv 3)) A2) (A0 (U8 (B3n rfl) (by rfl) O.min_ boot_min (A0 (pv 6) (A0 (pv 2) A3))) A3))) A3))))) (A0 (J9 A3) A3)))))),?_⟩
 have z0:0<=sizeLine:=Nat.zero_le _
 have z2:2<=sizeLine:=D3 (by decide)
 have z4:4<=sizeLine:=D3 (by decide)
 refine⟨_,rfl,rt,_,rfl,SqT.of hrt,rfl,_,_,rfl,_,_,rfl,_,_,rfl,_,_,rfl,rfl,?_⟩
 refine⟨_,rfl,_,rfl,_,rfl,_,_,rfl,rfl,_,_,rfl,rfl,_,rfl,_,rfl,_,_,rfl,_,_,rfl,z4,fun t nt=>⟨z0,fun l nl=>⟨z2,fun q nq=>?_⟩⟩⟩
 have u2:=B5.upd (o:= .lst []) nl
 have u3:=B5.upd (o:= .tup [.ref t,.ref l]) nq
 refine k q _ ((B5.upd nt).trans (u2.trans u3)) ⟨t,l,A6,?_,u3 _ _ A6⟩
 refine(u2.trans u3) _ _ ?_
 rw[A6]
 show some (HO.tup [.str "plain",.int sg,.int 0,.int (if(if i<v.m then i else v.m)>v.l-v.r+1 then(if i<v.m then i else v.m) else v.l-v.r+1)])=_
 rw[C5w ok]
 rfl
theorem B9m(x:Str)(b:Bool):(List.replicate (if b=true then(1:Int) else 0).toNat [V.str x]).flatten=(A4f x b).map V.str:=by cases b<;>rfl
theorem A5k(x:Str)(b:Bool):(A4f x b).length<=1:=by cases b<;>simp[A4f]
theorem G2p{y:Wy}{s f pt:Int}(h:¬pt=0):f+(if y.goes s (f % 10) pt=true then 1 else 0)=upI y s f pt:=by
 unfold upI
 rw[if_neg h]
 cases y.goes s (f % 10) pt with
 |true=>rfl
 |false=>rw[if_neg Bool.false_ne_true,if_neg Bool.false_ne_true,Int.add_zero]
theorem C9w{l L pt:Int}{cut:Bool}(h:¬pt=0)(z:Str):z∈A4f "sunk" (decide (L<l))++A4f "faint" (decide (L<l))++(["off","cut"]:List Str)↔z∈A0n pt cut++A0k l L pt:=by
 unfold A0n A0k A4f
 rw[if_neg h]
 by_cases q:L<l
 . rw[if_neg (by omega:¬L>=l),decide_eq_true q,if_neg h]
   simp only[if_true,List.mem_append,List.mem_cons,List.not_mem_nil,or_false]
   constructor
   . rintro((a|a)|a|a)
     . exact .inr (.inl a)
     . exact .inr (.inr a)
     . exact .inl (.inl a)
     . exact .inl (.inr a)
   . rintro((a|a)|a|a)
     . exact .inr (.inl a)
     . exact .inr (.inr a)
     . exact .inl (.inl a)
     . exact .inl (.inr a)
 rw[if_pos (by omega:L>=l),decide_eq_false q]
 simp
theorem D9c{l L:Int}{cut:Bool}(z:Str):z∈A4f "faint" (decide (L<l))++A4f "cut" cut↔z∈A0n 0 cut++A0k l L 0:=by
 unfold A0n A0k A4f
 by_cases q:L<l
 . rw[if_neg (by omega:¬L>=l),decide_eq_true q]
   cases cut<;>simp[or_comm]
 rw[if_pos (by omega:L>=l),decide_eq_false q]
 cases cut<;>simp
noncomputable def A9d:Sp:=fun vs H Q _=>∃rt v,∃s f p pt i L:Int,vs=[.ref rt,.int s,.int f,.int p,.int pt,.bl (decide (L<v.l)),.int i]/\H rt=some (.tup (Cv.tup v))/\v.Ok/\0<=s/\s<=1/\0<=f/\f<B0 v.r/\0<=pt/\pt<=3/\
 ∀q zs H',B5 H H' ->A3z H' q (A2n v s f pt L p i).1 zs ->(∀z,z∈zs↔z∈(A2n v s f pt L p i).2) ->Q (.ref q) H'
noncomputable abbrev G6a:List Str:=["_law_rules_here","_law_sign","_law_figures","_law_power_here","_law_part","_law_is_faint","_law_ideal","_law_room","_law_way","_law_least","_law_most","_law_raised"]
theorem scLFinished:B8 G6a Q41 (A5 A2e):=scK
theorem B5z(D:Def K mg "_law_finished" Q41 A2e f fd)(dA:Def K mg "_law_ten" ["_law_count"] A8z f1 fd1)(dB:sI P w K mg base 1 f1 fd1 ["_law_count"] A7y)
   (dC:Def K mg "_law_goes_up" Q33 B6c f2 fd2) (dD:sI P w K mg base 1 f2 fd2 Q33 C2z) (dE:Def K mg "_law_burst" Q39 A6u f3 fd3) (dF:sI P w K mg base 2 f3 fd3 Q39 B7u) (O:Own mg):
   sI P w K mg base 3 f fd Q41 A9d:=by
 refine G0.up (D.F.ok scLFinished (fun vs H Q E h=>?_) (fun cdv A outer s H vs Q E hr h=>?_))
 . obtain⟨rt,v,sg,fg,pw,pt,i,L,rfl,_⟩:=h
   rfl
 obtain⟨rt,v,sg,fg,pw,pt,i,L,rfl,hrt,ok,s0,s1,f0,f1,p0,p3,k⟩:=h
 have hx:V1 (A2d CX0 P w K mg base G6a "_law_finished" (A5 A2e) f cdv A outer s H E).nox EKF:=A1u
 refine⟨_,(A4 (A8 (A1e (pv 0) (A0x rfl (D4 (D0 (i:=7) scLFinished.nd rfl (Or.inl rfl)) (D4 (D0 (i:=8) scLFinished.nd rfl (Or.inl rfl)) (D4 (D0 (i:=9) scLFinished.nd rfl (Or.inl rfl)) (D4 (D0 (i:=10) scLFinished.nd rfl (Or.inl rfl)) Z0))))))) (A4 (A8 (D5 (i:=11) scLFinished.nd rfl (Or.inl rfl) (A9 C0z (J9 (A0 C7 A3)) (V5 A0q (by rfl) O.int_ boot_int (A0 (pv 5) A3))))) (A4 (A8 (U0 (C8 A2f (pv 4) A2 (B9 _)) (A4 (A8 (D5 (i:=11) scLFinished.nd rfl (Or.inl rfl) (A9 B1d (A9 B1d (A9 C0z (J9 (A0 C7 A3)) (V5 A0q (by rfl) O.int_ boot_int (A0 (pv 5) A3))) (pv 11)) (J9 (A0 C7 (A0 C7 A3)))))) (A4 (A8 (D5 (i:=2) scLFinished.nd rfl (Or.inl rfl) (A9 U7 (pv 2) (V5 A0q (by rfl) O.int_ boot_int (A0 (V0 dC dD hr hx (A0 (pv 8) (A0 (pv 1) (A0 (A9 U3 (pv 2) A2) (A0 (pv 4) A3))))) A3))))) (A7 (A8 (U0 (C8 G4 (pv 2) (V0 dA dB hr hx (A0 (pv 7) A3)) (B9 _)) (A4 (A8 (D5 (i:=2) scLFinished.nd rfl (Or.inl rfl) (A9 G9 (pv 2) A2))) (A7 (A8 (D5 (i:=3) scLFinished.nd rfl (Or.inl rfl) (A9 U7 (pv 3) A2))))) D7))))) (A4 (A8 (A7f PassesOwn.never (PW.pt (A2y (C8 A3y (pv 3) (pv 6) (B9 _)) (A1n (C8 G4 (A9 U3 (pv 2) A2) A2 (B9 _))))) (A4 (A8 (D5 (i:=2) scLFinished.nd rfl (Or.inl rfl) (A9 G9 (pv 2) A2))) (A7 (A8 (D5 (i:=3) scLFinished.nd rfl (Or.inl rfl) (A9 U7 (pv 3) A2))))))) (A7 (A8 (D5 (i:=11) scLFinished.nd rfl (Or.inl rfl) (A9 B1d (pv 11) (A9 C0z (J9 (A0 C7 A3)) (V5 A0q (by rfl) O.int_ boot_int (A0 (D9 A2f (pv 3) (pv 6) (B9 _)) A3)))))))))) (A4 (A8 (U0 (PW.pt (A2y (C8 A2f (pv 2) A2 (B9 _)) (A1n (C8 A2f (A9 V3 (A9 U7 (pv 3) (U8 A1x (by rfl) O.len_ PySem.boot_len (A0 (V5 A6n (by rfl) O.str_ boot_str (A0 (pv 2) A3)) A3))) A2) (pv 10) (B9 _))))) (A7 (B7 (V0 dE dF hr hx (A0 (pv 0) (A0 (pv 1) A3))))) D7)) (A7 (B7 (V7 (A0 (V7 (A0 C7 (A0 (pv 1) (A0 (pv 2) (A0 (pv 3) A3))))) (A0 (pv 11) A3))))))))),?_⟩
 have z1:1<=sizeLine:=D3 (by decide)
 have z2:2<=sizeLine:=D3 (by decide)
 have z4:4<=sizeLine:=D3 (by decide)
 have d10:(0:Int)<10/\(10:Int).natAbs.log2<9000:=⟨by decide,by decide+kernel⟩
 have r1:=ok.r1;have r2:=ok.r2
 have kb:∀b:Bool, -(2^63:Int)<=(if b=true then(1:Int) else 0)/\(if b=true then(1:Int) else 0)<2^63/\1*(if b=true then(1:Int) else 0).toNat<=sizeLine:=fun b=>by
   cases b
   . exact⟨by decide,by decide,Nat.zero_le _⟩
   . exact⟨by decide,by decide,z1⟩
 generalize hft:decide (L<v.l)=ft
 refine⟨fun σ' H'=>H'=H/\σ'=[sr rt,si sg,si fg,si pw,si pt,some (.bl ft),si i,si v.r,sR v.y.name,si v.l,si v.m,none],?_,?_⟩
 . exact⟨_,rfl,rt,_,rfl,SqT.of hrt,rfl,_,_,rfl,_,_,rfl,_,_,rfl,_,_,rfl,rfl,rfl,rfl⟩
 rintro σ' H1 ⟨rfl,rfl⟩
 refine⟨fun σ' H'=>∃l,B5 H1 H'/\H' l=some (.lst ((A4f "faint" ft).map V.str))/\σ'=[sr rt,si sg,si fg,si pw,si pt,some (.bl ft),si i,si v.r,sR v.y.name,si v.l,si v.m,sr l],?_,?_⟩
 . refine⟨z1,fun l1 n1=>⟨_,rfl,.inr ⟨_,rfl,l1,_,_,rfl,rfl,A6,(kb ft).1,(kb ft).2.1,(kb ft).2.2,fun l2 n2=>?_⟩⟩⟩
   rw[B9m]
   exact⟨l2,(B5.upd n1).trans (B5.upd n2),A6,rfl⟩
 refine L2.hideG fun Z_ z_=>?_
 rintro σ' H2 ⟨l,t2,hl,rfl⟩
 subst z_
 refine⟨fun σ' H'=>∃l,∃zs:List Str,B5 H1 H'/\H' l=some (.lst (zs.map V.str))/\(∀z,z∈zs↔z∈A0n pt (decide ((A0d v sg fg pt pw i).2>i))++A0k v.l L pt)/\σ'=[sr rt,si sg,si ((A0d v sg fg pt pw i).1),si ((A0d v sg fg pt pw i).2),si pt,some (.bl ft),si i,si v.r,sR v.y.name,si v.l,si v.m,sr l],?_,?_⟩
 . refine ⟨_,rfl,_,_,rfl,rfl,_,rfl,U5 (fun hp=>?_) (fun hp=>?_)⟩
   . have hp:¬pt=0:=by
       have:pt>0:=hp
       omega
     refine⟨fun σ' H'=>∃l,B5 H1 H'/\H' l=some (.lst ((A4f "sunk" ft++A4f "faint" ft++(["off","cut"]:List Str)).map V.str))/\σ'=[sr rt,si sg,si fg,si pw,si pt,some (.bl ft),si i,si v.r,sR v.y.name,si v.l,si v.m,sr l],?_,?_⟩
     . refine⟨z1,fun l1 n1=>⟨_,rfl,.inr ⟨_,rfl,l1,_,_,rfl,rfl,A6,(kb ft).1,(kb ft).2.1,(kb ft).2.2,fun l2 n2=>?_⟩⟩⟩
       rw[B9m]
       have u1:=B5.upd (o:= .lst [.str "sunk"]) n1
       have u2:=B5.upd (o:= .lst ((A4f "sunk" ft).map V.str)) n2
       have q1:=A5k "sunk" ft
       have q2:=A5k "faint" ft
       refine⟨_,rfl,l2,l,_,_,rfl,rfl,A6,(u1.trans u2) _ _ hl,D3 (by rw[List.length_map,List.length_map];omega),fun l3 n3=>⟨z2,fun l4 n4=>?_⟩⟩
       have u3:=B5.upd (o:= .lst ((A4f "sunk" ft).map V.str++(A4f "faint" ft).map V.str)) n3
       have u4:=B5.upd (o:= .lst [.str "off",.str "cut"]) n4
       refine⟨l3,l4,_,_,rfl,rfl,u4 _ _ A6,A6,D3 (by rw[List.length_append,List.length_map,List.length_map];show _+2<=_;omega),fun l5 n5=>?_⟩
       refine⟨l5,t2.trans ((u1.trans u2).trans ((u3.trans u4).trans (B5.upd n5))),?_,rfl⟩
       rw[A6,List.map_append,List.map_append]
       rfl
     refine L2.hideG fun Z_ z_=>?_
     rintro σ' H3 ⟨l,t3,hl,rfl⟩
     subst z_
     refine⟨fun σ' H'=>H'=H3/\σ'=[sr rt,si sg,si (upI v.y sg fg pt),si pw,si pt,some (.bl ft),si i,si v.r,sR v.y.name,si v.l,si v.m,sr l],?_,?_⟩
     . refine⟨_,rfl,_,rfl,_,rfl,_,rfl,_,_,rfl,rfl,d10.1,_,rfl,v.y,sg,fg % 10,pt,rfl,by omega,p3,.inr ⟨_,rfl,_,_,rfl,rfl,rfl,?_⟩⟩
       rw[<-G2p hp]
       rfl
     rintro σ' H4 ⟨rfl,rfl⟩
     generalize hu:upI v.y sg fg pt=u
     have en:A0d v sg fg pt pw i=A4u v.r u pw:=by unfold A0d;rw[if_neg hp,hu]
     rw[en]
     unfold A4u
     refine⟨fun σ' H'=>H'=H4/\σ'=[sr rt,si sg,si ((A4u v.r u pw).1),si ((A4u v.r u pw).2),si pt,some (.bl ft),si i,si v.r,sR v.y.name,si v.l,si v.m,sr l],?_,?_⟩
     . unfold A4u
       refine⟨_,rfl,_,rfl,v.r.toNat,(by rw[Int.toNat_of_nonneg (by omega)];rfl),by omega,rfl,_,rfl,U5 (fun e=>?_) (fun e=>?_)⟩
       . have e:u=B0 v.r:=by injection e
         rw[if_pos e]
         refine⟨fun σ' H'=>H'=H4/\σ'=[sr rt,si sg,si (u/10),si pw,si pt,some (.bl ft),si i,si v.r,sR v.y.name,si v.l,si v.m,sr l],⟨_,rfl,_,_,rfl,rfl,d10,rfl,rfl⟩,?_⟩
         rintro σ' H5 ⟨rfl,rfl⟩
         exact⟨fun σ' H'=>H'=H5/\σ'=[sr rt,si sg,si (u/10),si (pw+1),si pt,some (.bl ft),si i,si v.r,sR v.y.name,si v.l,si v.m,sr l],⟨_,rfl,_,_,rfl,rfl,rfl,rfl⟩,fun _ _ h=>h⟩
       . have e:¬u=B0 v.r:=fun z=>e (congrArg V.int z)
         rw[if_neg e]
         exact⟨rfl,rfl⟩
     rintro σ' H5 ⟨rfl,rfl⟩
     exact⟨l,_,t3,hl,fun z=>by rw[<-hft];exact C9w hp z,rfl⟩
   . have hp:pt=0:=by
       have:¬pt>0:=hp
       omega
     subst hp
     have en:A0d v sg fg 0 pw i=A0a i fg pw:=rfl
     rw[en]
     refine⟨fun σ' H'=>H'=H2/\σ'=[sr rt,si sg,si ((A0a i fg pw).1),si ((A0a i fg pw).2),si 0,some (.bl ft),si i,si v.r,sR v.y.name,si v.l,si v.m,sr l],?_,?_⟩
     . refine A6y (fun σ H3=>H3=H2/\∃f p:Int,A0a i f p=A0a i fg pw/\σ=[sr rt,si sg,si f,si p,si 0,some (.bl ft),si i,si v.r,sR v.y.name,si v.l,si v.m,sr l]) (fun σ _=>match σ with|_::_::_::some (.int p)::_=>(i-p).toNat|_=>0) ?_ ?_ ?_
       . exact⟨rfl,fg,pw,rfl,rfl⟩
       . rintro σ H3 ⟨rfl,f,p,e,rfl⟩
         have stop:¬(p<i/\f % 10=0) ->(f,p)=A0a i fg pw:=fun h=>by rw[<-e,B1x h]
         refine⟨_,rfl,_,rfl,_,_,rfl,rfl,_,rfl,U5 (fun h1=>?_) (fun h1=>Y1 ⟨rfl,by rw[<-stop fun q=>h1 q.1]⟩)⟩
         refine⟨_,rfl,_,_,rfl,rfl,d10.1,rfl,_,rfl,U5 (fun h2=>?_) (fun h2=>⟨rfl,by rw[<-stop fun q=>h2 (congrArg V.int q.2)]⟩)⟩
         have h1:p<i:=h1
         have h2:f % 10=0:=by injection h2
         refine⟨fun σ' H'=>H'=H3/\σ'=[sr rt,si sg,si (f/10),si p,si 0,some (.bl ft),si i,si v.r,sR v.y.name,si v.l,si v.m,sr l],⟨_,rfl,_,_,rfl,rfl,d10,rfl,rfl⟩,?_⟩
         rintro σ' H4 ⟨rfl,rfl⟩
         refine⟨fun σ' H'=>H'=H4/\σ'=[sr rt,si sg,si (f/10),si (p+1),si 0,some (.bl ft),si i,si v.r,sR v.y.name,si v.l,si v.m,sr l],⟨_,rfl,_,_,rfl,rfl,rfl,rfl⟩,?_⟩
         rintro σ' H5 ⟨rfl,rfl⟩
         refine⟨⟨rfl,f/10,p+1,(B0n h1 h2).symm.trans e,rfl⟩,?_⟩
         show(i-(p+1)).toNat<(i-p).toNat
         omega
       . rintro σ H3 Q1 Q2 hQ ⟨v1,e,v2,e2,a,b,e3,e4,c,e5,q⟩
         refine⟨v1,e,v2,e2,a,b,e3,e4,c,e5,?_⟩
         cases c with
         |false=>exact Y1 (hQ _ _ (by simpa using q))
         | true=>
           have q:_:=q
           rw[if_pos rfl] at q ⊢
           obtain⟨v3,e6,a2,b2,e7,e8,e9,e10,e11,e12,q⟩:=q
           exact⟨v3,e6,a2,b2,e7,e8,e9,e10,e11,e12,hQ _ _ q⟩
     rintro σ' H3 ⟨rfl,rfl⟩
     generalize hw:A0a i fg pw=st
     obtain⟨f',p'⟩:=st
     refine⟨fun σ' H'=>∃l,∃zs:List Str,B5 H1 H'/\H' l=some (.lst (zs.map V.str))/\(∀z,z∈zs↔z∈A0n 0 (decide (p'>i))++A0k v.l L 0)/\σ'=[sr rt,si sg,si f',si p',si 0,some (.bl ft),si i,si v.r,sR v.y.name,si v.l,si v.m,sr l],?_,fun _ _ h=>h⟩
     refine⟨_,rfl,z1,fun l1 n1=>⟨_,rfl,_,rfl,_,_,rfl,rfl,.inr ⟨_,rfl,l1,_,_,rfl,rfl,A6,(kb (decide (p'>i))).1,(kb (decide (p'>i))).2.1,(kb (decide (p'>i))).2.2,fun l2 n2=>?_⟩⟩⟩
     rw[B9m]
     have u1:=B5.upd (o:= .lst [.str "cut"]) n1
     have u2:=B5.upd (o:= .lst ((A4f "cut" (decide (p'>i))).map V.str)) n2
     have q1:=A5k "cut" (decide (p'>i))
     have q2:=A5k "faint" ft
     refine⟨l,l2,_,_,rfl,rfl,(u1.trans u2) _ _ hl,A6,D3 (by rw[List.length_map,List.length_map];exact Nat.le_trans (Nat.add_le_add (A5k _ _) (A5k _ _)) (by decide)),fun l3 n3=>?_⟩
     refine⟨l3,A4f "faint" ft++A4f "cut" (decide (p'>i)),t2.trans ((u1.trans u2).trans (B5.upd n3)),by rw[A6,List.map_append],fun z=>by rw[<-hft];exact D9c z,rfl⟩
 refine L2.hideG fun Z_ z_=>?_
 rintro σ' H3 ⟨l,zs,t3,hl,hz,rfl⟩
 subst z_
 have sm:=B1u (s:=sg) (pt:=pt) (q:=pw) (i:=i) ok f0 f1
 have nn:0<=(A0d v sg fg pt pw i).1:=by
   unfold A0d
   split
   . exact(B0r i (i-pw).toNat fg pw f0).1
   . have hu:0<=upI v.y sg fg pt:=by
       unfold upI
       generalize (if pt=0 then false else v.y.goes sg (fg % 10) pt)=g
       cases g with
       |true=>show 0<=fg+1;omega
       |false=>exact f0
     generalize upI v.y sg fg pt=u at hu
     unfold A4u
     split
     . show 0<=u/10;omega
     . exact hu
 unfold A2n at k
 generalize (A0d v sg fg pt pw i).1=f' at*
 generalize (A0d v sg fg pt pw i).2=p' at*
 have lg:f'.natAbs.log2<1920:=Nat.lt_trans (A3j sm (by decide)) (by decide)
 refine⟨fun σ' H'=>H'=H3/\A1c v.m f' p'=false/\σ'=[sr rt,si sg,si f',si p',si pt,some (.bl ft),si i,si v.r,sR v.y.name,si v.l,si v.m,sr l],?_,?_⟩
 . refine⟨_,rfl,_,_,rfl,rfl,_,rfl,U5 (fun h=>?_) (fun h=>Y1 ⟨rfl,?_,rfl⟩)⟩
   . have h:f'>0:=h
     have eb:A1c v.m f' p'=decide (p'+A1f f'-1>v.m):=by unfold A1c;rw[if_neg (by omega)]
     rw[eb] at k
     refine⟨_,rfl,_,rfl,_,rfl,lg,_,rfl,int_text_fits lg,_,_,rfl,rfl,_,_,rfl,rfl,_,rfl,_,_,rfl,rfl,_,rfl,U5 (fun h2=>?_) (fun h2=>⟨rfl,by rw[eb];exact decide_eq_false h2,rfl⟩)⟩
     rw[decide_eq_true (show p'+A1f f'-1>v.m from h2),if_pos rfl] at k
     exact⟨_,rfl,_,rfl,rt,v,sg,rfl,t3 _ _ hrt,ok,s0,s1,fun q H' s' du=>k q _ H' (t3.trans s') du fun z=>Iff.rfl⟩
   . have h:¬f'>0:=h
     unfold A1c
     rw[if_pos (by omega)]
 refine L2.hideG fun Z_ z_=>?_
 rintro σ' H4 ⟨rfl,e,rfl⟩
 subst z_
 rw[e,if_neg Bool.false_ne_true] at k
 refine⟨_,rfl,_,rfl,_,rfl,z4,fun t nt=>⟨_,rfl,z2,fun q nq=>?_⟩⟩
 have u1:=B5.upd (o:= .tup (Nm.vs ⟨.plain,sg,f',p'⟩)) nt
 have u2:=B5.upd (o:= .tup [.ref t,.ref l]) nq
 exact k q zs _ (t3.trans (u1.trans u2)) ⟨t,l,A6,u2 _ _ A6,(u1.trans u2) _ _ hl⟩ hz
theorem D0m(l m:Int):0<=A1g l m/\A1g l m<=3:=by
 unfold A1g
 cases decide (0<l)<;>cases decide (m<=2*l)<;>cases decide (m<2*l)<;>decide
theorem G2e(v:Cv)(L:Int):(if v.l>L then v.l else L)-v.r+1=v.fin L:=by
 unfold Cv.fin A3k
 by_cases h:v.l>L
 . rw[if_pos h,if_pos (by omega)]
 rw[if_neg h,if_neg (by omega)]
noncomputable def B2n:Sp:=fun vs H Q _=>∃rt v,∃s t b i:Int,vs=[.ref rt,.int s,.int t,.int b,.int i]/\H rt=some (.tup (Cv.tup v))/\v.Ok/\0<=s/\s<=1/\SzL t/\SzL b/\
 ∀L q zs H',A0s t b (0-L) ->B5 H H' ->A3z H' q (Z9 v s t b 0 L i).1 zs ->(∀z,z∈zs↔z∈(Z9 v s t b 0 L i).2) ->Q (.ref q) H'
noncomputable abbrev G5v:List Str:=["_law_rules_here","_law_sign","_law_top","_law_bottom","_law_ideal","_law_room","_law_way","_law_least","_law_most","_law_lead_here","_law_power_here","_law_high","_law_low","_law_figures","_law_left","_law_part"]
theorem scLSettled:B8 G5v Q42 (A5 A3f):=scK
theorem B9c(D:Def K mg "_law_settled" Q42 A3f f fd)(dA:Def K mg "_law_lead" Q38 B2b f1 fd1)(dB:sI P w K mg base 3 f1 fd1 Q38 C3u)
   (dC:Def K mg "_law_scaled" Q9 A2j f2 fd2) (dD:sI P w K mg base 2 f2 fd2 Q9 A5q) (dE:Def K mg "_law_finished" Q41 A2e f3 fd3)
   (dF:sI P w K mg base 3 f3 fd3 Q41 A9d) (O:Own mg):sI P w K mg base 4 f fd Q42 B2n:=by
 refine G0.up (D.F.ok scLSettled (fun vs H Q E h=>?_) (fun cdv A outer s H vs Q E hr h=>?_))
 . obtain⟨rt,v,sg,t,b,i,rfl,_⟩:=h
   rfl
 obtain⟨rt,v,sg,t,b,i,rfl,hrt,ok,s0,s1,ht,hb,k⟩:=h
 have hx:V1 (A2d CX0 P w K mg base G5v "_law_settled" (A5 A3f) f cdv A outer s H E).nox EKF:=A1u
 refine⟨_,(A4 (A8 (A1e (pv 0) (A0x rfl (D4 (D0 (i:=5) scLSettled.nd rfl (Or.inl rfl)) (D4 (D0 (i:=6) scLSettled.nd rfl (Or.inl rfl)) (D4 (D0 (i:=7) scLSettled.nd rfl (Or.inl rfl)) (D4 (D0 (i:=8) scLSettled.nd rfl (Or.inl rfl)) Z0))))))) (A4 (A8 (D5 (i:=9) scLSettled.nd rfl (Or.inl rfl) (V0 dA dB hr hx (A0 (pv 2) (A0 (pv 3) A3))))) (A4 (A8 (D5 (i:=10) scLSettled.nd rfl (Or.inl rfl) (A9 U7 (A9 V3 (U8 (A7z rfl) (by rfl) O.max_ boot_max (A0 (pv 9) (A0 (pv 7) A3))) (pv 5)) A2))) (A4 (A8 (A1e (V0 dC dD hr hx (A0 (pv 2) (A0 (pv 3) (A0 (A9 V3 A2 (pv 10)) A3)))) (A0x rfl (D4 (D0 (i:=11) scLSettled.nd rfl (Or.inl rfl)) (D4 (D0 (i:=12) scLSettled.nd rfl (Or.inl rfl)) Z0))))) (A4 (A8 (A1e (U8 B5b (by rfl) O.divmod_ PyProof.Rows.boot_divmod (A0 (pv 11) (A0 (pv 12) A3))) (A0x rfl (D4 (D0 (i:=13) scLSettled.nd rfl (Or.inl rfl)) (D4 (D0 (i:=14) scLSettled.nd rfl (Or.inl rfl)) Z0))))) (A4 (A8 (D5 (i:=15) scLSettled.nd rfl (Or.inl rfl) (A9 U7 (A9 U7 (V5 A0q (by rfl) O.int_ boot_int (A0 (D9 A2f (pv 14) A2 (B9 _)) A3)) (V5 A0q (by rfl) O.int_ boot_int (A0 (D9 C3q (A9 U2 A2 (pv 14)) (pv 12) (B9 _)) A3))) (V5 A0q (by rfl) O.int_ boot_int (A0 (D9 A2f (A9 U2 A2 (pv 14)) (pv 12) (B9 _)) A3))))) (A7 (B7 (V0 dE dF hr hx (A0 (pv 0) (A0 (pv 1) (A0 (pv 13) (A0 (pv 10) (A0 (pv 15) (A0 (D9 A3y (pv 9) (pv 7) (B9 _)) (A0 (pv 4) A3)))))))))))))))),?_⟩
 have mC:∀z n:Int, -(2^64)<n ->n<2^64 ->IntMulOk n z:=fun z n a b=>A2a.ok (.inl ⟨a,b⟩)
 have r1:=ok.r1;have r2:=ok.r2;have l1:=ok.l1;have l2:=ok.l2
 let I_:L2.St ->L2.Hp ->Prop:=fun σ' H'=>H'=H/\σ'=[sr rt,si sg,si t,si b,si i,si v.r,sR v.y.name,si v.l,si v.m,none,none,none,none,none,none,none]
 refine⟨I_,?_,?_⟩
 . exact⟨_,rfl,rt,_,rfl,SqT.of hrt,rfl,_,_,rfl,_,_,rfl,_,_,rfl,_,_,rfl,rfl,rfl,rfl⟩
 rintro σ' H1 ⟨rfl,rfl⟩
 clear I_
 let I_:L2.St ->L2.Hp ->Prop:=fun σ' H'=>∃L,B5 H1 H'/\A0s t b (0-L)/\ -1801<=L/\L<=1801/\σ'=[sr rt,si sg,si t,si b,si i,si v.r,sR v.y.name,si v.l,si v.m,si L,none,none,none,none,none,none]
 refine⟨I_,?_,?_⟩
 . exact⟨_,rfl,_,rfl,t,b,rfl,ht,hb,fun L H' ld a c s'=>⟨L,s',ld,a,c,rfl⟩⟩
 refine L2.hideG fun Z_ z_=>?_
 rintro σ' H2 ⟨L,t2,ld,La,Lb,rfl⟩
 subst z_
 clear I_
 have fb: -2500<=0-v.fin L/\0-v.fin L<=2500:=by
   unfold Cv.fin A3k
   split<;>omega
 have wr:=D0c (s1:=0-L) (s2:=0-v.fin L) ht hb ld r1 (by
   unfold Cv.fin A3k
   split<;>omega)
 have k:=k L
 unfold Z9 at k
 refine⟨fun σ' H'=>H'=H2/\σ'=[sr rt,si sg,si t,si b,si i,si v.r,sR v.y.name,si v.l,si v.m,si L,si (v.fin L),none,none,none,none,none],?_,?_⟩
 . refine⟨_,rfl,_,rfl,_,_,rfl,_,rfl,_,_,rfl,rfl,_,_,rfl,rfl,rfl,?_⟩
   rw[<-G2e]
   rfl
 rintro σ' H3 ⟨rfl,rfl⟩
 have fl: -(0-v.fin L)<=0\/ -(0-v.fin L)<=L:=by
   unfold Cv.fin A3k
   split<;>omega
 generalize v.fin L=q at*
 let I_:L2.St ->L2.Hp ->Prop:=fun σ' H'=>B5 H1 H'/\σ'=[sr rt,si sg,si t,si b,si i,si v.r,sR v.y.name,si v.l,si v.m,si L,si q,si (t*B0 (0-q)),si (b*B0 (-(0-q))),none,none,none]
 refine⟨I_,?_,?_⟩
 . refine⟨_,rfl,_,rfl,_,rfl,_,_,rfl,rfl,t,b,0-q,rfl,fb.1,fb.2,B0b ht (by omega),B0b hb (by omega),fun p H' s' ep=>?_⟩
   exact⟨p,_,rfl,SqT.of ep,rfl,_,_,rfl,_,_,rfl,rfl,t2.trans s',rfl⟩
 rintro σ' H4 ⟨t4,rfl⟩
 clear I_
 have lp:0<b*B0 (-(0-q)):=Int.mul_pos (by have:=hb.1;omega) (Y3 _)
 have ll:=D8f ht hb ld (s:= -(0-q)) fl
 have hm:t*B0 (0-q) % (b*B0 (-(0-q)))=t*B0 (0-q)-whI t b (0-q)*(b*B0 (-(0-q))):=by
   unfold whI
   rw[Int.emod_def,Int.mul_comm (b*B0 (-(0-q)))]
 let I_:L2.St ->L2.Hp ->Prop:=fun σ' H'=>B5 H1 H'/\σ'=[sr rt,si sg,si t,si b,si i,si v.r,sR v.y.name,si v.l,si v.m,si L,si q,si (t*B0 (0-q)),si (b*B0 (-(0-q))),si (whI t b (0-q)),si (t*B0 (0-q)-whI t b (0-q)*(b*B0 (-(0-q)))),none]
 refine⟨I_,?_,?_⟩
 . refine⟨_,rfl,_,rfl,_,_,rfl,⟨lp,ll⟩,fun p np=>?_⟩
   rw[hm]
   exact⟨p,_,rfl,SqT.of A6,rfl,_,_,rfl,_,_,rfl,rfl,t4.trans (B5.upd np),rfl⟩
 rintro σ' H5 ⟨t5,rfl⟩
 clear I_
 unfold ptI at k
 generalize t*B0 (0-q)-whI t b (0-q)*(b*B0 (-(0-q)))=lf at*
 generalize b*B0 (-(0-q))=lo at*
 let I_:L2.St ->L2.Hp ->Prop:=fun σ' H'=>H'=H5/\σ'=[sr rt,si sg,si t,si b,si i,si v.r,sR v.y.name,si v.l,si v.m,si L,si q,si (t*B0 (0-q)),si lo,si (whI t b (0-q)),si lf,si (A1g lf lo)]
 refine⟨I_,?_,?_⟩
 . exact⟨_,rfl,_,_,rfl,rfl,.inr ⟨_,rfl,_,rfl,_,_,rfl,rfl,mC _ _ (by decide) (by decide),_,rfl,_,_,rfl,rfl,.inr ⟨_,rfl,_,_,rfl,rfl,_,rfl,_,_,rfl,rfl,mC _ _ (by decide) (by decide),_,rfl,_,_,rfl,rfl,.inr ⟨_,rfl,_,_,rfl,rfl,rfl,rfl⟩⟩⟩⟩
 rintro σ' H6 ⟨rfl,rfl⟩
 clear I_
 have pb:=D0m lf lo
 exact⟨_,rfl,_,rfl,_,rfl,_,rfl,_,rfl,_,rfl,_,rfl,_,_,rfl,rfl,_,rfl,rt,v,sg,whI t b (0-q),q,A1g lf lo,i,L,rfl,t5 _ _ hrt,ok,s0,s1,wr.1,wr.2,pb.1,pb.2,fun p zs H' s' du hz=>k p zs H' ld (t5.trans s') du hz⟩
noncomputable abbrev B0f:Stmt:=(top 79)
noncomputable def A0f (c d:Addr) (H H':Hp):Prop:=∀b o,H b=some o ->b≠c ->b≠d ->H' b=some o
theorem A0f.trans{c d:Addr}{H H1 H2:Hp}(a:A0f c d H H1)(b:A0f c d H1 H2):A0f c d H H2:=fun x o h n m=>b x o (a x o h n m) n m
theorem A0f.l{c d:Addr}{H H':Hp}(a:Exc c H H'):A0f c d H H':=fun x o h n _=>a x o h n
theorem A0f.r{c d:Addr}{H H':Hp}(a:Exc d H H'):A0f c d H H':=fun x o h _ n=>a x o h n
theorem A0f.s{c d:Addr}{H H':Hp}(a:B5 H H'):A0f c d H H':=fun x o h _ _=>a x o h
theorem C0h{tr zs:List Str}(h:B3e tr):((Y0 zs).filter fun z=>tr.contains z).head?=hit tr zs:=by
 obtain⟨p,rfl⟩:=h
 unfold hit Y0
 rw[<-List.head?_filter,List.filter_filter,List.filter_filter]
 congr 1
 refine List.filter_congr fun z hz=>?_
 rw[Bool.eq_iff_iff]
 simp[List.mem_filter,hz]
 exact And.comm
theorem D6w(z:Str)(zs:List Str):PyData.eqv (rdS (z::zs)) (rdS [])=false:=by
 simp[rdS,PyData.eqv,PyData.eqvAll]
noncomputable def kvU (us:List Str):List (Key×V):=us.map fun z=>((Sum.inr z:Key),V.bl true)
noncomputable def C1m (us:List Str) (z:Str):List Str:=if us.contains z=true then us else us++ [z]
theorem C8d(us:List Str)(z:Str):((kvU us).any fun kv=>decide (kv.1=(Sum.inr z:Key)))=us.contains z:=by
 unfold kvU
 induction us with
 |nil=>rfl
 | cons a r ih=>
   rw[List.map_cons,List.any_cons,ih,List.contains_cons]
   congr 1
   rw[Bool.eq_iff_iff,decide_eq_true_iff,beq_iff_eq]
   exact⟨fun h=>(Sum.inr.inj h).symm,fun h=>congrArg Sum.inr h.symm⟩
theorem G2j(us:List Str)(z:Str):A8a (kvU us) (Sum.inr z:Key) (.bl true)=kvU (C1m us z):=by
 unfold A8a C1m
 rw[C8d]
 by_cases h:us.contains z=true
 . rw[if_pos h,if_pos h]
   unfold kvU
   rw[List.map_map]
   refine List.map_congr_left fun a _=>?_
   show(if(Sum.inr a:Key)=(Sum.inr z:Key) then((Sum.inr a:Key),V.bl true) else((Sum.inr a:Key),V.bl true))=_
   split<;>rfl
 rw[if_neg h,if_neg h]
 unfold kvU
 rw[List.map_append]
 rfl
theorem D1a(us:List Str)(z:Str):(A8c (kvU us) (Sum.inr z:Key)).isSome=us.contains z:=by
 rw[<-C8d]
 unfold A8c
 rw[Option.isSome_map,List.isSome_find?]
theorem D7u(us:List Str)(z y:Str):y∈C1m us z↔y∈us\/y=z:=by
 unfold C1m
 split
 . rename_i h
   exact⟨.inl,fun q=>q.elim id fun e=>by rw[e];exact List.contains_iff_mem.mp h⟩
 rw[List.mem_append,List.mem_singleton]
theorem C3b(us:List Str):(Y0 us).length<=7:=List.length_filter_le _ _
theorem C3s(us:List Str):Y0 (Y0 us)=Y0 us:=by
 unfold Y0
 refine List.filter_congr fun z hz=>?_
 rw[Bool.eq_iff_iff,List.contains_iff_mem,List.contains_iff_mem,List.mem_filter,List.contains_iff_mem]
 exact⟨fun h=>h.2,fun h=>⟨hz,h⟩⟩
theorem C5m(xs zs:List Str):Y0 (Y0 (xs++zs)++zs)=Y0 (xs++zs):=by
 unfold Y0
 refine List.filter_congr fun z hz=>?_
 rw[Bool.eq_iff_iff,List.contains_iff_mem,List.contains_iff_mem,List.mem_append,List.mem_filter,List.contains_iff_mem,List.mem_append]
 exact⟨fun h=>h.elim (fun q=>q.2) .inr,fun h=> .inl ⟨hz,h⟩⟩
theorem G3g{us:List Str}{z:Str}(h:us.Nodup):(C1m us z).Nodup:=by
 unfold C1m
 split
 . exact h
 rename_i hz
 refine List.nodup_append.mpr ⟨h,by simp,fun a ha b hb=>?_⟩
 rw[List.mem_singleton.mp hb]
 rintro rfl
 exact hz (List.contains_iff_mem.mpr ha)
theorem C1b:∀(l us:List Str),us.Nodup ->(∀z∈us,z∈l) ->us.length<=l.length
 | [],us,_,h=>by
   cases us with
   |nil=>exact Nat.le_refl _
   |cons a r=>exact absurd (h a List.mem_cons_self) (by simp)
 | a ::l,us,nd,h=>by
   by_cases m:a∈us
   . have:=C1b l (us.erase a) (nd.erase a) fun z hz=>by
       obtain⟨h1,h2⟩:=(List.Nodup.mem_erase_iff nd).mp hz
       rcases List.mem_cons.mp (h z h2) with q|q
       . exact absurd q h1
       . exact q
     rw[List.length_erase_of_mem m] at this
     rw[List.length_cons]
     omega
   . have:=C1b l us nd fun z hz=>by
       rcases List.mem_cons.mp (h z hz) with q|q
       . exact absurd (q▸hz) m
       . exact q
     rw[List.length_cons]
     omega
structure RIn(CN CC:Addr)(dq tl kd c sm a b:Addr)(wh:Int)(v:Cv)(us tr zs:List Str)(as:List V)(res:Nm×List Str)(H:Hp):Prop where
 due:A3z H dq res.1 zs
 ez:∀z,z∈zs↔z∈res.2
 sz:∀z∈zs,z∈Y5
 et:H tl=some (.lst (tr.map V.str))
 st:B3e tr
 ek:H kd=some (.dK (kvU us))
 nu:us.Nodup
 su:∀z∈us,z∈Y5
 ct:Z7 CC H c v a b (Y0 us) tr
 ok:v.Ok
 es:H sm=some (.lst as)
 rd:Rdy CN wh as v c res H
noncomputable abbrev stR (dq tl kd c sm:Addr) (wh:Int) (x6 x7 x8 x9 x10 x11 x12 x13:Option V):L2.St:=[sr dq,sr tl,sr kd,sr c,si wh,sr sm,x6,x7,x8,x9,x10,x11,x12,x13]
structure C4d(K:Frag)(mg:Str ->Option Value)(CT CR:Addr):Prop where
 gT:mg "Trapped"=some (.ref CT)
 gR:mg "ReckonError"=some (.ref CR)
 c:A8n K CT
 sub:subIn K (.ref CT) (.ref CT)=some true
 k:B3d K CT
 dict:∃d,clsIn K CT=some d/\d.hasDict=true
 nosig:findIn K (.ref CT) "signal"=some none
 kR:kitOne K (.ref CT) (.ref CR)=some true
 kv:kitOne K (.ref CT) (.type "ValueError")=some true
theorem D0g{X:Cx}{e:Expr}{f:Str}{pos:Pos}{ta:TE}(hK:X.K=K)(he:PE X e ta)(hb:attributeBase e f X.env (eval e X.env)=eval e X.env):PE X (.Attribute e f pos) (G0p K ta f):=by
 subst hK
 exact D7n he hb
theorem scLRight:B8 ["_law_due","_law_traps_here","_law_kept","_law_context","_law_which","_law_some","_law_due_told","_law_raised","_law_signal","_law_caught","_law_found","e","_law_good","_law_flags"] Q43 (A5 B0f):=scK
noncomputable def B8c (CN CC:Addr):Sp:=fun vs H Q _=>∃dq tl kd c sm a b wh v us tr zs as res,vs=[.ref dq,.ref tl,.ref kd,.ref c,.int wh,.ref sm]/\RIn CN CC dq tl kd c sm a b wh v us tr zs as res H/\
 ∀us' a' b' H',(∀z,z∈us'↔z∈us\/z∈zs) ->us'.Nodup ->A0f c kd H H' ->H' kd=some (.dK (kvU us')) ->Z7 CC H' c v a' b' (Y0 us') tr ->Q (.bl true) H'
theorem C5j{f f1 f2 CN CC CB CB' CT CR A1:Addr}(D:Def K mg "_law_right" Q43 B0f f fd)(dA:Def K mg "_law_called" Q13 A4y f1 fd1)(G2_called:C6 P w K mg base 9 f1 fd1 Q13 (A8d K CN CC CT CB))
   (dB:Def K mg "_law_is" Q17 D0s f2 fd2) (G2_is:C6 P w K mg base 3 f2 fd2 Q17 (C8r CN)) (R:C4d K mg CT CR) (SG:C7b K mg A1) (C:B2t K mg CC) (MF:Has P w K mg base CC "flags" 1 ["self"] (A3s CC)) (MP:A7q P w K mg base CC "trap" 2 Q11 (B5w K CC CB')) (O:Own mg) (T:Kit K):sI P w K mg base 10 f fd Q43 (B8c CN CC):=by
 refine D.F.okE scLRight (fun vs H Q E h=>?_) (fun X cdv A outer s H vs Q E hX hr hx h=>?_)
 . obtain⟨dq,tl,kd,c,sm,a,b,wh,v,us,tr,zs,as,res,rfl,_⟩:=h
   rfl
 subst hX
 obtain⟨dq,tl,kd,c,sm,a,b,wh,v,us,tr,zs,as,res,rfl,h0,kk⟩:=h
 obtain⟨ff,fdf,mf,gf,bf⟩:=MF
 obtain⟨fp,fdp,mp,gp,bp⟩:=MP
 have G_l_called:=G2_called.fn
 have G_l_is:=G2_is.fn
 have GH_l_called:=G2_called.h
 have GH_l_is:=G2_is.h
 have hu:=hr.units
 have HU:=Nat.lt_of_le_of_lt (Nat.add_le_add_left (by decide:1<=64) _) hr.units
 refine⟨_,(A4 (A8 (A1e (pv 0) (A0x rfl (D4 (D0 (i:=6) scLRight.nd rfl (Or.inl rfl)) (D4 (D0 (i:=7) scLRight.nd rfl (Or.inr rfl)) Z0))))) (A4 (A8 (B0s PassesOwn.leaving rfl (B6b (pv 7)) (D0 (i:=8) scLRight.nd rfl (Or.inl rfl)) (A7 (A8 (D9j HU (pv 2) (pv 8) A0v (by rfl)))))) (A4 (A8 (C9p (i:=9) (N:=["_law_signal"]) (F:=["_law_traps_here","_law_raised"]) (js:=[1,7]) (D6.of2 ⟨rfl,by decide+kernel,by decide+kernel,by decide+kernel,by decide+kernel⟩ (by rfl) (by rfl) ⟨_,by rfl⟩ (by rfl) (by rfl) (by rfl) ⟨_,by rfl⟩ (by rfl) (by rfl)) (.inl hr.hd) (A9w (A4a SG.g)) rfl (fun C s₀ H₀ ex pn h=>D0 (i:=0) (by decide+kernel:(["_law_signal","_law_traps_here","_law_raised"]:List Str).Nodup) rfl (Or.inl rfl)) (fun C s₀ H₀ ex pn h=>(PW.pt (A2y (C8 (A6d (K:=K) rfl) (pv 0) (pv 2) (by rfl)) (A1n (C8 (A6d (K:=K) rfl) (pv 0) (pv 1) (by rfl)))))) (fun C s₀ H₀ ex pn h=>(pv 0)) scLRight.nd rfl (Or.inl rfl))) (A4 (A8 (D6y ⟨rfl,rfl,rfl⟩ (by rfl) R.gT R.c scLRight.nd (i:=11) rfl rfl (fun pins Ew EHb hc=>(A7 (A8 (D5 (i:=10) scLRight.nd rfl (Or.inl rfl) (V0 dA G_l_called hr hc (A0 (pv 4) (A0 (pv 3) (A0 (pv 5) A3)))))))) (fun pins a=>(A4 (A8 (D5 (i:=12) scLRight.nd rfl (Or.inl rfl) (Z4 (D9 (D8j (K:=K) rfl hr.units) (pv 9) (J9 A3) (B9 _)) (Z4 (D9 G4 (D0g (K:=K) rfl (pv 11) rfl) (V8 (B7r (K:=K) rfl) (pv 9) A2 (fun _ _=>rfl)) (B9 _)) (Z4 (A2r (K:=K) rfl O.isi (pv 11) (A4a R.gR)) (Z6 (A2r (K:=K) rfl O.isi (pv 11) (pty O.ValueError_ (show bootBuiltins "ValueError"=some (.type "ValueError") by decide+kernel))))))))) (A4 (A8 (Y6 (C3r (a:=a) rfl (pv 3) C.cl mp gp.h (hr.hm _) bp .nil (A0 (J9 A3) A3)))) (A4 (A8 (D5 (i:=12) scLRight.nd rfl (Or.inl rfl) (Z4 (pv 12) (Z6 (C3p (a:=a) rfl dB GH_l_is (hr.hm _) (A0 (C3p (a:=a) rfl dA GH_l_called (hr.hm _) (A0 (pv 4) (A0 (pv 3) (A0 (pv 5) A3)))) (A0 (pv 6) A3))))))) (A7 (A8 (Y6 (C3r (a:=a) rfl (pv 3) C.cl mp gp.h (hr.hm _) bp .nil (A0 (V5 (B2y (K:=K) rfl) (by rfl) O.list_ boot_list (A0 (pv 1) A3)) A3))))))))) (A7 (A8 (D5 (i:=12) scLRight.nd rfl (Or.inl rfl) (Z4 (D9 (C7u hr.units) (pv 9) (J9 A3) (B9 _)) (Z6 (V0 dB G_l_is hr hx (A0 (pv 10) (A0 (pv 6) A3)))))))))) (A4 (A8 (D5 (i:=13) scLRight.nd rfl (Or.inl rfl) (C0n (pv 3) C.cl mf gf hr bf .nil hx))) (A7 (B7 (Z4 (pv 12) (Z4 (A9j O.isi (pv 13) (pty O.list_ boot_list)) (Z6 (D9 (C7u hr.units) (pv 13) (B7n (N:=["_law_signal"]) (F:=["_law_kept"]) (js:=[2]) (D6.of1 ⟨rfl,by decide+kernel,by decide+kernel,by decide+kernel,by decide+kernel⟩ (by rfl) (by rfl) ⟨_,by rfl⟩ (by rfl) (by rfl)) (.inl hr.hd) (A9w (A4a SG.g)) rfl (fun C s₀ H₀ ex pn h=>D0 (i:=0) (by decide+kernel:(["_law_signal","_law_kept"]:List Str).Nodup) rfl (Or.inl rfl)) (fun C s₀ H₀ ex pn h=>(C7y (C9m HU (pv 0) (pv 1)))) (fun C s₀ H₀ ex pn h=>(pv 0))) (B9 _)))))))))))),?_⟩
 obtain⟨dt,dl,edq,edt,edl⟩:=h0.due
 obtain⟨dc,ec⟩:=h0.ct.ins
 refine⟨fun σ' H'=>H'=H/\σ'=stR dq tl kd c sm wh (some (.ref dt)) (some (.ref dl)) none none none none none none,⟨_,rfl,dq,_,rfl,SqT.of edq,rfl,_,_,rfl,_,_,rfl,rfl,rfl,rfl⟩,?_⟩
 rintro σ' H1 ⟨rfl,rfl⟩
 have nlk:dl≠kd:=U4 edl h0.ek (by intro z;cases z)
 have nck:c≠kd:=U4 ec h0.ek (by intro z;cases z)
 let I_:L2.St ->L2.Hp ->Prop:=fun σ' H'=>∃us' v8,Exc kd H1 H'/\H' kd=some (.dK (kvU us'))/\(∀z,z∈us'↔z∈us\/z∈zs)/\us'.Nodup/\σ'=stR dq tl kd c sm wh (some (.ref dt)) (some (.ref dl)) v8 none none none none none
 refine⟨I_,?_,?_⟩
 . refine⟨_,rfl,dl,rfl,⟨_,SqL.of edl⟩,A7h (xs:=zs.map V.str) (fun i σ H'=>∃us' v8,Exc kd H1 H'/\H' kd=some (.dK (kvU us'))/\(∀z,z∈us'↔z∈us\/z∈zs.take i)/\us'.Nodup/\σ=stR dq tl kd c sm wh (some (.ref dt)) (some (.ref dl)) v8 none none none none none) ⟨us,none,Exc.of (B5.refl _),h0.ek,fun z=>by simp,h0.nu,rfl⟩ ?_ ?_ ?_⟩
   . rintro i σ H' _ ⟨us',v8,x',_,_,_,_⟩
     exact SqL.of (x' _ _ edl nlk)
   . rintro i x σ H' hi ⟨us',v8,x',ek',mu,lu,rfl⟩
     rw[List.getElem?_map] at hi
     obtain⟨z,hz,rfl⟩:=Option.map_eq_some_iff.mp hi
     have hlt:i<zs.length:=(List.getElem?_eq_some_iff.mp hz).1
     have l8:us'.length<=7:=C1b Y5 us' lu fun y hy=>((mu y).mp hy).elim (h0.su y) fun q=>h0.sz y (List.mem_of_mem_take q)
     have et:zs.take (i+1)=zs.take i++ [z]:=by
       rw[List.take_succ_eq_append_getElem hlt,(List.getElem?_eq_some_iff.mp hz).2]
     refine⟨_,⟨_,rfl,_,rfl,kd,_,rfl,D1g.k (k:= .inr z) ek' (D3 (by unfold kvU;rw[List.length_map];omega)),?_⟩,fun _ _ h=>h⟩
     rw[G2j]
     refine⟨C1m us' z,_,x'.trans Exc.upd,A6,fun y=>?_,G3g lu,rfl⟩
     rw[D7u,mu,et,List.mem_append,List.mem_singleton,or_assoc]
   . rintro σ H' ⟨us',v8,x',ek',mu,lu,rfl⟩
     rw[List.length_map] at mu
     rw[List.take_length] at mu
     exact⟨us',v8,x',ek',mu,lu,rfl⟩
 refine L2.hideG fun Z_ z_=>?_
 rintro σ' H2 ⟨us',v8,x2',ek2,mu,lu,rfl⟩
 subst z_
 clear I_
 have ct2:Z7 CC H2 c v a b (Y0 us) tr:=by
   obtain⟨⟨d1,e1⟩,e2,e3⟩:=h0.ct
   exact⟨⟨d1,x2' _ _ e1 (U4 e1 h0.ek (by intro z;cases z))⟩,x2' _ _ e2 (U4 e2 h0.ek (by intro z;cases z)),x2' _ _ e3 (U4 e3 h0.ek (by intro z;cases z))⟩
 have edl2:=x2' _ _ edl nlk
 have edt2:=x2' _ _ edt (U4 edt h0.ek (by intro z;cases z))
 have et2:=x2' _ _ h0.et (U4 h0.et h0.ek (by intro z;cases z))
 have es2:=x2' _ _ h0.es (U4 h0.es h0.ek (by intro z;cases z))
 have rd2:Rdy CN wh as v c res H2:=h0.rd.keep fun b o e nd nc=>x2' _ _ e (fun z=>by rw[z,h0.ek] at e;exact nd _ (Option.some.inj e).symm)
 let I_:L2.St ->L2.Hp ->Prop:=fun σ' H'=>∃lc,B5 H2 H'/\H' lc=some (.lst (((Y0 zs).filter fun z=>tr.contains z).map V.str))/\σ'=stR dq tl kd c sm wh (some (.ref dt)) (some (.ref dl)) v8 (some (.ref lc)) none none none none
 refine⟨I_,?_,?_⟩
 . refine A6s (zs:=Y5) (f:=fun z=>zs.contains z&&tr.contains z) (σf:=[sr tl,sr dl]) SG.sq (by decide) (fun z H' Qb sm qq=>?_) (fun z H' Qv qq=>⟨_,rfl,qq⟩) (fun D H' sm nd e=>?_) rfl
   . refine⟨_,rfl,_,rfl,dl,_,rfl,.inl (SqL.of (sm _ _ edl2)),rfl,A0z _,_,rfl,?_⟩
     rw[A1y]
     cases hz:zs.contains z with
     |false=>rw[hz] at qq;exact Y1 qq
     | true=>
       rw[hz] at qq
       refine Z3 ⟨_,rfl,_,rfl,tl,_,rfl,.inl (SqL.of (sm _ _ et2)),rfl,A0z _,_,rfl,?_⟩
       rw[A1y]
       exact qq
   . have ef:(Y5.filter fun z=>zs.contains z&&tr.contains z)=(Y0 zs).filter fun z=>tr.contains z:=by
       unfold Y0
       rw[List.filter_filter]
       refine List.filter_congr fun z _=>?_
       exact Bool.and_comm _ _
     rw[ef] at e
     exact⟨D,sm,e,rfl⟩
 refine L2.hideG fun Z_ z_=>?_
 rintro σ' H3 ⟨lc,s3,elc,rfl⟩
 subst z_
 clear I_
 have hh:=C0h (zs:=zs) h0.st
 generalize hC:((Y0 zs).filter fun z=>tr.contains z)=ca at elc hh
 have okC:OkL ca:=by
   rw[<-hC]
   exact⟨Nat.le_trans (List.length_filter_le _ _) (Nat.le_trans (List.length_filter_le _ _) (by decide)),fun z hz=>C7k z (List.mem_filter.mp (List.mem_filter.mp hz).1).1⟩
 have ok0:OkL []:=⟨by decide,fun _ h=>by cases h⟩
 have ct3:=ct2.same s3
 have ek3:=s3 _ _ ek2
 have edt3:=s3 _ _ edt2
 have et3:=s3 _ _ et2
 have es3:=s3 _ _ es2
 have rd3:Rdy CN wh as v c res H3:=rd2.keep fun b o e _ _=>s3 _ _ e
 obtain⟨dc3,ec3⟩:=ct3.ins
 have x13:A0f c kd H1 H3:=(A0f.r x2').trans (A0f.s s3)
 have h3:hit tr res.2=ca.head?:=by
   rw[hh]
   unfold hit
   congr 1
   funext t
   rw[Bool.eq_iff_iff]
   simp[h0.ez]
 let I_:L2.St ->L2.Hp ->Prop:=fun σ' H'=>∃v10 v11 a' b',A0f c kd H1 H'/\H' kd=some (.dK (kvU us'))/\Z7 CC H' c v a' b' (Y0 (Y0 us++res.2)) tr/\σ'=stR dq tl kd c sm wh (some (.ref dt)) (some (.ref dl)) v8 (some (.ref lc)) v10 v11 (some (.bl true)) none
 refine⟨I_,?_,?_⟩
 . let I_:L2.St ->L2.Hp ->Prop:=fun σ' H'=>∃m a',ca=[]/\Exc c H3 H'/\Z7 CC H' c v a' b (Y0 (Y0 us++res.2)) tr/\Y8 CN H' m res.1/\σ'=stR dq tl kd c sm wh (some (.ref dt)) (some (.ref dl)) v8 (some (.ref lc)) (some (.ref m)) none none none
   refine⟨I_,?_,?_⟩
   . refine⟨_,rfl,_,rfl,_,rfl,wh,c,sm,as,rfl,es3,.inl ⟨v,a,b,Y0 us,tr,res,ct3,h0.ok,Nat.le_trans (C3b us) (by decide),C3s us,rd3,⟨fun hn m a' H' x' ct' num=>?_,fun z hz a' d H' x' ct' ed=>?_⟩⟩⟩
     . rw[h3] at hn
       exact⟨m,a',List.head?_eq_none_iff.mp hn,x',ct',num,rfl⟩
     . -- trapped
       rw[h3] at hz
       refine⟨R.sub,fun ea t T na=>?_⟩
       obtain⟨cr,rfl⟩:∃cr,ca=z::cr:=by
         cases ca with
         |nil=>cases hz
         |cons y r=>exact⟨r,by rw[Option.some.inj hz]⟩
       have u1:=B5.upd (o:= .frz (Z2 (.ref CT) t (some d) (.ref T)) (.own ea)) na
       have ee:upd H' ea (.frz (Z2 (.ref CT) t (some d) (.ref T)) (.own ea)) ea=some (.frz (Z2 (.ref CT) t (some d) (.ref T)) (.own ea)):=A6
       generalize upd H' ea (.frz (Z2 (.ref CT) t (some d) (.ref T)) (.own ea))=G at u1 ee
       have ed1:=u1 _ _ ed
       have ct1:=ct'.same u1
       have kp:∀{q:Addr} {o:HO},H3 q=some o ->(∀C0 d0 F,o≠ .ins C0 d0 F) ->G q=some o:=fun{q o} e no=>u1 _ _ (x' _ _ e (fun z=>by rw[z,ec3] at e;exact no _ _ _ (Option.some.inj e).symm))
       have elc1:=kp elc (fun _ _ _ z=>by cases z)
       have ty:∀{H'':Hp},B5 G H'' ->TyE K H'' (.ref ea) (.ref CT):=fun s=> .excD (s _ _ ee) (s _ _ ed1) R.k
       refine⟨fun σ' H''=>B5 G H''/\σ'=stR dq tl kd c sm wh (some (.ref dt)) (some (.ref dl)) v8 (some (.ref lc)) none (some (.ref ea)) (some (.bl true)) none,?_,?_⟩
       . refine⟨_,rfl,Nat.zero_le _,fun l0 n0=>?_⟩
         have u0:=B5.upd (o:= .lst []) n0
         refine⟨rdS (z::cr),rdS [],A4h (u0 _ _ elc1),A4h A6,shS okC,shS ok0,?_⟩
         rw[if_pos rfl,D6w]
         refine⟨_,rfl,Z3 ⟨_,rfl,ea,CT,t,.ref T,d,_,_,_,rfl,u0 _ _ ee,u0 _ _ ed1,R.k,R.dict,R.nosig,rfl,?_⟩⟩
         refine⟨_,rfl,lc,_,_,_,rfl,rfl,SqL.of (u0 _ _ elc1),V6 (j:=0) rfl,rfl,_,rfl,A0c rfl ?_⟩
         refine⟨_,rfl,_,_,_,_,true,rfl,rfl,ty u0,R.kR,_,rfl,Z3 ?_⟩
         exact⟨_,rfl,_,_,_,_,true,rfl,rfl,ty u0,R.kv,u0,rfl⟩
       clear elc1
       rintro σ' G1 ⟨sG,rfl⟩
       have ct1:=ct1.same sG
       have kp1:∀{q:Addr} {o:HO},H3 q=some o ->(∀C0 d0 F,o≠ .ins C0 d0 F) ->G1 q=some o:=fun e no=>sG _ _ (kp e no)
       have ee1:=sG _ _ ee
       obtain⟨dcx,ecx⟩:=ct1.ins
       have fe:∀{H'':Hp},H'' ea=some (.frz (Z2 (.ref CT) t (some d) (.ref T)) (.own ea)) ->∃o u fs,H'' ea=some (.frz o u)/\o.data= .fields fs/\fs[2]?=some .none:=fun e=>⟨_,_,_,e,rfl,rfl⟩
       refine⟨fun σ' H''=>∃b',Exc c G1 H''/\Z7 CC H'' c v a' b' (Y0 (Y0 us++res.2)) []/\σ'=stR dq tl kd c sm wh (some (.ref dt)) (some (.ref dl)) v8 (some (.ref lc)) none (some (.ref ea)) (some (.bl true)) none,?_,?_⟩
       . refine⟨_,rfl,c,dcx,_,rfl,ecx,A2t _ _ _ _ _ _,Nat.zero_le _,fun l0 n0=>?_⟩
         have u0:=B5.upd (o:= .lst []) n0
         refine⟨fe (u0 _ _ ee1),c,v.r,v.y,v.l,v.m,a',b,_,_,_,rfl,ct1.same u0,.inl ⟨l0,[],rfl,A6,(fun _ h=>by cases h),fun b' H'' x'' _ ct''=>?_⟩⟩
         exact⟨b',(Exc.of u0).trans x'',ct'',rfl⟩
       rintro σ' G2 ⟨b2,xG,ctG,rfl⟩
       have kp2:∀{q:Addr} {o:HO},H3 q=some o ->(∀C0 d0 F,o≠ .ins C0 d0 F) ->G2 q=some o:=fun{q o} e no=>xG _ _ (kp1 e no) (fun z=>by have:=kp1 e no;rw[z,ecx] at this;exact no _ _ _ (Option.some.inj this).symm)
       have rdG:Rdy CN wh as v c res G2:=rd3.keep fun b o e _ nc=>xG _ _ (sG _ _ (u1 _ _ (x' _ _ e nc))) nc
       have ee2:=xG _ _ ee1 (fun z=>by rw[z,ecx] at ee1;cases ee1)
       have es2':=kp2 es3 (fun _ _ _ z=>by cases z)
       have edt2':=kp2 edt3 (fun _ _ _ z=>by cases z)
       refine⟨fun σ' H''=>∃a'',Exc c G2 H''/\Z7 CC H'' c v a'' b2 (Y0 (Y0 us++res.2)) []/\σ'=stR dq tl kd c sm wh (some (.ref dt)) (some (.ref dl)) v8 (some (.ref lc)) none (some (.ref ea)) (some (.bl true)) none,?_,?_⟩
       . refine⟨_,rfl,_,rfl,Z3 ⟨_,rfl,_,rfl,_,rfl,fe ee2,wh,c,sm,as,rfl,es2',.inl ⟨v,a',b2,_,[],res,ctG,h0.ok,Nat.le_trans (C3b _) (by decide),C3s _,rdG,⟨fun hn m a'' H'' x'' ct'' num=>?_,fun z hz=>by cases hz⟩⟩⟩⟩
         rw[C5m] at ct''
         obtain⟨dcy,ecy⟩:=ctG.ins
         have ee3:=x'' _ _ ee2 (fun z=>by rw[z,ecy] at ee2;cases ee2)
         have edt3':=x'' _ _ edt2' (fun z=>by rw[z,ecy] at edt2';cases edt2')
         exact⟨_,rfl,fe ee3,m,dt,res.1,rfl,num,edt3',fun H5 s5=>⟨a'',x''.trans (Exc.of s5),ct''.same s5,rfl⟩⟩
       rintro σ' G3 ⟨a3,xG3,ctG3,rfl⟩
       obtain⟨dcy,ecy⟩:=ctG.ins
       obtain⟨dcz,ecz⟩:=ctG3.ins
       have kp3:∀{q:Addr} {o:HO},H3 q=some o ->(∀C0 d0 F,o≠ .ins C0 d0 F) ->G3 q=some o:=fun{q o} e no=>xG3 _ _ (kp2 e no) (fun z=>by have:=kp2 e no;rw[z,ecy] at this;exact no _ _ _ (Option.some.inj this).symm)
       have ee3:=xG3 _ _ ee2 (fun z=>by rw[z,ecy] at ee2;cases ee2)
       have et3':=kp3 et3 (fun _ _ _ z=>by cases z)
       refine⟨_,?_,fun _ _ h=>h⟩
       refine⟨_,rfl,c,dcz,_,rfl,ecz,A2t _ _ _ _ _ _,_,rfl,tl,_,rfl,.inl (SqL.of et3'),fun l1 n1=>?_⟩
       have u3:=B5.upd (o:= .lst (tr.map V.str)) n1
       refine⟨fe (u3 _ _ ee3),c,v.r,v.y,v.l,v.m,a3,b2,_,_,_,rfl,ctG3.same u3,.inl ⟨l1,tr,rfl,A6,h0.st.mem,fun b' H'' x'' _ ct''=>?_⟩⟩
       rw[B0q h0.st (fun z=>Iff.rfl)] at ct''
       have ek3':=kp3 ek3 (fun _ _ _ z=>by cases z)
       refine⟨_,_,a3,b',?_,x'' _ _ (u3 _ _ ek3') (fun z=>by rw[z,ecz] at ek3';cases ek3'),ct'',rfl⟩
       exact x13.trans ((A0f.l x').trans ((A0f.s (u1.trans sG)).trans ((A0f.l xG).trans ((A0f.l xG3).trans ((A0f.s u3).trans (A0f.l x''))))))
   . rintro σ' H4 ⟨m,a4,eca,x4,ct4,num4,rfl⟩
     subst eca
     have elc4:=x4 _ _ elc (U4 elc ec3 (by intro z;cases z))
     refine⟨_,?_,fun _ _ h=>h⟩
     refine⟨_,rfl,Nat.zero_le _,fun l0 n0=>?_⟩
     have u0:=B5.upd (o:= .lst []) n0
     refine⟨rdS [],rdS [],A4h (u0 _ _ elc4),A4h A6,shS ok0,shS ok0,?_⟩
     rw[if_neg Bool.false_ne_true,G1y]
     have edt4:=x4 _ _ edt3 (U4 edt3 ec3 (by intro z;cases z))
     have ek4:=x4 _ _ ek3 (U4 ek3 ec3 (by intro z;cases z))
     exact⟨_,rfl,Z3 ⟨_,rfl,_,rfl,m,dt,res.1,rfl,num4.same u0,u0 _ _ edt4,fun H' s'=>⟨_,_,a4,b,x13.trans ((A0f.l x4).trans (A0f.s (u0.trans s'))),(u0.trans s') _ _ ek4,ct4.same (u0.trans s'),rfl⟩⟩⟩
 refine L2.hideG fun Z_ z_=>?_
 rintro σ' H4 ⟨v10,v11,a4,b4,x4,ek4,ct4,rfl⟩
 subst z_
 clear I_
 have eo:Y0 (Y0 us++res.2)=Y0 us':=by
   unfold Y0
   refine List.filter_congr fun z hz=>?_
   rw[Bool.eq_iff_iff,List.contains_iff_mem,List.contains_iff_mem,List.mem_append,List.mem_filter,List.contains_iff_mem,mu,h0.ez]
   exact or_congr ⟨fun q=>q.2,fun q=>⟨hz,q⟩⟩ Iff.rfl
 rw[eo] at ct4
 obtain⟨dc4,ec4⟩:=ct4.ins
 refine⟨fun σ' H'=>∃fl,B5 H4 H'/\H' fl=some (.lst ((Y0 us').map V.str))/\σ'=stR dq tl kd c sm wh (some (.ref dt)) (some (.ref dl)) v8 (some (.ref lc)) v10 v11 (some (.bl true)) (some (.ref fl)),⟨_,rfl,c,dc4,_,rfl,ec4,A7d _ _ _ _ _ _,c,v.r,v.y,v.l,v.m,a4,b4,_,_,rfl,ct4,fun p np=>⟨p,B5.upd np,A6,rfl⟩⟩,?_⟩
 refine L2.hideG fun Z_ z_=>?_
 rintro σ' H5 ⟨fl,s5,efl,rfl⟩
 subst z_
 refine⟨_,rfl,_,rfl,Z3 ⟨_,rfl,_,_,_,_,true,rfl,rfl,B8e efl,T.list_list,_,rfl,Z3 ⟨_,rfl,?_⟩⟩⟩
 have okU:OkL (Y0 us'):=⟨Nat.le_trans (C3b us') (by decide),fun z hz=>C7k z (List.mem_filter.mp hz).1⟩
 refine A6s (zs:=Y5) (f:=fun z=>us'.contains z) (σf:=[sr kd]) SG.sq (by decide) (fun z H' Qb sm qq=>?_) (fun z H' Qv qq=>⟨_,rfl,qq⟩) (fun D H' sm nd e=>?_) rfl
 . have:=C6z.k (k:= .inr z) (sm _ _ (s5 _ _ ek4))
   refine⟨_,rfl,_,rfl,kd,_,rfl,this,_,rfl,?_⟩
   rw[D1a]
   exact qq
 refine⟨rdS (Y0 us'),rdS (Y0 us'),A4h (sm _ _ efl),A4h e,shS okU,shS okU,?_⟩
 rw[if_neg Bool.false_ne_true,G1y]
 exact kk us' a4 b4 _ mu lu (x4.trans (A0f.s (s5.trans sm))) ((s5.trans sm) _ _ ek4) (ct4.same (s5.trans sm))
noncomputable abbrev A9z:Stmt:=(top 81)
noncomputable abbrev A7c:Stmt:=(top 80)
theorem G7u{b:Bool}{A B:Prop}(h1:b=true ->A)(h2:b=false ->B):if b=true then A else B:=by
 cases b with
 |true=>exact h1 rfl
 |false=>exact h2 rfl
noncomputable def G8p (c k:Int):Int:=(c*(48271+2*k*k)+69621*k+11) % 2147483647*69621 % 2147483629
theorem D6k:Y5=(List.range 7).map fun i=>Y5.getD i "":=by decide+kernel
theorem D9t(f:Nat ->Bool):B3e (((List.range 7).filter f).map fun i=>Y5.getD i ""):=by
 refine⟨fun z=>f (Y5.idxOf z),?_⟩
 have e:Y5.filter (fun z=>f (Y5.idxOf z))=((List.range 7).map fun i=>Y5.getD i "").filter fun z=>f (Y5.idxOf z):=congrArg (List.filter fun z=>f (Y5.idxOf z)) D6k
 rw[e,List.filter_map]
 refine congrArg (List.map fun i=>Y5.getD i "") (List.filter_congr fun i hi=>?_)
 show f i=f (Y5.idxOf (Y5.getD i ""))
 rw[G1w i (List.mem_range.mp hi)]
theorem G6d{f:Nat ->Bool}{ys:List V}(hl:ys.length=((List.range 7).filter f).length)(hr:∀(j i:Nat) (y:V),((List.range 7).filter f)[j]?=some i ->ys[j]?=some y ->∃z,Y5[i]?=some z/\y= .str z):ys=(((List.range 7).filter f).map fun i=>Y5.getD i "").map V.str:=by
 refine List.ext_getElem (by rw[List.length_map,List.length_map,hl]) fun j h1 h2=>?_
 have h3:j<((List.range 7).filter f).length:=by rw[<-hl];exact h1
 obtain⟨z,hz,hy⟩:=hr j _ _ (List.getElem?_eq_getElem h3) (List.getElem?_eq_getElem h1)
 rw[hy,List.getElem_map,List.getElem_map,List.getD_eq_getElem?_getD,hz]
 rfl
noncomputable def B9f:Sp:=fun vs H Q _=>∃c k,vs=[.int c,.int k]/\0<=k/\k<=100/\Q (.int (G8p c k)) H
theorem C5s(D:Def K mg "_law_mixed" Q7 A4q f fd):sI P w K mg base 1 f fd Q7 B9f:=by
 refine G0.up (D.F.ok C3z (fun vs H Q E h=>?_) (fun cdv A outer s H vs Q E hr h=>?_))
 . obtain⟨c,k,rfl,_⟩:=h
   rfl
 obtain⟨c,i,rfl,h0,h1,k⟩:=h
 refine⟨_,(A7 (B7 (A9 U3 (A9 U2 (A9 U3 (A9 U7 (A9 U7 (A9 U2 (pv 0) (A9 U7 A2 (A9 U2 (A9 U2 A2 (pv 1)) (pv 1)))) (A9 U2 A2 (pv 1))) A2) A2) A2) A2))),?_⟩
 have q0:(0:Int)<=2*i*i:=Int.mul_nonneg (by omega) h0
 have q1:2*i*i<=200*100:=Int.mul_le_mul (by omega) h1 h0 (by decide)
 have m1:IntMulOk 2 i:=A2a.ok (.inl ⟨by decide,by decide⟩)
 have m2:IntMulOk (2*i) i:=A2a.ok (.inr ⟨by omega,by omega⟩)
 have m3:IntMulOk c (48271+2*i*i):=A2a.ok (.inr ⟨by omega,by omega⟩)
 have m4:IntMulOk 69621 i:=A2a.ok (.inl ⟨by decide,by decide⟩)
 have m5:∀z:Int,IntMulOk z 69621:=fun z=>A2a.ok (.inr ⟨by decide,by decide⟩)
 exact⟨_,rfl,_,rfl,_,_,rfl,rfl,m1,_,rfl,_,_,rfl,rfl,m2,_,_,rfl,rfl,_,_,rfl,rfl,m3,_,rfl,_,_,rfl,rfl,m4,_,_,rfl,rfl,_,_,rfl,rfl,_,_,rfl,rfl,(by show(0:Int)<2147483647;decide),_,_,rfl,rfl,m5 _,_,_,rfl,rfl,(by show(0:Int)<2147483629;decide),k⟩
noncomputable def B8y:Sp:=fun vs H Q _=>∃c:Int,vs=[.int c]/\∀tr l H',B3e tr ->B5 H H' ->H l=none ->H' l=some (.lst (tr.map V.str)) ->Q (.ref l) H'
theorem C9d:B8 ["_law_cell"] ["_law_cell"] (A5 A9z):=scK
theorem C5a{f f1 A1:Addr}(D:Def K mg "_law_traps" ["_law_cell"] A9z f fd)(dA:Def K mg "_law_mixed" Q7 A4q f1 fd1)(dB:sI P w K mg base 1 f1 fd1 Q7 B9f)(SG:C7b K mg A1)(O:Own mg):sI P w K mg base 2 f fd ["_law_cell"] B8y:=by
 refine D.F.okE C9d (fun vs H Q E h=>?_) (fun X cdv A outer s H vs Q E hX hr hx h=>?_)
 . obtain⟨c,rfl,_⟩:=h
   rfl
 subst hX
 obtain⟨c,rfl,k⟩:=h
 have HU:=Nat.lt_of_le_of_lt (Nat.add_le_add_left (by decide:1<=64) _) hr.units
 refine⟨_,(A4 (A8 (U0 (C8 C3a (A9 U3 (pv 0) A2) A2 (B9 _)) (A7 (B7 (J9 A3))) D7)) (A7 (B7 (B7k (N:=["_law_k","_law_signal"]) (F:=["_law_cell"]) (js:=[0]) (D6.of1 ⟨rfl,by decide+kernel,by decide+kernel,by decide+kernel,by decide+kernel⟩ (by rfl) (by rfl) ⟨_,by rfl⟩ (by rfl) (by rfl)) (.inl hr.hd) rfl (C7n rfl O.enumerate_ (A0 (A4a SG.g) A3)) rfl (fun C s₀ H₀ ex pn h=>B5u (K:=K) (n:=2) rfl h (D4 (D0 (i:=0) (by decide+kernel:(["_law_k","_law_signal","_law_cell"]:List Str).Nodup) rfl (Or.inl rfl)) (D4 (D0 (i:=1) (by decide+kernel:(["_law_k","_law_signal","_law_cell"]:List Str).Nodup) rfl (Or.inl rfl)) Z0))) (fun C s₀ H₀ ex pn h=>(C8 G4 (A9 U3 (A9 G9 (A2x dA dB hr (A0 (pv 2) (A0 (pv 0) A3))) A2) A2) A2 (B9 _))) (fun C s₀ H₀ ex pn h=>(pv 1)))))),?_⟩
 refine⟨fun σ' H'=>H'=H/\σ'=[si c],?_,?_⟩
 . refine⟨_,rfl,_,_,rfl,rfl,(by decide:(0:Int)<3),rfl,_,rfl,G7u (fun _=>?_) fun _=>⟨rfl,rfl⟩⟩
   exact⟨Nat.zero_le _,fun l nl=>k [] l _ ⟨fun _=>false,rfl⟩ (B5.upd nl) nl A6⟩
 rintro σ' H1 ⟨rfl,rfl⟩
 refine⟨A1,rfl,⟨_,SG.sq _⟩,C8p (J:=G3a K A1) (n:=7) (fun i=>decide (G8p c i/7 % 3=1)) (fun i y _=>∃z,Y5[i]?=some z/\y= .str z) (by decide) (fun _ _ _ _ _ _ h _ _=>h) (fun i H3 Qy Qn hi sm hy hn=>?_) (fun H3 sm=>⟨_,SG.sq _,by decide⟩) (fun D H3 ys sm nD eD hl hr'=>?_)⟩
 . obtain⟨z,hz⟩:∃z,Y5[i]?=some z:=⟨_,List.getElem?_eq_getElem hi⟩
   have hv:B6z[i]?=some (.str z):=by
     show(Y5.map V.str)[i]?=_
     rw[List.getElem?_map,hz]
     rfl
   refine⟨⟨_,_,SG.sq _,hv⟩,fun y H4 yl=>?_⟩
   obtain⟨t,y',rfl,nt,rfl,yl⟩:=yl
   have e:=yl _ (SG.sq _)
   rw[hv] at e
   obtain rfl:=(Option.some.inj e).symm
   refine⟨t,_,rfl,SqT.of A6,rfl,_,_,rfl,_,_,rfl,rfl,_,rfl,_,rfl,c,i,rfl,by omega,by omega,_,_,rfl,rfl,⟨by decide,by decide+kernel⟩,_,_,rfl,rfl,(by decide:(0:Int)<3),rfl,_,rfl,?_⟩
   refine G7u (fun eb=>⟨_,rfl,?_⟩) (fun eb=>?_)
   . exact hy (decide_eq_true (V.int.inj (of_decide_eq_true eb))) _ _ (B5.upd nt) ⟨z,hz,rfl⟩
   . exact hn (decide_eq_false fun q=>of_decide_eq_false eb (congrArg V.int q)) _ (B5.upd nt)
 rw[G6d hl hr'] at eD
 exact k _ D H3 (D9t _) sm nD eD
structure D9v(K:Frag)(CN:Addr):Prop where
 non:kitOne K (.type "NoneType") (.ref CN)=some false
 int:kitOne K (.type "int") (.ref CN)=some false
 str:kitOne K (.type "str") (.ref CN)=some false
 bl:kitOne K (.type "bool") (.ref CN)=some false
 tup:kitOne K (.type "tuple") (.ref CN)=some false
 lst:kitOne K (.type "list") (.ref CN)=some false
 dic:kitOne K (.type "dict") (.ref CN)=some false
 lt:kitOne K (.type "list") (.type "tuple")=some false
structure D1f(mg:Str ->Option Value)(C1 C2 C3 C4 C5:Addr):Prop where
 g1:mg "BadNumber"=some (.ref C1)
 g2:mg "NoText"=some (.ref C2)
 g3:mg "BadContext"=some (.ref C3)
 g4:mg "BadCount"=some (.ref C4)
 g5:mg "Trapped"=some (.ref C5)
structure C4e(K:Frag)(mg:Str ->Option Value)(CR CB C2 C3 C4 C5:Addr):Prop where
 g:mg "ReckonError"=some (.ref CR)
 c:A8n K CR
 sub:subIn K (.ref CB) (.ref CR)=some true
 fits:G8w K CB CB C2 C3 C4 C5 true false false false false
inductive A5u(H:Hp):V ->Prop
 |non:A5u H .non
 |bl (b:Bool):A5u H (.bl b)
 |int (i:Int):A5u H (.int i)
 |str (s:Str):A5u H (.str s)
 |lst {p:Addr} {xs:List V} (e:H p=some (.lst xs)):A5u H (.ref p)
 |tup {p:Addr} {xs:List V} (e:H p=some (.tup xs)):A5u H (.ref p)
 |dic {p:Addr} (e:H p=some (.dK [])):A5u H (.ref p)
theorem A5u.at{H H':Hp}{v:V}(h:A5u H v)(k:∀b o,(∀ps,o≠ .tbl ps) ->(∀x y,o≠ .frz x y) ->H b=some o ->H' b=some o):A5u H' v:=by
 cases h with
 |non=>exact .non
 |bl b=>exact .bl b
 |int i=>exact .int i
 |str s=>exact .str s
 |lst e=>exact .lst (k _ _ (fun _ z=>by cases z) (fun _ _ z=>by cases z) e)
 |tup e=>exact .tup (k _ _ (fun _ z=>by cases z) (fun _ _ z=>by cases z) e)
 |dic e=>exact .dic (k _ _ (fun _ z=>by cases z) (fun _ _ z=>by cases z) e)
theorem A5u.not{K:Frag}{CN:Addr}{H:Hp}{v:V}(O4:D9v K CN)(h:A5u H v):B2d K CN H v:=by
 cases h with
 |non=>exact⟨_,G0f,O4.non⟩
 |bl b=>exact⟨_,G7n _,O4.bl⟩
 |int i=>exact⟨_,B4u _,O4.int⟩
 |str s=>exact⟨_,B4s _,O4.str⟩
 |lst e=>exact⟨_,B8e e,O4.lst⟩
 |tup e=>exact⟨_,G0m e,O4.tup⟩
 |dic e=>exact⟨_,G6s e,O4.dic⟩
theorem A5u.same{H H':Hp}{v:V}(h:A5u H v)(k:B5 H H'):A5u H' v:=h.at fun b o _ _ e=>k b o e
noncomputable def B1v (K:Frag) (CN:Addr):Sp:=fun vs H Q _=>∃c sm as,∃wh:Int,vs=[.ref c,.int wh,.ref sm]/\H sm=some (.lst as)/\G7b K CN wh as H/\∀H',B5 H H' ->Q (.bl true) H'
theorem scLRef18:B8 ["_law_context","_law_which","_law_some","e","_law_others"] Q18 (A5 A7c):=scK
theorem C6k{f f1 CN CC CT CR C1 C2 C3 C4 C5:Addr}(D:Def K mg "_law_refused" Q18 A7c f fd)(dA:Def K mg "_law_called" Q13 A4y f1 fd1)(dB:sI P w K mg base 9 f1 fd1 Q13 (A8d K CN CC CT C1))(R:C4e K mg CR C1 C2 C3 C4 C5)(ES:D1f mg C1 C2 C3 C4 C5)(O:Own mg):sI P w K mg base 10 f fd Q18 (B1v K CN):=by
 refine D.F.okE scLRef18 (fun vs H Q E h=>?_) (fun X cdv A outer s H vs Q E hX hr hx h=>?_)
 . obtain⟨c,sm,as,wh,rfl,_⟩:=h
   rfl
 subst hX
 obtain⟨c,sm,as,wh,rfl,es,bad,k⟩:=h
 have z4:4<=sizeLine:=D3 (by decide)
 refine⟨_,(A4 (A8 (C7g ⟨rfl,rfl,rfl⟩ (by rfl) R.g R.c scLRef18.nd (i:=3) rfl rfl (fun pins Ew EHb hc=>(A7 (A8 (Y6 (V0 dA dB hr hc (A0 (pv 1) (A0 (pv 0) (A0 (pv 2) A3)))))))) (fun pins a=>(A4 (A8 (D5 (i:=4) scLRef18.nd rfl (Or.inl rfl) (J9 (A0 (A2r (K:=K) rfl O.isi (pv 3) (A4a ES.g3)) (A0 (A2r (K:=K) rfl O.isi (pv 3) (A4a ES.g4)) (A0 (A2r (K:=K) rfl O.isi (pv 3) (A4a ES.g2)) (A0 (A2r (K:=K) rfl O.isi (pv 3) (A4a ES.g5)) A3))))))) (A7 (B7 (Z4 (A2r (K:=K) rfl O.isi (pv 3) (A4a ES.g1)) (Z4 (A2r (K:=K) rfl O.isi (pv 3) (pty O.ValueError_ (show bootBuiltins "ValueError"=some (.type "ValueError") by decide+kernel))) (Z6 (D9 (A5z (K:=K) rfl) A0v (pv 4) (by rfl))))))))))) (A7 (B7 A0v))),?_⟩
 refine⟨_,?_,fun _ _ h=>h⟩
 refine⟨fun _ _=>False,⟨_,rfl,_,rfl,_,rfl,wh,c,sm,as,rfl,es,.inr ⟨bad,fun H' s'=>⟨R.sub,fun ea t T na=>?_⟩⟩⟩,fun _ _ h=>h.elim⟩
 have u1:=B5.upd (o:= .frz (Z2 (.ref C1) t none (.ref T)) (.own ea)) na
 have ee:upd H' ea (.frz (Z2 (.ref C1) t none (.ref T)) (.own ea)) ea=some (.frz (Z2 (.ref C1) t none (.ref T)) (.own ea)):=A6
 generalize upd H' ea (.frz (Z2 (.ref C1) t none (.ref T)) (.own ea))=G at*
 have ty:∀{H'':Hp},B5 G H'' ->TyE K H'' (.ref ea) (.ref C1):=fun s=> .exc (s _ _ ee) R.fits.k
 refine⟨fun σ' H''=>∃l,B5 G H''/\H'' l=some (.lst [.bl false,.bl false,.bl false,.bl false])/\σ'=[sr c,si wh,sr sm,sr ea,sr l],?_,?_⟩
 . have r0:=B5.refl G
   exact⟨_,rfl,_,_,_,_,false,rfl,rfl,ty r0,R.fits.h3,_,rfl,_,_,_,_,false,rfl,rfl,ty r0,R.fits.h4,_,rfl,_,_,_,_,false,rfl,rfl,ty r0,R.fits.h2,_,rfl,_,_,_,_,false,rfl,rfl,ty r0,R.fits.h5,z4,fun l nl=>⟨l,B5.upd nl,A6,rfl⟩⟩
 rintro σ' G1 ⟨l,s1,el,rfl⟩
 refine⟨_,rfl,_,_,_,_,true,rfl,rfl,ty s1,R.fits.h1,_,rfl,Z3 ⟨_,rfl,_,_,_,_,true,rfl,rfl,ty s1,R.fits.hv,_,rfl,Z3 ⟨_,rfl,l,_,rfl,.inl (SqL.of el),rfl,rfl,?_⟩⟩⟩
 exact k _ (s'.trans (u1.trans s1))
noncomputable abbrev A7v:Stmt:=(J1 (top 58) 4)
noncomputable def A6c (CC:Addr):Sp:=fun vs H Q _=>∃c r y l m a b xs ys,vs=[.ref c]/\A0e CC H c r y l m a b xs ys/\∀a' H',Exc c H H' ->H a'=none ->A0e CC H' c r y l m a' b [] ys ->Q .non H'
theorem B9v:B8 ["self"] ["self"] (A5 A7v):=scK
theorem B7g{f CC:Addr}(F:Fun K "clear" "Context.clear" A7v f fd)(C:B2t K mg CC):sI P w K mg base 1 f fd ["self"] (A6c CC):=by
 refine G0.up (F.ok B9v (fun vs H Q E h=>?_) (fun cdv A outer s H vs Q E hr h=>?_))
 . obtain⟨c,r,y,l,m,a,b,xs,ys,rfl,_⟩:=h
   rfl
 obtain⟨c,r,y,l,m,a,b,xs,ys,rfl,⟨⟨dx,e⟩,ha,hb⟩,k⟩:=h
 refine⟨_,(A7 (A0u (pv 0) (J9 A3) rfl)),?_⟩
 refine⟨Nat.zero_le _,fun p np=>?_⟩
 have u:=B5.upd (o:= .lst []) np
 refine⟨_,rfl,c,CC,dx,_,rfl,u _ _ e,C.cl,C.n_risen,by rw[B1s];decide,?_⟩
 rw[B0h]
 have nac:p≠c:=Ne.symm (D8 e np)
 have nbc:b≠c:=U4 hb e (by intro z;cases z)
 exact k p _ ((Exc.of u).trans Exc.upd) np ⟨⟨dx,A6⟩,by rw[C9 nac];exact A6,by rw[C9 nbc];exact u _ _ hb⟩
theorem C9v{K:Frag}{CC CB x dx:Addr}{H:Hp}{Q:VK}{E:XK}{v1 v2 v3 v4:V}{r:Int}{y:Wy}{l m:Int}(n1:H x=none)(n2:H dx=none)(ne:dx≠x)(h1:v1= .int r)(r1:1<=r)(r2:r<=24)(h2:v2= .str y.name)(h3:C1q l v3)(h4:v4= .int m)(m1:0<=m)(m2:m<=60)
   (k:∀a b H',B5 H H' ->H a=none ->H b=none ->A0e CC H' x r y l m a b [] [] ->Q .non H'):A5r K CC CB [.ref x,v1,v2,v3,v4] (upd (upd H dx (.own x)) x (.ins CC dx [])) Q E:=by
 refine⟨x,dx,v1,v2,v3,v4,rfl,A6,.inl ⟨r,y,l,m,h1,r1,r2,h2,h3,h4,m1,m2,fun a b H' e na nb c=>k a b H' (D7b n1 n2 ne e) ?_ ?_ c⟩⟩
 . cases ea:H a with
   |none=>rfl
   | some o=>
     have e1:upd (upd H dx (.own x)) x (.ins CC dx []) a=some o:=by
       rw[C9 (fun z=>by rw[z,n1] at ea;cases ea),C9 (fun z=>by rw[z,n2] at ea;cases ea)]
       exact ea
     rw[na] at e1
     cases e1
 cases eb:H b with
 |none=>rfl
 | some o=>
   have e1:upd (upd H dx (.own x)) x (.ins CC dx []) b=some o:=by
     rw[C9 (fun z=>by rw[z,n1] at eb;cases eb),C9 (fun z=>by rw[z,n2] at eb;cases eb)]
     exact eb
   rw[nb] at e1
   cases e1
noncomputable def C2 (J:It) (QD:Addr ->Hp ->Prop) (D:Addr) (y0 y1:V) (G:Hp):Prop:=G D=some (.lst [y0,y1])/\J.stop 2 G/\QD D G
noncomputable def C1 (J:It) (g:TG) (te:TE) (σ0:L2.St) (QD:Addr ->Hp ->Prop) (D:Addr) (y0:V) (G:Hp):Prop:=G D=some (.lst [y0])/\J.go 1 G/\∀x H3,J.yld 1 G x H3 ->g x σ0 H3 fun σ4 H4=>te σ4 H4 fun y1 H7=>H7 D=some (.lst [y0])/\1<sizeLine/\C2 J QD D y0 y1 (upd H7 D (.lst [y0,y1]))
noncomputable def CW (J:It) (g:TG) (te:TE) (σ0:L2.St) (QD:Addr ->Hp ->Prop) (H1:Hp) (D:Addr):Nat ->List V ->Hp ->Prop
 |0,[],G=>G=upd H1 D (.lst [])
 |1,[y0],G=>C1 J g te σ0 QD D y0 G
 |2,[y0,y1],G=>C2 J QD D y0 y1 G
 |_,_,_=>False
theorem C9g{J:It}{g:TG}{te:TE}{σ0:L2.St}{H1:Hp}{QD:Addr ->Hp ->Prop}
   (h:∀D,H1 D=none ->J.go 0 (upd H1 D (.lst []))/\∀x H3,J.yld 0 (upd H1 D (.lst [])) x H3 ->g x σ0 H3 fun σ4 H4=>te σ4 H4 fun y0 H6=>H6 D=some (.lst [])/\0<sizeLine/\C1 J g te σ0 QD D y0 (upd H6 D (.lst [y0]))):∀D,H1 D=none ->
   ∃ (m:Nat) (W:Nat ->List V ->Hp ->Prop),W 0 [] (upd H1 D (.lst []))/\∀i ys H2,W i ys H2 ->i<=m/\H2 D=some (.lst ys)/\((J.stop i H2/\QD D H2)\/(i<m/\J.go i H2/\∀x H3,J.yld i H2 x H3 ->
     g x σ0 H3 fun σ4 H4=>te σ4 H4 fun y H6=>H6 D=some (.lst ys)/\ys.length<sizeLine/\W (i+1) (ys++ [y]) (upd H6 D (.lst (ys++ [y]))))):=by
 intro D hD
 refine⟨2,CW J g te σ0 QD H1 D,rfl,fun i ys H2 hw=>?_⟩
 match i,ys,hw with
 | 0,[],hw=>
   obtain rfl:H2=upd H1 D (.lst []):=hw
   obtain⟨a,b⟩:=h D hD
   exact⟨by decide,A6,.inr ⟨by decide,a,b⟩⟩
 | 1,[y0],hw=>
   obtain⟨a,b,c⟩:=(hw:C1 J g te σ0 QD D y0 H2)
   exact⟨by decide,a,.inr ⟨by decide,b,c⟩⟩
 | 2,[y0,y1],hw=>
   obtain⟨a,b,c⟩:=(hw:C2 J QD D y0 y1 H2)
   exact⟨by decide,a,.inl ⟨b,c⟩⟩
 |0,_::_,hw=>exact hw.elim
 |1,[],hw=>exact hw.elim
 |1,_::_::_,hw=>exact hw.elim
 |2,[],hw=>exact hw.elim
 |2,[_],hw=>exact hw.elim
 |2,_::_::_::_,hw=>exact hw.elim
 |_+3,_,hw=>exact(by cases hw)
theorem D8u{J:It}{n:Nat}{g:TG}{tb:TS}{D:B3c}{σ:L2.St}{H:Hp}(Pv:Nat ->L2.St ->Hp ->Prop)(h0:Pv 0 σ H)
   (hs:∀i σ H,i<n ->Pv i σ H ->J.go i H/\∀x H',J.yld i H x H' ->g x σ H' fun σ2 H2=>tb {D with nx:=Pv (i+1),ct:=Pv (i+1),bk:=D.nx} σ2 H2) (hd:∀σ H,Pv n σ H ->J.stop n H/\D.nx σ H):
   ∃ W:Nat ->Nat ->L2.St ->Hp ->Prop,(∃m,W 0 m σ H)/\∀i m σ H,W i m σ H ->
     (J.stop i H/\D.nx σ H)\/(J.go i H/\∃N:L2.St ->Hp ->Prop,(∀σ' H',N σ' H' ->∃m',m'<m/\W (i+1) m' σ' H')/\∀x H',J.yld i H x H' ->g x σ H' fun σ2 H2=>tb {D with nx:=N,ct:=N,bk:=D.nx} σ2 H2):=by
 refine⟨fun i m σ H=>m=n-i/\i<=n/\Pv i σ H,⟨n,by simp,Nat.zero_le _,h0⟩,?_⟩
 rintro i m σ H ⟨rfl,hi,p⟩
 by_cases hlt:i<n
 . obtain⟨a,b⟩:=hs i σ H hlt p
   exact .inr ⟨a,Pv (i+1),fun σ' H' p'=>⟨n-(i+1),by omega,rfl,hlt,p'⟩,b⟩
 have e:i=n:=by omega
 subst e
 exact .inl (hd σ H p)
noncomputable abbrev A9r:Stmt:=(top 83)
noncomputable abbrev B5v:Stmt:=(top 84)
noncomputable abbrev A9v:Stmt:=(top 85)
theorem B3r{i:Int}:∀(k:Nat) (F q:Int),A5w i k (F*((10^k:Nat):Int)) q=(F,q+k)
 | 0,F,q=>by
   show(F*((10^0:Nat):Int),q)=(F,q+(0:Nat))
   simp
 | k +1,F,q=>by
   have e:F*((10^(k+1):Nat):Int)=10*(F*((10^k:Nat):Int)):=by
     rw[Nat.pow_succ,Int.natCast_mul]
     rw[show((10:Nat):Int)=10 from rfl]
     ac_rfl
   show(if F*((10^(k+1):Nat):Int) % 10=0 then A5w i k (F*((10^(k+1):Nat):Int)/10) (q+1) else _)=_
   rw[e,if_pos (by omega),Int.mul_ediv_cancel_left _ (by decide),B3r k F (q+1)]
   congr 1
   omega
theorem B6j{v:Cv}{s F wh L q i:Int}(hq:q<=i)(hw:wh=F*B0 (i-q))(hL:v.l<=L)(hb:A1c v.m F i=false):A2n v s wh 0 L q i=(⟨.plain,s,F,i⟩,[]):=by
 have e:A0d v s wh 0 q i=(F,i):=by
   unfold A0d
   rw[if_pos rfl,hw]
   unfold A0a B0
   rw[B3r]
   congr 1
   omega
 unfold A2n
 rw[e]
 dsimp only
 rw[if_neg (by rw[hb];exact Bool.false_ne_true)]
 congr 1
 unfold A0n A0k
 rw[if_pos rfl,if_neg (by simp),if_pos hL]
 rfl
theorem G2x{v:Cv}(ok:v.Ok):Z9 v 0 1 1 0 0 0=(⟨.plain,0,1,0⟩,[]):=by
 have r1:=ok.r1;have r2:=ok.r2;have l2:=ok.l2;have m1:=ok.m1
 have fq:v.fin 0<=0:=by
   unfold Cv.fin A3k
   split<;>omega
 have z:B0 (-(0-v.fin 0))=1:=by
   unfold B0
   rw[show(-(0-v.fin 0)).toNat=0 by omega]
   rfl
 have hw:whI 1 1 (0-v.fin 0)=1*B0 (0-v.fin 0):=by
   unfold whI
   rw[z,Int.mul_one,Int.ediv_one]
 have hp:ptI 1 1 (0-v.fin 0)=0:=by
   unfold ptI
   rw[hw,z,Int.mul_one,Int.mul_one,Int.sub_self]
   rfl
 unfold Z9
 rw[hp]
 refine B6j fq hw l2 ?_
 unfold A1c
 rw[if_neg (by decide),show A1f 1=1 from rfl]
 exact decide_eq_false (by omega)
theorem B8j{v:Cv}{x:Nm}(ok:v.Ok)(hn:x.k≠ .none)(h0:¬(x.k= .plain/\x.f=0)):A2m v x 0 0=(⟨.plain,0,1,0⟩,[]):=by
 unfold A2m
 rw[if_neg hn]
 by_cases he:x.k= .end_
 . rw[if_pos he,if_pos rfl]
 rw[if_neg he,if_neg (fun z=>h0 ⟨by cases q:x.k<;>first|rfl|exact absurd q he|exact absurd q hn,z⟩)]
 show Z9 v (sgI x.s 0) (A4b x.f 0) 1 (0*x.p) 0 (0*x.p)=_
 rw[Int.zero_mul,show sgI x.s 0=0 from rfl,show A4b x.f 0=1 from by unfold A4b;rw[show(0:Int).natAbs=0 from rfl,Nat.pow_zero];rfl]
 exact G2x ok
theorem C4x(x:Nm):B0y x 0 0:=fun _ _=>by
 show A0s (A4b x.f 0) 1 (0*x.p-0)
 rw[Int.zero_mul,show A4b x.f 0=1 from by unfold A4b;rw[show(0:Int).natAbs=0 from rfl,Nat.pow_zero];rfl]
 unfold A0s
 decide+kernel
noncomputable def smN (x:Nm):Nm:=⟨x.k,x.s,x.f % B0 24,A3k (-60) (B3b 60 x.p)⟩
theorem G8q{x:Nm}(h:x.Wf):(smN x).Wf/\(smN x).Sm:=by
 have o:=h.ok
 have t:0<B0 24:=Y3 _
 have t2:B0 24<=10^60:=by decide+kernel
 have a:=Int.emod_nonneg x.f (show B0 24≠0 by omega)
 have b:=Int.emod_lt_of_pos x.f t
 have p: -60<=(smN x).p/\(smN x).p<=60/\(x.p=0 ->(smN x).p=0):=by
   show -60<=A3k (-60) (B3b 60 x.p)/\A3k (-60) (B3b 60 x.p)<=60/\(x.p=0 ->A3k (-60) (B3b 60 x.p)=0)
   unfold A3k B3b
   repeat' split
   all_goals omega
 have f:x.f=0 ->(smN x).f=0:=fun z=>by
   show x.f % B0 24=0
   rw[z]
   exact Int.zero_emod _
 have ok:(smN x).Ok:=⟨o.s0,o.s1,a,by show x.f % B0 24<=_;omega,by omega,by omega⟩
 exact⟨⟨ok,fun z=>⟨f (h.e z).1,p.2.2 (h.e z).2⟩,fun z=>⟨(h.n z).1,f (h.n z).2.1,p.2.2 (h.n z).2.2⟩⟩,ok,b,p.1,p.2.1⟩
noncomputable def B7c (v:Cv) (x:Nm) (s k:Int):Nm×List Str:=
 if x.k= .end_ then(if k>0 then(⟨.end_,s,0,0⟩,[]) else(A5n v s (v.l-v.r+1),[]))
 else(if k>0 then(A5n v s (k*x.p),[]) else(⟨.end_,s,0,0⟩,["split"]))
theorem C7t{v:Cv}{x:Nm}{k:Int}(L:Int)(hn:x.k≠ .none)(h:x.k= .end_\/x.f=0)(hk:k≠0):A2m v x k L=B7c v x (sgI x.s k) k:=by
 unfold A2m B7c
 rw[if_neg hn]
 by_cases he:x.k= .end_
 . rw[if_pos he,if_pos he,if_neg hk]
 rw[if_neg he,if_neg he,if_pos (h.resolve_left he),if_neg hk]
 by_cases h0:k>0
 . rw[if_pos h0,if_neg (by omega)]
 rw[if_neg h0,if_pos (by omega)]
noncomputable def B7v:Sp:=fun vs H Q _=>∃q1 x,vs=[.ref q1]/\H q1=some (.tup (Nm.vs x))/\x.Wf/\∀t H',B5 H H' ->H' t=some (.tup (smN x).vs) ->Q (.ref t) H'
theorem scLSmall:B8 ["_law_number_here","_law_kind","_law_sign","_law_figures","_law_own"] Q8 (A5 A9r):=scK
theorem C6f(D:Def K mg "_law_small" Q8 A9r f fd)(dA:Def K mg "_law_ten" ["_law_count"] A8z f1 fd1)(dB:sI P w K mg base 1 f1 fd1 ["_law_count"] A7y)(O:Own mg):sI P w K mg base 2 f fd Q8 B7v:=by
 refine D.F.okE scLSmall (fun vs H Q E h=>?_) (fun X cdv A outer s H vs Q E hX hr hx h=>?_)
 . obtain⟨q1,x,rfl,_⟩:=h
   rfl
 subst hX
 obtain⟨q1,x,rfl,e1,wf,k⟩:=h
 have z4:4<=sizeLine:=D3 (by decide)
 refine⟨_,(A4 (A1e (pv 0) (A0x rfl (D4 (D0 (i:=1) scLSmall.nd rfl (Or.inl rfl)) (D4 (D0 (i:=2) scLSmall.nd rfl (Or.inl rfl)) (D4 (D0 (i:=3) scLSmall.nd rfl (Or.inl rfl)) (D4 (D0 (i:=4) scLSmall.nd rfl (Or.inl rfl)) Z0)))))) (A7 (B7 (V7 (A0 (pv 1) (A0 (pv 2) (A0 (A9 U3 (pv 3) (V0 dA dB hr hx (A0 A2 A3))) (A0 (U8 (A7z rfl) (by rfl) O.max_ boot_max (A0 (A1q A0m A2) (A0 (U8 (B3n rfl) (by rfl) O.min_ boot_min (A0 A2 (A0 (pv 4) A3))) A3))) A3)))))))),?_⟩
 refine⟨_,rfl,q1,_,rfl,SqT.of e1,rfl,_,_,rfl,_,_,rfl,_,_,rfl,_,_,rfl,rfl,?_⟩
 refine⟨_,rfl,_,rfl,_,rfl,24,rfl,by decide,_,_,rfl,rfl,Y3 24,_,rfl,_,rfl,_,_,rfl,_,_,rfl,z4,fun t nt=>k t _ (B5.upd nt) A6⟩
noncomputable def C3n:Sp:=fun vs H Q _=>∃rt v q1 x,∃s k:Int,vs=[.ref rt,.ref q1,.int s,.int k]/\H rt=some (.tup (Cv.tup v))/\v.Ok/\H q1=some (.tup (Nm.vs x))/\x.Sm/\∀q H',B5 H H' ->A3z H' q (B7c v x s k).1 (B7c v x s k).2 ->Q (.ref q) H'
theorem scLOddP:B8 ["_law_rules_here","_law_number_here","_law_sign","_law_count","_law_kind","_law_own_sign","_law_figures","_law_own"] Q44 (A5 B5v):=scK
theorem C7z(D:Def K mg "_law_odd_power" Q44 B5v f fd)(dA:Def K mg "_law_nought" Q40 A7b f1 fd1)(dB:sI P w K mg base 1 f1 fd1 Q40 B3p):sI P w K mg base 2 f fd Q44 C3n:=by
 refine D.F.okE scLOddP (fun vs H Q E h=>?_) (fun X cdv A outer s H vs Q E hX hr hx h=>?_)
 . obtain⟨rt,v,q1,x,sg,n,rfl,_⟩:=h
   rfl
 subst hX
 obtain⟨rt,v,q1,x,sg,n,rfl,er,ok,e1,sm,k⟩:=h
 have z0:0<=sizeLine:=Nat.zero_le _
 have z1:1<=sizeLine:=D3 (by decide)
 have z2:2<=sizeLine:=D3 (by decide)
 have z4:4<=sizeLine:=D3 (by decide)
 have p0:=sm.p0;have p1:=sm.p1
 unfold B7c at k
 refine⟨_,(A4 (A8 (A1e (pv 1) (A0x rfl (D4 (D0 (i:=4) scLOddP.nd rfl (Or.inl rfl)) (D4 (D0 (i:=5) scLOddP.nd rfl (Or.inl rfl)) (D4 (D0 (i:=6) scLOddP.nd rfl (Or.inl rfl)) (D4 (D0 (i:=7) scLOddP.nd rfl (Or.inl rfl)) Z0))))))) (A4 (A8 (U0 (PW.pt (A2y (C8 G4 (pv 4) C7 (B9 _)) (A1n (C8 A2f (pv 3) A2 (B9 _))))) (A7 (B7 (V7 (A0 (V7 (A0 C7 (A0 (pv 2) (A0 A2 (A0 A2 A3))))) (A0 (J9 A3) A3))))) D7)) (A4 (A8 (U0 (C8 G4 (pv 4) C7 (B9 _)) (A7 (B7 (V0 dA dB hr hx (A0 (pv 0) (A0 (pv 2) (A0 (A9 U7 (A9 V3 (V8 A1h (pv 0) A2 (fun _ _=>rfl)) (V8 A1h (pv 0) A2 (fun _ _=>rfl))) A2) A3)))))) D7)) (A4 (A8 (U0 (C8 A2f (pv 3) A2 (B9 _)) (A7 (B7 (V0 dA dB hr hx (A0 (pv 0) (A0 (pv 2) (A0 (A9 U2 (pv 3) (pv 7)) A3)))))) D7)) (A7 (B7 (V7 (A0 (V7 (A0 C7 (A0 (pv 2) (A0 A2 (A0 A2 A3))))) (A0 (J9 (A0 C7 A3)) A3))))))))),?_⟩
 refine⟨fun σ' H'=>H'=H/\σ'=[sr rt,sr q1,si sg,si n,sR x.k.str,si x.s,si x.f,si x.p],⟨_,rfl,q1,_,rfl,SqT.of e1,rfl,_,_,rfl,_,_,rfl,_,_,rfl,_,_,rfl,rfl,rfl,rfl⟩,?_⟩
 rintro σ' H1 ⟨rfl,rfl⟩
 let I_:L2.St ->L2.Hp ->Prop:=fun σ' H'=>H'=H1/\¬(x.k= .end_/\n>0)/\σ'=[sr rt,sr q1,si sg,si n,sR x.k.str,si x.s,si x.f,si x.p]
 refine⟨I_,?_,?_⟩
 . refine⟨_,rfl,rfl,_,rfl,U5 (fun h=>⟨_,rfl,_,_,rfl,rfl,_,rfl,U5 (fun hp=>?_) (fun hp=>⟨rfl,fun z=>hp z.2,rfl⟩)⟩) (fun h=>⟨rfl,fun z=>neS (b:= .end_) h z.1,rfl⟩)⟩
   rw[if_pos (eqS (b:= .end_) h),if_pos (show n>0 from hp)] at k
   refine⟨_,rfl,z4,fun t nt=>⟨z0,fun l nl=>⟨z2,fun q nq=>?_⟩⟩⟩
   have u2:=B5.upd (o:= .lst []) nl
   have u3:=B5.upd (o:= .tup [.ref t,.ref l]) nq
   exact k q _ ((B5.upd nt).trans (u2.trans u3)) ⟨t,l,A6,(u2.trans u3) _ _ A6,u3 _ _ A6⟩
 refine L2.hideG fun Z_ z_=>?_
 rintro σ' H2 ⟨rfl,hn,rfl⟩
 subst z_
 clear I_
 let I_:L2.St ->L2.Hp ->Prop:=fun σ' H'=>H'=H2/\¬x.k= .end_/\σ'=[sr rt,sr q1,si sg,si n,sR x.k.str,si x.s,si x.f,si x.p]
 refine⟨I_,?_,?_⟩
 . refine⟨_,rfl,rfl,_,rfl,U5 (fun h=>?_) (fun h=>⟨rfl,neS (b:= .end_) h,rfl⟩)⟩
   have he:x.k= .end_:=eqS (b:= .end_) h
   rw[if_pos he,if_neg (fun z=>hn ⟨he,z⟩)] at k
   exact⟨_,rfl,_,rfl,_,rfl,rt,_,_,_,rfl,rfl,SqT.of er,V6 (j:=2) rfl,_,rfl,rt,_,_,_,rfl,rfl,SqT.of er,V6 (j:=0) rfl,_,_,rfl,rfl,_,_,rfl,rfl,rt,v,sg,_,rfl,er,ok,fun q H' s' du=>k q H' s' du⟩
 refine L2.hideG fun Z_ z_=>?_
 rintro σ' H3 ⟨rfl,he,rfl⟩
 subst z_
 clear I_
 rw[if_neg he] at k
 let I_:L2.St ->L2.Hp ->Prop:=fun σ' H'=>H'=H3/\¬n>0/\σ'=[sr rt,sr q1,si sg,si n,sR x.k.str,si x.s,si x.f,si x.p]
 refine⟨I_,?_,?_⟩
 . refine⟨_,rfl,_,_,rfl,rfl,_,rfl,U5 (fun h=>?_) (fun h=>⟨rfl,h,rfl⟩)⟩
   rw[if_pos (show n>0 from h)] at k
   exact⟨_,rfl,_,rfl,_,rfl,_,rfl,_,_,rfl,rfl,A2a.ok (.inr ⟨by omega,by omega⟩),rt,v,sg,_,rfl,er,ok,fun q H' s' du=>k q H' s' du⟩
 refine L2.hideG fun Z_ z_=>?_
 rintro σ' H4 ⟨rfl,hp,rfl⟩
 subst z_
 clear I_
 rw[if_neg hp] at k
 refine⟨_,rfl,z4,fun t nt=>⟨z1,fun l nl=>⟨z2,fun q nq=>?_⟩⟩⟩
 have u2:=B5.upd (o:= .lst [.str "split"]) nl
 have u3:=B5.upd (o:= .tup [.ref t,.ref l]) nq
 exact k q _ ((B5.upd nt).trans (u2.trans u3)) ⟨t,l,A6,(u2.trans u3) _ _ A6,u3 _ _ A6⟩
noncomputable abbrev stP (rt q:Addr) (x2 x3 x4 x5 x6 x7 x8 x9 x10 x11 x12 x13:Option V):L2.St:=[sr rt,sr q,x2,x3,x4,x5,x6,x7,x8,x9,x10,x11,x12,x13]
noncomputable def B9d:Sp:=fun vs H Q _=>∃rt v q1 x,∃k:Int,vs=[.ref rt,.ref q1,.int k]/\H rt=some (.tup (Cv.tup v))/\v.Ok/\H q1=some (.tup (Nm.vs x))/\x.Wf/\x.Sm/\ -20<=k/\k<=20/\
 ∀L q zs H',B0y x k L ->B5 H H' ->A3z H' q (A2m v x k L).1 zs ->(∀z,z∈zs↔z∈(A2m v x k L).2) ->Q (.ref q) H'
theorem scLPower:B8 ["_law_rules_here","_law_number_here","_law_count","_law_kind","_law_sign","_law_figures","_law_own","_law_is_empty","_law_worth","_law_turn","_law_top","_law_bottom","_law_high","_law_low"] Q45 (A5 A9v):=scK
theorem C4q(D:Def K mg "_law_power" Q45 A9v f fd)(dA:Def K mg "_law_odd_power" Q44 B5v f1 fd1)(dB:sI P w K mg base 2 f1 fd1 Q44 C3n)
   (dC:Def K mg "_law_scaled" Q9 A2j f2 fd2) (dD:sI P w K mg base 2 f2 fd2 Q9 A5q) (dE:Def K mg "_law_settled" Q42 A3f f3 fd3) (dF:sI P w K mg base 4 f3 fd3 Q42 B2n) (O:Own mg):
   sI P w K mg base 5 f fd Q45 B9d:=by
 refine D.F.okE scLPower (fun vs H Q E h=>?_) (fun X cdv A outer s H vs Q E hX hr hx h=>?_)
 . obtain⟨rt,v,q1,x,n,rfl,_⟩:=h
   rfl
 subst hX
 obtain⟨rt,v,q1,x,n,rfl,er,ok,e1,wf,sm,n0,n1,k⟩:=h
 have z0:0<=sizeLine:=Nat.zero_le _
 have z1:1<=sizeLine:=D3 (by decide)
 have z2:2<=sizeLine:=D3 (by decide)
 have z4:4<=sizeLine:=D3 (by decide)
 have o:=wf.ok
 refine⟨_,(A4 (A8 (A1e (pv 1) (A0x rfl (D4 (D0 (i:=3) scLPower.nd rfl (Or.inl rfl)) (D4 (D0 (i:=4) scLPower.nd rfl (Or.inl rfl)) (D4 (D0 (i:=5) scLPower.nd rfl (Or.inl rfl)) (D4 (D0 (i:=6) scLPower.nd rfl (Or.inl rfl)) Z0))))))) (A4 (A8 (U0 (C8 G4 (pv 3) C7 (B9 _)) (A7 (B7 (V7 (A0 (pv 1) (A0 (J9 A3) A3))))) D7)) (A4 (A8 (D5 (i:=7) scLPower.nd rfl (Or.inl rfl) (Z4 (D9 G4 (pv 3) C7 (B9 _)) (Z6 (D9 G4 (pv 5) A2 (B9 _)))))) (A4 (A8 (U0 (PW.pt (A2y (C8 G4 (pv 2) A2 (B9 _)) (A1n (Z5 (pv 7))))) (A7 (B7 (V7 (A0 (V7 (A0 C7 (A0 A2 (A0 A2 (A0 A2 A3))))) (A0 (J9 (A0 C7 A3)) A3))))) D7)) (A4 (A8 (U0 (C8 G4 (pv 2) A2 (B9 _)) (A7 (B7 (V7 (A0 (V7 (A0 C7 (A0 A2 (A0 A2 (A0 A2 A3))))) (A0 (J9 A3) A3))))) D7)) (A4 (A8 (D5 (i:=4) scLPower.nd rfl (Or.inl rfl) (V5 A0q (by rfl) O.int_ boot_int (A0 (Z4 (D9 G4 (pv 4) A2 (B9 _)) (Z6 (D9 G4 (A9 U3 (U8 B2h (by rfl) O.abs_ boot_abs (A0 (pv 2) A3)) A2) A2 (B9 _)))) A3)))) (A4 (A8 (U0 (PW.pt (A4n (C8 G4 (pv 3) C7 (B9 _)) (A6b (Z5 (pv 7))))) (A7 (B7 (V0 dA dB hr hx (A0 (pv 0) (A0 (pv 1) (A0 (pv 4) (A0 (pv 2) A3))))))) D7)) (A4 (A8 (D5 (i:=8) scLPower.nd rfl (Or.inl rfl) A2)) (A4 (A8 (B0s PassesOwn.leaving rfl (A2b rfl O.range_ (A0 (U8 B2h (by rfl) O.abs_ boot_abs (A0 (pv 2) A3)) A3)) (D0 (i:=9) scLPower.nd rfl (Or.inl rfl)) (A7 (A8 (D5 (i:=8) scLPower.nd rfl (Or.inl rfl) (A9 U2 (pv 8) (pv 5))))))) (A4 (A8 (A1e (A0h (C8 A2f (pv 2) A2 (B9 _)) (V7 (A0 (pv 8) (A0 A2 A3))) (V7 (A0 A2 (A0 (pv 8) A3)))) (A0x rfl (D4 (D0 (i:=10) scLPower.nd rfl (Or.inl rfl)) (D4 (D0 (i:=11) scLPower.nd rfl (Or.inl rfl)) Z0))))) (A4 (A8 (A1e (V0 dC dD hr hx (A0 (pv 10) (A0 (pv 11) (A0 (A9 U2 (pv 6) (pv 2)) A3)))) (A0x rfl (D4 (D0 (i:=12) scLPower.nd rfl (Or.inl rfl)) (D4 (D0 (i:=13) scLPower.nd rfl (Or.inl rfl)) Z0))))) (A7 (B7 (V0 dE dF hr hx (A0 (pv 0) (A0 (pv 4) (A0 (pv 12) (A0 (pv 13) (A0 (A9 U2 (pv 6) (pv 2)) A3))))))))))))))))))),?_⟩
 refine⟨fun σ' H'=>H'=H/\σ'=stP rt q1 (some (.int n)) (some (.str x.k.str)) (some (.int x.s)) (some (.int x.f)) (some (.int x.p)) none none none none none none none,⟨_,rfl,q1,_,rfl,SqT.of e1,rfl,_,_,rfl,_,_,rfl,_,_,rfl,_,_,rfl,rfl,rfl,rfl⟩,?_⟩
 rintro σ' H1 ⟨rfl,rfl⟩
 have p0:=sm.p0;have p1:=sm.p1;have f24:=sm.f24;have f0:=o.f0
 have fin:∀(L:Int) (res:Nm) (rs:List Str) (t l q:Addr) (H':Hp),B0y x n L ->A2m v x n L=(res,rs) ->B5 H1 H' ->H' q=some (.tup [.ref t,.ref l]) ->H' t=some (.tup res.vs) ->H' l=some (.lst (rs.map V.str)) ->Q (.ref q) H':=fun L res rs t l q H' hL eR s' eq et el=>by
   refine k L q rs H' hL s' ?_ ?_
   . rw[eR]
     exact⟨t,l,eq,et,el⟩
   . rw[eR]
     exact fun z=>Iff.rfl
 let I_:L2.St ->L2.Hp ->Prop:=fun σ' H'=>H'=H1/\x.k≠ .none/\σ'=stP rt q1 (some (.int n)) (some (.str x.k.str)) (some (.int x.s)) (some (.int x.f)) (some (.int x.p)) none none none none none none none
 refine⟨I_,?_,?_⟩
 . refine⟨_,rfl,rfl,_,rfl,U5 (fun h=>?_) (fun h=>⟨rfl,neS (b:= .none) h,rfl⟩)⟩
   have hk:x.k= .none:=eqS (b:= .none) h
   refine⟨_,rfl,z0,fun l nl=>⟨z2,fun q nq=>?_⟩⟩
   have u1:=B5.upd (o:= .lst []) nl
   have u2:=B5.upd (o:= .tup [.ref q1,.ref l]) nq
   obtain⟨n1,n2,n3⟩:=wf.n hk
   have ex:x=B2k:=by
     obtain⟨a,b,c,d⟩:=x
     dsimp only at hk n1 n2 n3
     rw[hk,n1,n2,n3]
     rfl
   have eR:A2m v x n 0=(x,[]):=by unfold A2m;rw[if_pos hk,ex]
   exact fin 0 x [] q1 l q _ (fun z=>by rw[hk] at z;cases z) eR (u1.trans u2) A6 ((u1.trans u2) _ _ e1) (u2 _ _ A6)
 refine L2.hideG fun Z_ z_=>?_
 rintro σ' H2 ⟨rfl,hn,rfl⟩
 subst z_
 clear I_
 let I_:L2.St ->L2.Hp ->Prop:=fun σ' H'=>H'=H2/\σ'=stP rt q1 (some (.int n)) (some (.str x.k.str)) (some (.int x.s)) (some (.int x.f)) (some (.int x.p)) (some (.bl (decide (x.k= .plain/\x.f=0)))) none none none none none none
 refine⟨I_,?_,?_⟩
 . refine⟨_,rfl,rfl,_,rfl,U5 (fun h=>⟨_,rfl,rfl,rfl,?_⟩) (fun h=>⟨rfl,?_⟩)⟩
   . have hk:x.k= .plain:=eqS (b:= .plain) h
     have e:decide (V.int x.f=V.int 0)=decide (x.k= .plain/\x.f=0):=decide_eq_decide.mpr ⟨fun z=>⟨hk,V.int.inj z⟩,fun z=>congrArg V.int z.2⟩
     rw[<-e]
     rfl
   . rw[decide_eq_false (fun z=>neS (b:= .plain) h z.1)]
     rfl
 rintro σ' H3 ⟨rfl,rfl⟩
 clear I_
 refine⟨fun σ' H'=>H'=H3/\¬(n=0/\x.k= .plain/\x.f=0)/\σ'=stP rt q1 (some (.int n)) (some (.str x.k.str)) (some (.int x.s)) (some (.int x.f)) (some (.int x.p)) (some (.bl (decide (x.k= .plain/\x.f=0)))) none none none none none none,?_,?_⟩
 . refine⟨_,rfl,rfl,_,rfl,U5 (fun h=>⟨_,rfl,_,rfl,?_⟩) (fun h=>⟨rfl,fun z=>h (congrArg V.int z.1),rfl⟩)⟩
   have hn0:n=0:=V.int.inj h
   by_cases hz:x.k= .plain/\x.f=0
   . rw[decide_eq_true hz]
     refine Z3 ⟨z4,fun p2 np2=>⟨z1,fun l nl=>⟨z2,fun q nq=>?_⟩⟩⟩
     have u2:=B5.upd (o:= .tup [.str "none",.int 0,.int 0,.int 0]) np2
     have u3:=B5.upd (o:= .lst [.str "void"]) nl
     have u4:=B5.upd (o:= .tup [.ref p2,.ref l]) nq
     have eR:A2m v x n 0=(B2k,(["void"]:List Str)):=by unfold A2m;rw[if_neg hn,if_neg (by rw[hz.1];decide),if_pos hz.2,if_pos hn0]
     exact fin 0 B2k ["void"] p2 l q _ (fun _ z=>absurd hz.2 z) eR (u2.trans (u3.trans u4)) A6 ((u3.trans u4) _ _ A6) (u4 _ _ A6)
   . rw[decide_eq_false hz]
     exact Y1 ⟨rfl,fun z=>hz z.2,rfl⟩
 refine L2.hideG fun Z_ z_=>?_
 rintro σ' H4 ⟨rfl,hv,rfl⟩
 subst z_
 let I_:L2.St ->L2.Hp ->Prop:=fun σ' H'=>H'=H4/\n≠0/\σ'=stP rt q1 (some (.int n)) (some (.str x.k.str)) (some (.int x.s)) (some (.int x.f)) (some (.int x.p)) (some (.bl (decide (x.k= .plain/\x.f=0)))) none none none none none none
 refine⟨I_,?_,?_⟩
 . refine⟨_,rfl,rfl,_,rfl,U5 (fun h=>?_) (fun h=>⟨rfl,fun z=>h (congrArg V.int z),rfl⟩)⟩
   have hn0:n=0:=V.int.inj h
   refine⟨z4,fun p2 np2=>⟨z0,fun l nl=>⟨z2,fun q nq=>?_⟩⟩⟩
   have u2:=B5.upd (o:= .tup [.str "plain",.int 0,.int 1,.int 0]) np2
   have u3:=B5.upd (o:= .lst []) nl
   have u4:=B5.upd (o:= .tup [.ref p2,.ref l]) nq
   refine fin 0 ⟨.plain,0,1,0⟩ [] p2 l q _ ?_ ?_ (u2.trans (u3.trans u4)) A6 ((u3.trans u4) _ _ A6) (u4 _ _ A6)
   . rw[hn0]
     exact C4x x
   . rw[hn0]
     exact B8j ok hn fun z=>hv ⟨hn0,z⟩
 refine L2.hideG fun Z_ z_=>?_
 rintro σ' H5 ⟨rfl,hn0,rfl⟩
 subst z_
 clear I_
 have so:=G0k (k:=n) o.s0 o.s1
 have ea:(if n<0 then -n else n)=(n.natAbs:Int):=by split<;>omega
 let I_:L2.St ->L2.Hp ->Prop:=fun σ' H'=>H'=H5/\σ'=stP rt q1 (some (.int n)) (some (.str x.k.str)) (some (.int (sgI x.s n))) (some (.int x.f)) (some (.int x.p)) (some (.bl (decide (x.k= .plain/\x.f=0)))) none none none none none none
 refine⟨I_,?_,?_⟩
 . have s0:=o.s0;have s1:=o.s1
   refine⟨_,rfl,rfl,_,rfl,U5 (fun h=>?_) (fun h=> .inr ⟨false,rfl,rfl,?_⟩)⟩
   . have h1:x.s=1:=V.int.inj h
     refine⟨_,rfl,n,rfl,_,_,rfl,rfl,(by decide:(0:Int)<2),rfl,.inr ⟨_,rfl,rfl,?_⟩⟩
     have e:(if decide (V.int ((if n<0 then -n else n) % 2)=V.int 1)=true then(1:Int) else 0)=sgI x.s n:=by
       unfold sgI
       rw[ea]
       by_cases c:n % 2=1
       . rw[if_pos c,if_pos (decide_eq_true (congrArg V.int (by omega))),h1]
       . rw[if_neg c,if_neg (by intro z;have:=V.int.inj (of_decide_eq_true z);omega)]
     rw[<-e]
     rfl
   . have h0:x.s=0:=by
       have:x.s≠1:=fun z=>h (congrArg V.int z)
       omega
     rw[show sgI x.s n=0 by unfold sgI;split<;>first|exact h0|rfl]
     rfl
 rintro σ' H6 ⟨rfl,rfl⟩
 clear I_
 refine⟨fun σ' H'=>H'=H6/\x.k≠ .end_/\x.f≠0/\σ'=stP rt q1 (some (.int n)) (some (.str x.k.str)) (some (.int (sgI x.s n))) (some (.int x.f)) (some (.int x.p)) (some (.bl (decide (x.k= .plain/\x.f=0)))) none none none none none none,?_,?_⟩
 . have go:(x.k= .end_\/x.f=0) ->∀q H',B5 H6 H' ->A3z H' q (B7c v x (sgI x.s n) n).1 (B7c v x (sgI x.s n) n).2 ->Q (.ref q) H':=fun h q H' s' du=>by
     have hL:B0y x n 0:=fun z1 z2=>h.elim (fun z=>by rw[z] at z1;cases z1) (fun z=>absurd z z2)
     refine k 0 q (B7c v x (sgI x.s n) n).2 H' hL s' ?_ ?_
     . rw[C7t 0 hn h hn0]
       exact du
     . rw[C7t 0 hn h hn0]
       exact fun z=>Iff.rfl
   refine⟨_,rfl,rfl,_,rfl,U5 (fun h=>?_) (fun h=>⟨_,rfl,_,rfl,?_⟩)⟩
   . exact⟨_,rfl,_,rfl,_,rfl,_,rfl,rt,v,q1,x,_,n,rfl,er,ok,e1,sm,go (.inl (eqS (b:= .end_) h))⟩
   . have hE:=neS (b:= .end_) h
     by_cases hz:x.k= .plain/\x.f=0
     . rw[decide_eq_true hz]
       exact Z3 ⟨_,rfl,_,rfl,_,rfl,_,rfl,rt,v,q1,x,_,n,rfl,er,ok,e1,sm,go (.inr hz.2)⟩
     . rw[decide_eq_false hz]
       refine Y1 ⟨rfl,hE,fun z=>hz ⟨?_,z⟩,rfl⟩
       cases q:x.k with
       |plain=>rfl
       |end_=>exact absurd q hE
       |none=>exact absurd q hn
 refine L2.hideG fun Z_ z_=>?_
 rintro σ' H7 ⟨rfl,hE,hf,rfl⟩
 subst z_
 generalize decide (x.k= .plain/\x.f=0)=bb
 obtain⟨st,sb,t5,b5⟩:=C3h (k:=n) (show 0<x.f by omega) f24 n0 n1
 refine⟨fun σ' H'=>H'=H7/\σ'=stP rt q1 (some (.int n)) (some (.str x.k.str)) (some (.int (sgI x.s n))) (some (.int x.f)) (some (.int x.p)) (some (.bl bb)) (some (.int 1)) none none none none none,⟨rfl,rfl⟩,?_⟩
 rintro σ' H8 ⟨rfl,rfl⟩
 let I_:L2.St ->L2.Hp ->Prop:=fun σ' H'=>H'=H8/\∃w9,σ'=stP rt q1 (some (.int n)) (some (.str x.k.str)) (some (.int (sgI x.s n))) (some (.int x.f)) (some (.int x.p)) (some (.bl bb)) (some (.int (A4b x.f n))) w9 none none none none
 refine⟨I_,?_,?_⟩
 . obtain⟨F,hF⟩:=Int.eq_ofNat_of_zero_le f0
   have hb:F<2^200:=by
     have:B0 24<=2^200:=by decide+kernel
     omega
   refine⟨_,rfl,n,rfl,_,rfl,by show -(2^62)<=(if n<0 then -n else n);split<;>omega,by show(if n<0 then -n else n)<2^62;split<;>omega,A8j (n:=(if n<0 then -n else n).toNat) (fun i σ' H'=>H'=H8/\∃w9,σ'=stP rt q1 (some (.int n)) (some (.str x.k.str)) (some (.int (sgI x.s n))) (some (.int x.f)) (some (.int x.p)) (some (.bl bb)) (some (.int ((F^i:Nat):Int))) w9 none none none none) ⟨rfl,none,rfl⟩ ?_ ?_⟩
   . rintro i σ' H' hi ⟨rfl,w9,rfl⟩
     rw[ea] at hi
     refine⟨_,?_,fun _ _ h=>h⟩
     have mo:=A5j (b:=F) (s:=200) (i:=i) (j:=1) (n:=21) hb (by omega) (by omega) (by decide)
     rw[Nat.pow_one] at mo
     refine⟨_,rfl,_,rfl,_,_,rfl,rfl,by rw[hF];exact mo,rfl,si (0+i),?_⟩
     rw[Nat.pow_succ,Int.natCast_mul, <-hF]
     rfl
   . rintro σ' H' ⟨rfl,w9,rfl⟩
     refine⟨rfl,w9,?_⟩
     unfold A4b
     rw[ea,Int.toNat_natCast,hF,Int.toNat_natCast]
 refine L2.hideG fun Z_ z_=>?_
 rintro σ' H9 ⟨rfl,w9,rfl⟩
 subst z_
 clear I_
 let I_:L2.St ->L2.Hp ->Prop:=fun σ' H'=>B5 H9 H'/\σ'=stP rt q1 (some (.int n)) (some (.str x.k.str)) (some (.int (sgI x.s n))) (some (.int x.f)) (some (.int x.p)) (some (.bl bb)) (some (.int (A4b x.f n))) w9 (some (.int (A4d x.f n))) (some (.int (A4c x.f n))) none none
 refine⟨I_,?_,?_⟩
 . by_cases hp:n>0
   . refine⟨_,rfl,_,_,rfl,rfl,_,rfl,A0c hp ⟨_,rfl,z2,fun q nq=>⟨q,_,rfl,SqT.of A6,rfl,_,_,rfl,_,_,rfl,rfl,B5.upd nq,?_⟩⟩⟩
     unfold A4d A4c
     rw[if_neg (by omega),if_neg (by omega)]
     rfl
   . refine⟨_,rfl,_,_,rfl,rfl,_,rfl,G6 hp ⟨_,rfl,z2,fun q nq=>⟨q,_,rfl,SqT.of A6,rfl,_,_,rfl,_,_,rfl,rfl,B5.upd nq,?_⟩⟩⟩
     unfold A4d A4c
     rw[if_pos (by omega),if_pos (by omega)]
     rfl
 rintro σ' H10 ⟨s10,rfl⟩
 clear I_
 have kb:=J0e n0 n1 p0 p1
 have cm:x.p*n=n*x.p:=Int.mul_comm _ _
 let I_:L2.St ->L2.Hp ->Prop:=fun σ' H'=>B5 H9 H'/\σ'=stP rt q1 (some (.int n)) (some (.str x.k.str)) (some (.int (sgI x.s n))) (some (.int x.f)) (some (.int x.p)) (some (.bl bb)) (some (.int (A4b x.f n))) w9 (some (.int (A4d x.f n))) (some (.int (A4c x.f n))) (some (.int (A4d x.f n*B0 (n*x.p)))) (some (.int (A4c x.f n*B0 (-(n*x.p)))))
 refine⟨I_,?_,?_⟩
 . refine⟨_,rfl,_,rfl,_,rfl,_,rfl,_,_,rfl,rfl,A2a.ok (.inl ⟨by omega,by omega⟩),A4d x.f n,A4c x.f n,n*x.p,(by rw[<-cm];rfl),by omega,by omega,B5g st (by omega),B5g sb (by omega),fun q H' s' eq=>?_⟩
   exact⟨q,_,rfl,SqT.of eq,rfl,_,_,rfl,_,_,rfl,rfl,s10.trans s',rfl⟩
 rintro σ' H11 ⟨s11,rfl⟩
 clear I_
 have big:∀{a e:Int},1<=a ->a<B0 481 ->e<=1300 ->SzL (a*B0 e):=fun{a e} h1 h2 h3=>by
   have b:B0 e<=B0 1300:=A5f h3
   have q1:1<=B0 e:=by have:=Y3 e;omega
   have e1:B0 481*B0 1300=B0 1781:=by
     unfold B0
     rw[<-Int.natCast_mul, <-Nat.pow_add]
     rfl
   have d:B0 1781<=B0 1800:=A5f (by decide)
   refine⟨?_,?_⟩
   . have:1*1<=a*B0 e:=Int.mul_le_mul h1 q1 (by decide) (by omega)
     omega
   . have m:a*B0 e<=a*B0 1300:=Int.mul_le_mul_of_nonneg_left b (by omega)
     have n:a*B0 1300<B0 481*B0 1300:=Int.mul_lt_mul_of_pos_right h2 (Y3 _)
     omega
 refine⟨_,rfl,_,rfl,_,rfl,_,rfl,_,rfl,_,rfl,_,_,rfl,rfl,A2a.ok (.inl ⟨by omega,by omega⟩),rt,v,sgI x.s n,A4d x.f n*B0 (n*x.p),A4c x.f n*B0 (-(n*x.p)),n*x.p,(by rw[<-cm];rfl),s11 _ _ er,ok,so.1,so.2,big st.1 t5 (by omega),big sb.1 b5 (by omega),fun L q zs H' ld s' du hz=>?_⟩
 have eR:A2m v x n L=Z9 v (sgI x.s n) (A4d x.f n) (A4c x.f n) (n*x.p) L (n*x.p):=by
   unfold A2m
   rw[if_neg hn,if_neg hE,if_neg hf]
 have es:=B5x v (sgI x.s n) (A4d x.f n) (A4c x.f n) (n*x.p) L (n*x.p) (by have:=sb.1;omega)
 rw[es] at du hz
 refine k L q zs H' (fun _ _=>lead_scale.mp ld) (s11.trans s') ?_ ?_
 . rw[eR];exact du
 rw[eR];exact hz
noncomputable abbrev B5p:Stmt:=(top 82)
noncomputable abbrev A6x:Stmt:=(top 86)
structure C4f(K:Frag)(mg:Str ->Option Value)(CR C1 C2 C3 C4 C5:Addr):Prop where
 g:mg "ReckonError"=some (.ref CR)
 c:A8n K CR
 sub:subIn K (.ref C4) (.ref CR)=some true
 fits:G8w K C4 C1 C2 C3 C4 C5 false false false true false
inductive A9p(H:Hp):V ->Prop
 |non:A9p H .non
 |bl (b:Bool):A9p H (.bl b)
 |int {i:Int} (h:i< -20\/20<i):A9p H (.int i)
 |str (s:Str):A9p H (.str s)
 |lst {p:Addr} {xs:List V} (e:H p=some (.lst xs)):A9p H (.ref p)
theorem A9p.same{H H':Hp}{v:V}(h:A9p H v)(k:B5 H H'):A9p H' v:=by
 cases h with
 |non=>exact .non
 |bl b=>exact .bl b
 |int h=>exact .int h
 |str s=>exact .str s
 |lst e=>exact .lst (k _ _ e)
theorem A9p.bad{K:Frag}{H:Hp}{v:V}(T:Kit K)(h:A9p H v):A4e K H (-20) 20 v:=by
 cases h with
 |non=>exact D7m T
 |bl b=>exact G3j T b
 |int h=>exact D7s T h
 |str s=>exact D8v T s
 |lst e=>exact D6q T e
noncomputable def C3d (K:Frag) (CN:Addr):Sp:=fun vs H Q _=>∃c n x u,vs=[.ref c,.ref n,u]/\Y8 CN H n x/\A9p H u/\∀H',B5 H H' ->Q (.bl true) H'
theorem scLCRef:B8 ["_law_context","_law_number_here","_law_count","e","_law_others"] Q46 (A5 B5p):=scK
theorem C7s{f f1 CN CC CT CR C1 C2 C3 C4 C5:Addr}(D:Def K mg "_law_count_refused" Q46 B5p f fd)(dA:Def K mg "to_power" Q16 B0w f1 fd1)(dB:sI P w K mg base 7 f1 fd1 Q16 (C2c K CN CC CT C1 C4))(R:C4f K mg CR C1 C2 C3 C4 C5)(ES:D1f mg C1 C2 C3 C4 C5)(O:Own mg)(T:Kit K):sI P w K mg base 10 f fd Q46 (C3d K CN):=by
 have G_to_power:=G0.mono dB (show 7<=9 by decide)
 refine D.F.okE scLCRef (fun vs H Q E h=>?_) (fun X cdv A outer s H vs Q E hX hr hx h=>?_)
 . obtain⟨c,n,x,u,rfl,_⟩:=h
   rfl
 subst hX
 obtain⟨c,n,x,u,rfl,hn,bad,k⟩:=h
 have z4:4<=sizeLine:=D3 (by decide)
 refine⟨_,(A4 (A8 (C7g ⟨rfl,rfl,rfl⟩ (by rfl) R.g R.c scLCRef.nd (i:=3) rfl rfl (fun pins Ew EHb hc=>(A7 (A8 (Y6 (V0 dA G_to_power hr hc (A0 (pv 0) (A0 (pv 1) (A0 (pv 2) A3)))))))) (fun pins a=>(A4 (A8 (D5 (i:=4) scLCRef.nd rfl (Or.inl rfl) (J9 (A0 (A2r (K:=K) rfl O.isi (pv 3) (A4a ES.g3)) (A0 (A2r (K:=K) rfl O.isi (pv 3) (A4a ES.g1)) (A0 (A2r (K:=K) rfl O.isi (pv 3) (A4a ES.g2)) (A0 (A2r (K:=K) rfl O.isi (pv 3) (A4a ES.g5)) A3))))))) (A7 (B7 (Z4 (A2r (K:=K) rfl O.isi (pv 3) (A4a ES.g4)) (Z4 (A2r (K:=K) rfl O.isi (pv 3) (pty O.ValueError_ (show bootBuiltins "ValueError"=some (.type "ValueError") by decide+kernel))) (Z6 (D9 (A5z (K:=K) rfl) A0v (pv 4) (by rfl))))))))))) (A7 (B7 A0v))),?_⟩
 refine⟨_,?_,fun _ _ h=>h⟩
 refine⟨fun _ _=>False,⟨_,rfl,_,rfl,_,rfl,c,_,_,rfl,.inr (.inr ⟨n,x,rfl,hn,bad.bad T,R.sub,fun ea t T na=>?_⟩)⟩,fun _ _ h=>h.elim⟩
 have u1:=B5.upd (o:= .frz (Z2 (.ref C4) t none (.ref T)) (.own ea)) na
 have ee:upd H ea (.frz (Z2 (.ref C4) t none (.ref T)) (.own ea)) ea=some (.frz (Z2 (.ref C4) t none (.ref T)) (.own ea)):=A6
 generalize upd H ea (.frz (Z2 (.ref C4) t none (.ref T)) (.own ea))=G at*
 have ty:∀{H'':Hp},B5 G H'' ->TyE K H'' (.ref ea) (.ref C4):=fun s=> .exc (s _ _ ee) R.fits.k
 refine⟨fun σ' H''=>∃l,B5 G H''/\H'' l=some (.lst [.bl false,.bl false,.bl false,.bl false])/\σ'=[sr c,sr n,some u,sr ea,sr l],?_,?_⟩
 . have r0:=B5.refl G
   exact⟨_,rfl,_,_,_,_,false,rfl,rfl,ty r0,R.fits.h3,_,rfl,_,_,_,_,false,rfl,rfl,ty r0,R.fits.h1,_,rfl,_,_,_,_,false,rfl,rfl,ty r0,R.fits.h2,_,rfl,_,_,_,_,false,rfl,rfl,ty r0,R.fits.h5,z4,fun l nl=>⟨l,B5.upd nl,A6,rfl⟩⟩
 rintro σ' G1 ⟨l,s1,el,rfl⟩
 refine⟨_,rfl,_,_,_,_,true,rfl,rfl,ty s1,R.fits.h4,_,rfl,Z3 ⟨_,rfl,_,_,_,_,true,rfl,rfl,ty s1,R.fits.hv,_,rfl,Z3 ⟨_,rfl,l,_,rfl,.inl (SqL.of el),rfl,rfl,?_⟩⟩⟩
 exact k _ (u1.trans s1)
noncomputable def B4b (CN:Addr):Sp:=fun vs H Q _=>∃c n x,∃d:Int,vs=[.ref c,.ref n,.int d]/\Y8 CN H n x/\∀H',B5 H H' ->Q (.bl true) H'
theorem scLAllRef:B8 ["_law_context","_law_number_here","_law_draw","_law_odd","_law_none"] Q47 (A5 A6x):=scK
theorem C1n{f f1 f2 CN:Addr}(D:Def K mg "_law_all_refused" Q47 A6x f fd)(dA:Def K mg "_law_refused" Q18 A7c f1 fd1)(dB:sI P w K mg base 10 f1 fd1 Q18 (B1v K CN))(dC:Def K mg "_law_count_refused" Q46 B5p f2 fd2)(dD:sI P w K mg base 10 f2 fd2 Q46 (C3d K CN))(O4:D9v K CN):sI P w K mg base 11 f fd Q47 (B4b CN):=by
 refine D.F.okE scLAllRef (fun vs H Q E h=>?_) (fun X cdv A outer s H vs Q E hX hr hx h=>?_)
 . obtain⟨c,n,x,d,rfl,_⟩:=h
   rfl
 subst hX
 obtain⟨c,n,x,d,rfl,hn,k⟩:=h
 have z1:1<=sizeLine:=D3 (by decide)
 have z2:2<=sizeLine:=D3 (by decide)
 have z4:4<=sizeLine:=D3 (by decide)
 have z8:8<=sizeLine:=D3 (by decide)
 refine⟨_,(A4 (A8 (D5 (i:=3) scLAllRef.nd rfl (Or.inl rfl) (V8 V2 (J9 (A0 C0f (A0 A2 (A0 C7 (A0 (V7 (A0 C7 (A0 A2 (A0 A2 (A0 A2 A3))))) (A0 (J9 (A0 A2 A3)) (A0 A0v (A0 B0u (A0 C7 A3))))))))) (A9 U3 (pv 2) A2) (fun _ _=>rfl)))) (A4 (A8 (D5 (i:=4) scLAllRef.nd rfl (Or.inl rfl) (V8 V2 (J9 (A0 A2 (A0 (A1q A0m A2) (A0 A0v (A0 C0f (A0 C7 (A0 (J9 (A0 A2 A3)) (A0 (A9 U7 A2 (A9 U3 (A9 G9 (pv 2) A2) (A9 B6d A2 A2))) (A0 (A9 V3 (A1q A0m A2) (A9 U3 (A9 G9 (pv 2) A2) (A9 B6d A2 A2))) A3))))))))) (A9 U3 (A9 G9 (pv 2) A2) A2) (fun _ _=>rfl)))) (A4 (A8 (U0 (PW.pt (A4n (A1a (Z5 (V0 dA dB hr hx (A0 (pv 0) (A0 A2 (A0 (J9 (A0 (pv 3) (A0 A2 A3))) A3)))))) (A6b (A1a (Z5 (V0 dA dB hr hx (A0 (pv 0) (A0 A2 (A0 (J9 (A0 (pv 3) (A0 (pv 4) A3))) A3))))))))) (A7 (B7 A0v)) D7)) (A7 (B7 (V0 dC dD hr hx (A0 (pv 0) (A0 (pv 1) (A0 (pv 4) A3))))))))),?_⟩
 let I_:L2.St ->L2.Hp ->Prop:=fun σ' H'=>∃od,B5 H H'/\A5u H' od/\σ'=[sr c,sr n,si d,some od,none]
 refine⟨I_,?_,?_⟩
 . refine⟨z4,fun q1 n1=>⟨z1,fun q2 n2=>fun q3 n3=>⟨z8,fun l nl=>?_⟩⟩⟩
   have u1:=B5.upd (o:= .tup [.str "plain",.int 0,.int 1,.int 0]) n1
   have u2:=B5.upd (o:= .lst [.int 1]) n2
   have u3:=B5.upd (o:= .dK []) n3
   have u4:=B5.upd (o:= .lst [.non,.int 5,.str "1",.ref q1,.ref q2,.bl true,.ref q3,.str ""]) nl
   obtain⟨o,ho,ix⟩:=ixv (xs:=[.non,.int 5,.str "1",.ref q1,.ref q2,.bl true,.ref q3,.str ""]) (i:=d % 8) (Int.emod_nonneg _ (by decide)) (by show d % 8<8;exact Int.emod_lt_of_pos _ (by decide))
   refine⟨_,rfl,_,_,rfl,rfl,(by decide:(0:Int)<8),l,_,_,_,rfl,rfl,SqL.of A6,ix,o,u1.trans (u2.trans (u3.trans u4)),?_,rfl⟩
   simp only[List.mem_cons,List.not_mem_nil,or_false] at ho
   rcases ho with rfl|rfl|rfl|rfl|rfl|rfl|rfl|rfl
   . exact .non
   . exact .int _
   . exact .str _
   . exact .tup ((u2.trans (u3.trans u4)) _ _ A6)
   . exact .lst ((u3.trans u4) _ _ A6)
   . exact .bl _
   . exact .dic (u4 _ _ A6)
   . exact .str _
 refine L2.hideG fun Z_ z_=>?_
 rintro σ' H1 ⟨od,s1,oo,rfl⟩
 subst z_
 clear I_
 let I_:L2.St ->L2.Hp ->Prop:=fun σ' H'=>∃bd,B5 H1 H'/\A9p H' bd/\σ'=[sr c,sr n,si d,some od,some bd]
 refine⟨I_,?_,?_⟩
 . have pw:D6z 10 9:=⟨by decide,by decide,by decide⟩
   have e9:(10:Int)^(9:Int).toNat=1000000000:=by decide+kernel
   have e1:=Int.emod_nonneg (d/64) (show(1000000000:Int)≠0 by decide)
   refine⟨_,rfl,z1,fun q nq=>⟨_,rfl,_,_,rfl,rfl,⟨by decide,by decide+kernel⟩,_,_,rfl,rfl,pw,_,_,rfl,rfl,(by decide+kernel:(0:Int)<10^(9:Int).toNat),_,_,rfl,rfl,_,rfl,_,rfl,_,_,rfl,rfl,⟨by decide,by decide+kernel⟩,_,_,rfl,rfl,pw,_,_,rfl,rfl,(by decide+kernel:(0:Int)<10^(9:Int).toNat),_,_,rfl,rfl,z8,fun l nl=>?_⟩⟩
   have u1:=B5.upd (o:= .lst [.int 2]) nq
   have u2:=B5.upd (o:= .lst [.int 21,.int (-21),.bl true,.non,.str "2",.ref q,.int (21+d/64 % 10^(9:Int).toNat),.int (-21-d/64 % 10^(9:Int).toNat)]) nl
   obtain⟨o,ho,ix⟩:=ixv (xs:=[.int 21,.int (-21),.bl true,.non,.str "2",.ref q,.int (21+d/64 % 10^(9:Int).toNat),.int (-21-d/64 % 10^(9:Int).toNat)]) (i:=d/8 % 8) (Int.emod_nonneg _ (by decide)) (by show d/8 % 8<8;exact Int.emod_lt_of_pos _ (by decide))
   refine⟨_,rfl,_,_,rfl,rfl,⟨by decide,by decide+kernel⟩,_,_,rfl,rfl,(by decide:(0:Int)<8),l,_,_,_,rfl,rfl,SqL.of A6,ix,o,u1.trans u2,?_,rfl⟩
   simp only[List.mem_cons,List.not_mem_nil,or_false] at ho
   rw[e9] at ho
   rcases ho with rfl|rfl|rfl|rfl|rfl|rfl|rfl|rfl
   . exact .int (.inr (by decide))
   . exact .int (.inl (by decide))
   . exact .bl _
   . exact .non
   . exact .str _
   . exact .lst (u2 _ _ A6)
   . exact .int (.inr (by omega))
   . exact .int (.inl (by omega))
 refine L2.hideG fun Z_ z_=>?_
 rintro σ' H2 ⟨bd,s2,bb,rfl⟩
 subst z_
 clear I_
 have oo2:=oo.same s2
 let I_:L2.St ->L2.Hp ->Prop:=fun σ' H'=>B5 H2 H'/\σ'=[sr c,sr n,si d,some od,some bd]
 refine⟨I_,?_,?_⟩
 . refine⟨_,rfl,_,rfl,z2,fun l1 m1=>?_⟩
   have v1:=B5.upd (o:= .lst [od,.int 2]) m1
   refine⟨c,l1,_,0,rfl,A6,⟨od,_,rfl,(oo2.same v1).not O4⟩,fun H3 s3=>⟨_,rfl,Y1 ⟨_,rfl,_,rfl,_,rfl,z2,fun l2 m2=>?_⟩⟩⟩
   have v2:=B5.upd (o:= .lst [od,bd]) m2
   exact⟨c,l2,_,0,rfl,A6,⟨od,_,rfl,(((oo2.same v1).same s3).same v2).not O4⟩,fun H4 s4=>⟨_,rfl,Y1 ⟨v1.trans (s3.trans (v2.trans s4)),rfl⟩⟩⟩
 rintro σ' H3 ⟨s3,rfl⟩
 clear I_
 exact⟨_,rfl,_,rfl,_,rfl,c,n,x,bd,rfl,hn.same (s1.trans (s2.trans s3)),bb.same s3,fun H' s'=>k H' (s1.trans (s2.trans (s3.trans s')))⟩
noncomputable abbrev B5d:Stmt:=(top 87)
theorem A0e.exc1{CC c c' a b C0:Addr}{F:List (Str×V)}{H H':Hp}{r l m:Int}{y:Wy}{xs ys:List V}(h:A0e CC H c r y l m a b xs ys)(x:Exc c' H H')(h1:c≠c')(hi:∃d0,H c'=some (.ins C0 d0 F)):A0e CC H' c r y l m a b xs ys:=by
 obtain⟨⟨dx,e⟩,ha,hb⟩:=h
 obtain⟨d0,e0⟩:=hi
 exact⟨⟨dx,x _ _ e h1⟩,x _ _ ha (U4 ha e0 (by intro z;cases z)),x _ _ hb (U4 hb e0 (by intro z;cases z))⟩
theorem C2h:∀{ys:List V},(∀(i:Nat) (y:V),ys[i]?=some y ->∃n:Addr,y= .ref n) ->∃ms:List Addr,ys=ms.map V.ref
 | [],_=>⟨[],rfl⟩
 | y::r,h=>by
   obtain⟨n,rfl⟩:=h 0 y rfl
   obtain⟨ms,e⟩:=C2h (ys:=r) fun i z hz=>h (i+1) z (by simpa using hz)
   exact⟨n::ms,by rw[e];rfl⟩
theorem D8p{v:Cv}{s t b n L i:Int}:∀z∈(Z9 v s t b n L i).2,z∈Y5:=by
 have r:∀{pt:Int} {cut:Bool},∀z∈A0n pt cut,z∈Y5:=fun{pt cut}=>by
   unfold A0n
   split
   . split<;>decide
   . decide
 have l:∀{l L pt:Int},∀z∈A0k l L pt,z∈Y5:=fun{l L pt}=>by
   unfold A0k
   split
   . decide
   . split<;>decide
 unfold Z9 A2n
 split
 . show∀z∈(Q36:List Str),z∈Y5
   decide
 intro z hz
 rcases List.mem_append.mp hz with q|q
 . exact r z q
 exact l z q
theorem C2u{v:Cv}{x:Nm}{k L:Int}:∀z∈(A2m v x k L).2,z∈Y5:=by
 have c1:∀z∈(["void"]:List Str),z∈Y5:=by decide
 have c2:∀z∈(["split"]:List Str),z∈Y5:=by decide
 unfold A2m
 intro z hz
 split at hz
 . cases hz
 split at hz
 . split at hz
   . cases hz
   . split at hz
     . cases hz
     . cases hz
 split at hz
 . split at hz
   . exact c1 z hz
   . split at hz
     . exact c2 z hz
     . cases hz
 exact D8p z hz
structure Sd(CC:Addr)(v:Cv)(us tr:List Str)(t c a b l k:Addr)(H:Hp):Prop where
 t:H t=some (.tup v.tup)
 ct:Z7 CC H c v a b (Y0 us) tr
 l:H l=some (.lst (tr.map V.str))
 k:H k=some (.dK (kvU us))
 ok:v.Ok
 st:B3e tr
 nu:us.Nodup
 su:∀z∈us,z∈Y5
theorem Sd.same{CC:Addr}{v:Cv}{us tr:List Str}{t c a b l k:Addr}{H H':Hp}(h:Sd CC v us tr t c a b l k H)(s:B5 H H'):Sd CC v us tr t c a b l k H':=⟨s _ _ h.t,h.ct.same s,s _ _ h.l,s _ _ h.k,h.ok,h.st,h.nu,h.su⟩
theorem Sd.exc{CC:Addr}{v v':Cv}{us tr us' tr':List Str}{t c a b l k t' c' a' b' l' k':Addr}{H H':Hp}(h:Sd CC v us tr t c a b l k H)(h':Sd CC v' us' tr' t' c' a' b' l' k' H)(x:A0f c' k' H H')(nc:c≠c')(nk:k≠k'):Sd CC v us tr t c a b l k H':=by
 obtain⟨⟨dx,e⟩,ha,hb⟩:=h.ct
 obtain⟨dy,ey⟩:=h'.ct.ins
 refine⟨x _ _ h.t (U4 h.t ey (by intro z;cases z)) (U4 h.t h'.k (by intro z;cases z)),⟨⟨dx,x _ _ e nc (U4 e h'.k (by intro z;cases z))⟩,x _ _ ha (U4 ha ey (by intro z;cases z)) (U4 ha h'.k (by intro z;cases z)),x _ _ hb (U4 hb ey (by intro z;cases z)) (U4 hb h'.k (by intro z;cases z))⟩,x _ _ h.l (U4 h.l ey (by intro z;cases z)) (U4 h.l h'.k (by intro z;cases z)),x _ _ h.k (U4 h.k ey (by intro z;cases z)) nk,h.ok,h.st,h.nu,h.su⟩
structure Al(CN CC:Addr)(K:Frag)(sc:Addr)(ns:List Int)(lr lc lt lk ln lm:Addr)(t0 t1 c0 c1 l0 l1 k0 k1:Addr)(v0 v1:Cv)(tr0 tr1:List Str)(ts:List (Addr×Nm))(ms:List Addr)(us0 us1:List Str)(a0 b0 a1 b1:Addr)(H:Hp):Prop where
 scr:SqL K H sc (ns.map V.int)
 er:H lr=some (.lst [.ref t0,.ref t1])
 ec:H lc=some (.lst [.ref c0,.ref c1])
 et:H lt=some (.lst [.ref l0,.ref l1])
 ek:H lk=some (.lst [.ref k0,.ref k1])
 s0:Sd CC v0 us0 tr0 t0 c0 a0 b0 l0 k0 H
 s1:Sd CC v1 us1 tr1 t1 c1 a1 b1 l1 k1 H
 n01:c0≠c1
 k01:k0≠k1
 tu:A8s H ln ts
 l6:ts.length=5
 em:H lm=some (.lst (ms.map V.ref))
 m6:ms.length=5
 hm:∀(i:Nat) (n:Addr),ms[i]?=some n ->∃p:Addr×Nm,ts[i]?=some p/\Y8 CN H n p.2
 nc:∀n∈ms,n≠c0/\n≠c1
theorem Al.same{CN CC:Addr}{K:Frag}{sc:Addr}{ns:List Int}{lr lc lt lk ln lm:Addr}{t0 t1 c0 c1 l0 l1 k0 k1:Addr}{v0 v1:Cv}{tr0 tr1:List Str}{ts:List (Addr×Nm)}{ms:List Addr}{us0 us1:List Str}{a0 b0 a1 b1:Addr}{H H':Hp}(h:Al CN CC K sc ns lr lc lt lk ln lm t0 t1 c0 c1 l0 l1 k0 k1 v0 v1 tr0 tr1 ts ms us0 us1 a0 b0 a1 b1 H)(s:B5 H H'):Al CN CC K sc ns lr lc lt lk ln lm t0 t1 c0 c1 l0 l1 k0 k1 v0 v1 tr0 tr1 ts ms us0 us1 a0 b0 a1 b1 H':=
 ⟨s.seq h.scr,s _ _ h.er,s _ _ h.ec,s _ _ h.et,s _ _ h.ek,h.s0.same s,h.s1.same s,h.n01,h.k01,h.tu.same s,h.l6,s _ _ h.em,h.m6,fun i n hn=>by
   obtain⟨p,hp,q⟩:=h.hm i n hn
   exact⟨p,hp,q.same s⟩,h.nc⟩
section
variable{CN CC:Addr}{K:Frag}{sc:Addr}{ns:List Int}{lr lc lt lk ln lm:Addr}{t0 t1 c0 c1 l0 l1 k0 k1:Addr}{v0 v1:Cv}{tr0 tr1:List Str}{ts:List (Addr×Nm)}{ms:List Addr}{us0 us1:List Str}{a0 b0 a1 b1:Addr}{H:Hp}
theorem Al.pick{he:Int}(h:Al CN CC K sc ns lr lc lt lk ln lm t0 t1 c0 c1 l0 l1 k0 k1 v0 v1 tr0 tr1 ts ms us0 us1 a0 b0 a1 b1 H)(hh:he=0\/he=1):∃v us tr t c a b l kd,atI [V.ref t0,V.ref t1] he=some (.ref t)/\atI [V.ref c0,V.ref c1] he=some (.ref c)/\atI [V.ref l0,V.ref l1] he=some (.ref l)/\atI [V.ref k0,V.ref k1] he=some (.ref kd)/\Sd CC v us tr t c a b l kd H/\(∀n∈ms,n≠c)/\
   ∀us' a' b' H',A0f c kd H H' ->Sd CC v us' tr t c a' b' l kd H' ->∃us0' us1' a0' b0' a1' b1',Al CN CC K sc ns lr lc lt lk ln lm t0 t1 c0 c1 l0 l1 k0 k1 v0 v1 tr0 tr1 ts ms us0' us1' a0' b0' a1' b1' H':=by
 have rest:∀{c kd C0 d0:Addr} {F:List (Str×V)} {kv:List (Key×V)} {H':Hp},H c=some (.ins C0 d0 F) ->H kd=some (.dK kv) ->A0f c kd H H' ->(∀n∈ms,n≠c) ->SqL K H' sc (ns.map V.int)/\H' lr=some (.lst [.ref t0,.ref t1])/\H' lc=some (.lst [.ref c0,.ref c1])/\H' lt=some (.lst [.ref l0,.ref l1])/\H' lk=some (.lst [.ref k0,.ref k1])/\A8s H' ln ts/\H' lm=some (.lst (ms.map V.ref))/\∀(i:Nat) (n:Addr),ms[i]?=some n ->∃p:Addr×Nm,ts[i]?=some p/\Y8 CN H' n p.2:=fun{c kd C0 d0 F kv H'} ec ek x nm=>by
   have kp:∀{q:Addr} {o:HO},H q=some o ->(∀C0 d0 F,o≠ .ins C0 d0 F) ->(∀kv,o≠ .dK kv) ->H' q=some o:=fun{q o} e n1 n2=>x _ _ e (fun z=>by rw[z,ec] at e;exact n1 _ _ _ (Option.some.inj e).symm) (fun z=>by rw[z,ek] at e;exact n2 _ (Option.some.inj e).symm)
   have kl:∀{q:Addr} {xs:List V},H q=some (.lst xs) ->H' q=some (.lst xs):=fun e=>kp e (fun _ _ _ z=>by cases z) (fun _ z=>by cases z)
   refine⟨h.scr.kept fun o e hb=>kp e ?_ ?_,kl h.er,kl h.ec,kl h.et,kl h.ek,⟨kl h.tu.l,fun p hp=>⟨kp (h.tu.t p hp).1 (fun _ _ _ z=>by cases z) (fun _ z=>by cases z),(h.tu.t p hp).2⟩⟩,kl h.em,fun i n hn=>?_⟩
   . rcases hb with rfl|⟨oc,rfl⟩<;>exact fun _ _ _ z=>by cases z
   . rcases hb with rfl|⟨oc,rfl⟩<;>exact fun _ z=>by cases z
   . obtain⟨p,hp,dn,en⟩:=h.hm i n hn
     exact⟨p,hp,dn,x _ _ en (nm n (List.mem_of_getElem? hn)) (U4 en ek (by intro z;cases z))⟩
 rcases hh with rfl|rfl
 . have nm:∀n∈ms,n≠c0:=fun n hn=>(h.nc n hn).1
   refine⟨v0,us0,tr0,t0,c0,a0,b0,l0,k0,rfl,rfl,rfl,rfl,h.s0,nm,fun us' a' b' H' x s'=>?_⟩
   obtain⟨dx,e⟩:=h.s0.ct.ins
   obtain⟨r1,r2,r3,r4,r5,r6,r7,r8⟩:=rest e h.s0.k x nm
   exact⟨us',us1,a',b',a1,b1,r1,r2,r3,r4,r5,s',h.s1.exc h.s0 x h.n01.symm h.k01.symm,h.n01,h.k01,r6,h.l6,r7,h.m6,r8,h.nc⟩
 have nm:∀n∈ms,n≠c1:=fun n hn=>(h.nc n hn).2
 refine⟨v1,us1,tr1,t1,c1,a1,b1,l1,k1,rfl,rfl,rfl,rfl,h.s1,nm,fun us' a' b' H' x s'=>?_⟩
 obtain⟨dx,e⟩:=h.s1.ct.ins
 obtain⟨r1,r2,r3,r4,r5,r6,r7,r8⟩:=rest e h.s1.k x nm
 exact⟨us0,us',a0,b0,a',b',r1,r2,r3,r4,r5,h.s0.exc h.s1 x h.n01 h.k01,s',h.n01,h.k01,r6,h.l6,r7,h.m6,r8,h.nc⟩
end
noncomputable abbrev stL (sc:Addr) (x1 x2 x3 x4 x5 x6 x7 x8 x9 x10 x11 x12 x13 x14:Option V):L2.St:=[sr sc,x1,x2,x3,x4,x5,x6,x7,x8,x9,x10,x11,x12,x13,x14]
noncomputable def C2j (K:Frag):Sp:=fun vs H Q _=>∃a ns,vs=[.ref a]/\(ns:List Int).length<=63/\SqL K H a (ns.map V.int)/\∀H',Q (.bl true) H'
theorem scLaw:B8 ["_law_script","_law_rules_here","_law_contexts","_law_traps_here","_law_kept","_law_context","_law_names","_law_numbers","_law_made_here","_law_turn","_law_draw","_law_here","_law_one","_law_count","_law_due"] ["_law_script"] (A5 B5d):=scK
theorem G2k{f f1 f2 f3 f4 f5 f6 f7 f8 f9 f10 f11 f12 fI CC CN CB CB' CT CE':Addr}{fd fd1 fd2 fd3 fd4 fd5 fd6 fd7 fd8 fd9 fd10 fd11 fd12 fdI:FuncData}{A1:Addr}(D:Def K mg "law" ["_law_script"] B5d f fd)
   (dA:Def K mg "_law_cell_at" Q32 C2b f1 fd1) (dB:sI P w K mg base 1 f1 fd1 Q32 (C7r K))
   (dC:Def K mg "_law_mixed" Q7 A4q f2 fd2) (dD:sI P w K mg base 1 f2 fd2 Q7 B0a)
   (dE:Def K mg "_law_rules" ["_law_cell"] A7a f3 fd3) (dF:sI P w K mg base 2 f3 fd3 ["_law_cell"] B8r)
   (dG:Def K mg "_law_traps" ["_law_cell"] A9z f4 fd4) (dH:sI P w K mg base 2 f4 fd4 ["_law_cell"] B8y)
   (dJ:Def K mg "_law_made" Q8 B0p f5 fd5) (dL:sI P w K mg base 4 f5 fd5 Q8 (C2x CN))
   (dM:Def K mg "_law_right" Q43 B0f f6 fd6) (dN:sI P w K mg base 10 f6 fd6 Q43 (B8c CN CC))
   (gC:Def K mg "_law_refused" Q18 A7c f7 fd7) (gD:sI P w K mg base 10 f7 fd7 Q18 (B1v K CN))
   (dP:Def K mg "_law_is" Q17 D0s f8 fd8) (dQ:sI P w K mg base 3 f8 fd8 Q17 (C8r CN))
   (dS:Def K mg "_law_number" ["_law_cell"] A4r f9 fd9) (dU:sI P w K mg base 3 f9 fd9 ["_law_cell"] B4c)
   (dW:Def K mg "_law_small" Q8 A9r f10 fd10) (dX:sI P w K mg base 2 f10 fd10 Q8 B7v)
   (dY:Def K mg "_law_power" Q45 A9v f11 fd11) (dZ:sI P w K mg base 5 f11 fd11 Q45 B9d)
   (gA:Def K mg "_law_all_refused" Q47 A6x f12 fd12) (gB:sI P w K mg base 11 f12 fd12 Q47 (B4b CN))
   (MCm:Mk K CC fI) (MCg:sI P w K mg base 3 fI fdI Q21 (A5r K CC CB)) (b4:V9 K fdI Q21 []) (Cc:B2t K mg CC)
   (MF:Has P w K mg base CC "flags" 1 ["self"] (A3s CC)) (MP:Has P w K mg base CC "trap" 2 Q11 (B5w K CC CB)) (ME:Has P w K mg base CC "clear" 1 ["self"] (A6c CC)) (SG:C7b K mg A1) (O4:D9v K CN) (O:Own mg):sI P w K mg base 12 f fd ["_law_script"] (C2j K):=by
 refine D.F.okE scLaw (fun vs H Q E h=>?_) (fun X cdv A outer s H vs Q E hX hr hx h=>?_)
 . obtain⟨a,ns,rfl,_⟩:=h
   rfl
 subst hX
 obtain⟨sc,ns,rfl,n63,hS,kk⟩:=h
 obtain⟨ff,fdf,mf,gf,bf⟩:=MF
 obtain⟨fp,fdp,mp,gp,bp⟩:=MP
 obtain⟨fe,fde,me,ge,be⟩:=ME
 have hu:=hr.units
 have HU:=Nat.lt_of_le_of_lt (Nat.add_le_add_left (by decide:1<=64) _) hr.units
 refine⟨_,(A4 (A8 (A3e (i:=1) (N:=["_law_k"]) (F:=["_law_script"]) (js:=[0]) (D6.of1 ⟨rfl,by decide+kernel,by decide+kernel,by decide+kernel,by decide+kernel⟩ (by rfl) (by rfl) ⟨_,by rfl⟩ (by rfl) (by rfl)) (.inl hr.hd) rfl (A2b rfl O.range_ (A0 A2 A3)) rfl (fun C s₀ H₀ ex pn h=>D0 (i:=0) (by decide+kernel:(Q49:List Str).Nodup) rfl (Or.inl rfl)) (fun C s₀ H₀ ex pn h=>(A2x dE dF hr (A0 (A9 U7 (A2x dA dB hr (A0 (pv 1) (A0 (pv 0) A3))) (A9 U2 A2 (pv 0))) A3))) scLaw.nd rfl (Or.inl rfl))) (A4 (A8 (A3e (i:=2) (N:=Q48) (F:=[]) (js:=[]) (D6.of0 ⟨rfl,by decide+kernel,by decide+kernel,by decide+kernel,by decide+kernel⟩ (by rfl)) (.inl hr.hd) rfl (B6b (pv 1)) rfl (fun C s₀ H₀ ex pn h=>B5u (K:=K) (n:=4) rfl h (D4 (D0 (i:=0) (by decide+kernel:(Q48:List Str).Nodup) rfl (Or.inl rfl)) (D4 (D0 (i:=1) (by decide+kernel:(Q48:List Str).Nodup) rfl (Or.inl rfl)) (D4 (D0 (i:=2) (by decide+kernel:(Q48:List Str).Nodup) rfl (Or.inl rfl)) (D4 (D0 (i:=3) (by decide+kernel:(Q48:List Str).Nodup) rfl (Or.inl rfl)) Z0))))) (fun C s₀ H₀ ex pn h=>(G1n MCm MCg hr Cc.g b4 .nil (A0 (pv 0) (A0 (pv 1) (A0 (pv 2) (A0 (pv 3) A3)))))) scLaw.nd rfl (Or.inl rfl))) (A4 (A8 (A3e (i:=3) (N:=["_law_k"]) (F:=["_law_script"]) (js:=[0]) (D6.of1 ⟨rfl,by decide+kernel,by decide+kernel,by decide+kernel,by decide+kernel⟩ (by rfl) (by rfl) ⟨_,by rfl⟩ (by rfl) (by rfl)) (.inl hr.hd) rfl (A2b rfl O.range_ (A0 A2 A3)) rfl (fun C s₀ H₀ ex pn h=>D0 (i:=0) (by decide+kernel:(Q49:List Str).Nodup) rfl (Or.inl rfl)) (fun C s₀ H₀ ex pn h=>(A2x dG dH hr (A0 (A9 G9 (A2x dA dB hr (A0 (pv 1) (A0 (pv 0) A3))) A2) A3))) scLaw.nd rfl (Or.inl rfl))) (A4 (A8 (D5 (i:=4) scLaw.nd rfl (Or.inr rfl) (J9 (A0 B0u (A0 B0u A3))))) (A4 (A8 (B0s PassesOwn.leaving rfl (D0f rfl O.zip_ (A0 (pv 2) (A0 (pv 3) A3))) (A0x rfl (D4 (D0 (i:=5) scLaw.nd rfl (Or.inl rfl)) (D4 (D0 (i:=6) scLaw.nd rfl (Or.inl rfl)) Z0))) (A7 (A8 (Y6 (G8f (pv 5) Cc.cl mp gp hr bp .nil hx (A0 (V5 A3u (by rfl) O.list_ boot_list (A0 (pv 6) A3)) A3))))))) (A4 (A8 (A3e (i:=7) (N:=["_law_k"]) (F:=["_law_script"]) (js:=[0]) (D6.of1 ⟨rfl,by decide+kernel,by decide+kernel,by decide+kernel,by decide+kernel⟩ (by rfl) (by rfl) ⟨_,by rfl⟩ (by rfl) (by rfl)) (.inl hr.hd) rfl (A2b rfl O.range_ (A0 A2 A3)) rfl (fun C s₀ H₀ ex pn h=>D0 (i:=0) (by decide+kernel:(Q49:List Str).Nodup) rfl (Or.inl rfl)) (fun C s₀ H₀ ex pn h=>(A2x dW dX hr (A0 (A2x dS dU hr (A0 (A9 U7 (A2x dA dB hr (A0 (pv 1) (A0 (A9 U7 A2 (pv 0)) A3))) (A9 U2 A2 (pv 0))) A3)) A3))) scLaw.nd rfl (Or.inl rfl))) (A4 (A8 (A3e (i:=8) (N:=Q8) (F:=[]) (js:=[]) (D6.of0 ⟨rfl,by decide+kernel,by decide+kernel,by decide+kernel,by decide+kernel⟩ (by rfl)) (.inl hr.hd) rfl (B6b (pv 7)) rfl (fun C s₀ H₀ ex pn h=>D0 (i:=0) (by decide+kernel:(Q8:List Str).Nodup) rfl (Or.inl rfl)) (fun C s₀ H₀ ex pn h=>(A2x dJ dL hr (A0 (pv 0) A3))) scLaw.nd rfl (Or.inl rfl))) (A4 (A8 (B0s PassesOwn.leaving rfl (A2b rfl O.range_ (A0 A2 A3)) (D0 (i:=9) scLaw.nd rfl (Or.inl rfl)) (A4 (A8 (D5 (i:=10) scLaw.nd rfl (Or.inl rfl) (A9 G9 (V0 dC dD hr hx (A0 (V0 dA dB hr hx (A0 (pv 0) (A0 (A9 U7 A2 (pv 9)) A3))) (A0 (A9 U7 (pv 9) A2) A3))) A2))) (A4 (A8 (D5 (i:=11) scLaw.nd rfl (Or.inr rfl) (A9 U3 (pv 10) A2))) (A4 (A8 (D5 (i:=12) scLaw.nd rfl (Or.inl rfl) (A9 U3 (A9 G9 (pv 10) A2) A2))) (A4 (A8 (D5 (i:=13) scLaw.nd rfl (Or.inl rfl) (V8 V2 (J9 (A0 (A9 V3 (A9 U3 (A9 G9 (pv 10) A2) A2) A2) (A0 (A9 V3 (A9 U3 (A9 G9 (pv 10) A2) A2) A2) A3))) (A9 G9 (A9 U3 (A9 G9 (pv 10) A2) A2) A2) (fun _ _=>rfl)))) (A4 (A8 (D5 (i:=14) scLaw.nd rfl (Or.inl rfl) (V0 dY dZ hr hx (A0 (V8 V2 (pv 1) (pv 11) (fun _ _=>rfl)) (A0 (V8 V2 (pv 7) (pv 12) (fun _ _=>rfl)) (A0 (pv 13) A3)))))) (A4 (A8 (U0 (A1a (Z5 (V0 dM dN hr hx (A0 (pv 14) (A0 (V8 V2 (pv 3) (pv 11) (fun _ _=>rfl)) (A0 (V8 V2 (pv 4) (pv 11) (fun _ _=>rfl)) (A0 (V8 V2 (pv 2) (pv 11) (fun _ _=>rfl)) (A0 A2 (A0 (J9 (A0 (V8 V2 (pv 8) (pv 12) (fun _ _=>rfl)) (A0 (pv 13) A3))) A3))))))))) (A7 (B7 A0v)) D7)) (A4 (A8 (U0 (C8 G4 (A9 U3 (A9 G9 (pv 10) A2) A2) A2 (B9 _)) (A4 (A8 (Y6 (C0n (V8 V2 (pv 2) (pv 11) (fun _ _=>rfl)) Cc.cl me ge hr be .nil hx))) (A7 (A8 (Y6 (D0r PySem.F.plainAttrs_dict PySem.F.slot_dict_clear PySem.F.type_dict_clear C5u (V8 V2 (pv 4) (pv 11) (fun _ _=>rfl))))))) (A7 (A8 (U0 (PW.pt (A2y (C8 G4 (A9 U3 (A9 G9 (pv 10) A2) A2) A2 (B9 _)) (A1n (A1a (Z5 (V0 gA gB hr hx (A0 (V8 V2 (pv 2) (pv 11) (fun _ _=>rfl)) (A0 (V8 V2 (pv 8) (pv 12) (fun _ _=>rfl)) (A0 (A9 G9 (pv 10) A2) A3))))))))) (A7 (B7 A0v)) D7))))) (A7 (A8 (U0 (C8 (C0w hr.units) (C0n (V8 V2 (pv 2) (A9 V3 A2 (pv 11)) (fun _ _=>rfl)) Cc.cl mf gf hr bf .nil hx) (B7k (N:=["_law_signal"]) (F:=["_law_kept","_law_here"]) (js:=[4,11]) (D6.of2 ⟨rfl,by decide+kernel,by decide+kernel,by decide+kernel,by decide+kernel⟩ (by rfl) (by rfl) ⟨_,by rfl⟩ (by rfl) (by rfl) (by rfl) ⟨_,by rfl⟩ (by rfl) (by rfl)) (.inl hr.hd) rfl (G3n (A4a SG.g)) rfl (fun C s₀ H₀ ex pn h=>D0 (i:=0) (by decide+kernel:(["_law_signal","_law_kept","_law_here"]:List Str).Nodup) rfl (Or.inl rfl)) (fun C s₀ H₀ ex pn h=>(C7y (C9m HU (pv 0) (V8 (B7r (K:=K) rfl) (pv 1) (A9 V3 A2 (pv 2)) (fun _ _=>rfl))))) (fun C s₀ H₀ ex pn h=>(pv 0))) (B9 _)) (A7 (B7 A0v)) D7)))))))))))) (A7 (B7 (U8 (B9a hr.hd) (by rfl) O.all_ boot_all (A0 (C4m (N:=Q50) (F:=[]) (js:=[]) (D6.of0 ⟨rfl,by decide+kernel,by decide+kernel,by decide+kernel,by decide+kernel⟩ (by rfl)) (.inl hr.hd) rfl (D0f rfl O.zip_ (A0 (pv 8) (A0 (pv 7) A3))) rfl (fun C s₀ H₀ ex pn h=>B5u (K:=K) (n:=2) rfl h (D4 (D0 (i:=0) (by decide+kernel:(Q50:List Str).Nodup) rfl (Or.inl rfl)) (D4 (D0 (i:=1) (by decide+kernel:(Q50:List Str).Nodup) rfl (Or.inl rfl)) Z0))) (fun C s₀ H₀ ex pn h=>(A2x dP dQ hr (A0 (pv 0) (A0 (pv 1) A3))))) A3)))))))))))),?_⟩
 have z2:2<=sizeLine:=D3 (by decide)
 let I_:L2.St ->L2.Hp ->Prop:=fun σ' H'=>∃lr t0 t1 v0 v1,B5 H H'/\H' lr=some (.lst [.ref t0,.ref t1])/\H' t0=some (.tup (Cv.tup v0))/\H' t1=some (.tup (Cv.tup v1))/\v0.Ok/\v1.Ok/\σ'=stL sc (some (.ref lr)) none none none none none none none none none none none none none
 refine⟨I_,?_,?_⟩
 . refine⟨2,rfl,by decide,by decide,A3c (J:=Itr 0 2) (n:=2) (fun _ y H'=>∃(t:Addr) (v:Cv),y= .ref t/\H' t=some (.tup v.tup)/\v.Ok) (by decide) (fun i y H1 H2 D l h hD e=>?_) (fun i H2 Qy hi sm hy=>⟨hi,fun x H3 yl=>?_⟩) (fun H2 sm=>Nat.le_refl 2) (fun D H' ys sm nD eD hlen hR=>?_)⟩
   . obtain⟨t,v,rfl,hp,ok⟩:=h
     exact⟨t,v,rfl,e _ _ hp (U4 hp hD (by intro z;cases z)),ok⟩
   . obtain⟨rfl,rfl⟩:=yl
     exact⟨_,rfl,_,rfl,sc,ns,_,rfl,sm.seq hS,by omega,fun c=>⟨_,rfl,_,_,rfl,rfl,A2a.ok (.inl ⟨by decide,by decide⟩),_,_,rfl,rfl,_,rfl,fun v t H' ok s' e=>hy _ _ s' ⟨t,v,rfl,e,ok⟩⟩⟩
   . match ys,hlen with
     | [y0,y1],_=>
       obtain⟨t0,v0,rfl,e0,ok0⟩:=hR 0 y0 rfl
       obtain⟨t1,v1,rfl,e1,ok1⟩:=hR 1 y1 rfl
       exact⟨D,t0,t1,v0,v1,sm,eD,e0,e1,ok0,ok1,rfl⟩
 refine L2.hideG fun Z_ z_=>?_
 rintro σ' H1 ⟨lr,t0,t1,v0,v1,s1,elr,et0,et1,ok0,ok1,rfl⟩
 subst z_
 clear I_
 let I_:L2.St ->L2.Hp ->Prop:=fun σ' H'=>∃lc c0 c1 a0 b0 a1 b1,B5 H1 H'/\H' lc=some (.lst [.ref c0,.ref c1])/\Z7 CC H' c0 v0 a0 b0 [] []/\Z7 CC H' c1 v1 a1 b1 [] []/\c0≠c1/\σ'=stL sc (some (.ref lr)) (some (.ref lc)) none none none none none none none none none none none none
 refine⟨I_,?_,?_⟩
 . refine⟨_,rfl,lr,rfl,⟨_,SqL.of elr⟩,C9g fun D hD=>?_⟩
   have u0:=B5.upd (o:= .lst []) hD
   refine⟨⟨_,_,SqL.of (u0 _ _ elr),rfl⟩,fun x H3 yl=>?_⟩
   obtain⟨rfl,yl⟩:=yl
   obtain rfl:=Option.some.inj ((yl _ (SqL.of (u0 _ _ elr))).symm.trans (show([V.ref t0,V.ref t1]:List V)[0]?=some (.ref t0) from rfl))
   refine⟨t0,_,rfl,SqT.of (u0 _ _ et0),rfl,_,_,rfl,_,_,rfl,_,_,rfl,_,_,rfl,rfl,_,rfl,_,rfl,_,rfl,_,rfl,fun c0 dx n1 n2 ne=>C9v n1 n2 ne rfl ok0.r1 ok0.r2 rfl (.inr ⟨rfl,ok0.l1,ok0.l2⟩) rfl ok0.m1 ok0.m2 fun a0 b0 H4 s4 na nb ct=>⟨rfl,s4 _ _ A6,D3 (by decide),?_⟩⟩
   have nD:∀{b:Addr},upd H1 D (.lst []) b=none ->b≠D:=fun{b} e z=>by rw[z,A6] at e;cases e
   have g1:B5 H1 (upd H4 D (.lst [.ref c0])):=fun b o e=>by
     rw[C9 (D8 e hD)]
     exact s4 _ _ (u0 _ _ e)
   have ct1:Z7 CC (upd H4 D (.lst [.ref c0])) c0 v0 a0 b0 [] []:=by
     obtain⟨⟨d1,z1⟩,z2,z3⟩:=ct
     exact⟨⟨d1,by rw[C9 (nD n1)];exact z1⟩,by rw[C9 (nD na)];exact z2,by rw[C9 (nD nb)];exact z3⟩
   have e1D:upd H4 D (.lst [.ref c0]) D=some (.lst [.ref c0]):=A6
   generalize upd H4 D (.lst [.ref c0])=G1 at g1 ct1 e1D
   refine⟨e1D,⟨_,_,SqL.of (g1 _ _ elr),rfl⟩,fun x H3 yl=>?_⟩
   obtain⟨rfl,yl⟩:=yl
   obtain rfl:=Option.some.inj ((yl _ (SqL.of (g1 _ _ elr))).symm.trans (show([V.ref t0,V.ref t1]:List V)[1]?=some (.ref t1) from rfl))
   refine⟨t1,_,rfl,SqT.of (g1 _ _ et1),rfl,_,_,rfl,_,_,rfl,_,_,rfl,_,_,rfl,rfl,_,rfl,_,rfl,_,rfl,_,rfl,fun c1 dx' n1' n2' ne'=>C9v n1' n2' ne' rfl ok1.r1 ok1.r2 rfl (.inr ⟨rfl,ok1.l1,ok1.l2⟩) rfl ok1.m1 ok1.m2 fun a1 b1 H5 s5 na' nb' ct'=>⟨rfl,s5 _ _ e1D,D3 (by decide),?_⟩⟩
   have nD':∀{b:Addr},H3 b=none ->b≠D:=fun{b} e z=>by rw[z,e1D] at e;cases e
   have g2:B5 H1 (upd H5 D (.lst [.ref c0,.ref c1])):=fun b o e=>by
     rw[C9 (D8 e hD)]
     exact s5 _ _ (g1 _ _ e)
   obtain⟨⟨d1,y1⟩,y2,y3⟩:=ct1
   have q0:c0≠D:=nD n1
   refine⟨A6,⟨_,SqL.of (g2 _ _ elr),Nat.le_refl 2⟩,D,c0,c1,a0,b0,a1,b1,g2,A6,⟨⟨d1,by rw[C9 q0];exact s5 _ _ y1⟩,by rw[C9 (nD na)];exact s5 _ _ y2,by rw[C9 (nD nb)];exact s5 _ _ y3⟩,?_,(fun z=>by rw[<-z,y1] at n1';cases n1'),rfl⟩
   obtain⟨⟨d2,w1⟩,w2,w3⟩:=ct'
   exact⟨⟨d2,by rw[C9 (nD' n1')];exact w1⟩,by rw[C9 (nD' na')];exact w2,by rw[C9 (nD' nb')];exact w3⟩
 refine L2.hideG fun Z_ z_=>?_
 rintro σ' H2 ⟨lc,c0,c1,a0,b0,a1,b1,s2,elc,ct0,ct1,n01,rfl⟩
 subst z_
 clear I_
 have et0:=s2 _ _ et0
 have et1:=s2 _ _ et1
 have elr:=s2 _ _ elr
 have s2:=s1.trans s2
 let I_:L2.St ->L2.Hp ->Prop:=fun σ' H'=>∃lt l0 l1 tr0 tr1,B5 H2 H'/\H' lt=some (.lst [.ref l0,.ref l1])/\H' l0=some (.lst (tr0.map V.str))/\H' l1=some (.lst (tr1.map V.str))/\B3e tr0/\B3e tr1/\σ'=stL sc (some (.ref lr)) (some (.ref lc)) (some (.ref lt)) none none none none none none none none none none none
 refine⟨I_,?_,?_⟩
 . refine⟨2,rfl,by decide,by decide,C9g fun D hD=>?_⟩
   have u0:=B5.upd (o:= .lst []) hD
   refine⟨(by decide:0<2),fun x H3 yl=>?_⟩
   obtain⟨rfl,rfl⟩:=yl
   refine⟨_,rfl,_,rfl,sc,ns,_,rfl,(s2.trans u0).seq hS,by omega,fun ce=>⟨_,_,rfl,rfl,⟨by decide,by decide+kernel⟩,_,rfl,fun tr0 l0 H4 st0 s4 nl e4=>⟨s4 _ _ A6,D3 (by decide),?_⟩⟩⟩
   have nD:l0≠D:=fun z=>by rw[z,A6] at nl;cases nl
   have g1:B5 H2 (upd H4 D (.lst [.ref l0])):=fun b o e=>by
     rw[C9 (D8 e hD)]
     exact s4 _ _ (u0 _ _ e)
   have e1:upd H4 D (.lst [.ref l0]) l0=some (.lst (tr0.map V.str)):=by rw[C9 nD];exact e4
   have e1D:upd H4 D (.lst [.ref l0]) D=some (.lst [.ref l0]):=A6
   generalize upd H4 D (.lst [.ref l0])=G1 at g1 e1 e1D
   refine⟨e1D,(by decide:1<2),fun x H3 yl=>?_⟩
   obtain⟨rfl,rfl⟩:=yl
   refine⟨_,rfl,_,rfl,sc,ns,_,rfl,(s2.trans g1).seq hS,by omega,fun ce=>⟨_,_,rfl,rfl,⟨by decide,by decide+kernel⟩,_,rfl,fun tr1 l1 H5 st1 s5 nl1 e5=>⟨s5 _ _ e1D,D3 (by decide),?_⟩⟩⟩
   have nD1:l1≠D:=fun z=>by rw[z,e1D] at nl1;cases nl1
   have g2:B5 H2 (upd H5 D (.lst [.ref l0,.ref l1])):=fun b o e=>by
     rw[C9 (D8 e hD)]
     exact s5 _ _ (g1 _ _ e)
   exact⟨A6,Nat.le_refl 2,D,l0,l1,tr0,tr1,g2,A6,by rw[C9 nD];exact s5 _ _ e1,by rw[C9 nD1];exact e5,st0,st1,rfl⟩
 refine L2.hideG fun Z_ z_=>?_
 rintro σ' H3 ⟨lt,l0,l1,tr0,tr1,s3,elt,el0,el1,st0,st1,rfl⟩
 subst z_
 clear I_
 let I_:L2.St ->L2.Hp ->Prop:=fun σ' H'=>∃lk k0 k1,B5 H3 H'/\H' lk=some (.lst [.ref k0,.ref k1])/\H' k0=some (.dK [])/\H' k1=some (.dK [])/\k0≠k1/\σ'=stL sc (some (.ref lr)) (some (.ref lc)) (some (.ref lt)) (some (.ref lk)) none none none none none none none none none none
 refine⟨I_,?_,?_⟩
 . intro k0 n0 k1 n1
   have u0:=B5.upd (o:= .dK []) n0
   have u1:=B5.upd (o:= .dK []) n1
   refine⟨z2,fun lk nl=>?_⟩
   have u2:=B5.upd (o:= .lst [.ref k0,.ref k1]) nl
   exact⟨lk,k0,k1,u0.trans (u1.trans u2),A6,(u1.trans u2) _ _ A6,u2 _ _ A6,(fun z=>by rw[<-z,A6] at n1;cases n1),rfl⟩
 refine L2.hideG fun Z_ z_=>?_
 rintro σ' H4 ⟨lk,k0,k1,s4,elk,ek0,ek1,nk,rfl⟩
 subst z_
 clear I_
 have s34:=s3.trans s4
 have ct0:=ct0.same s34
 have ct1:=ct1.same s34
 have elc:=s34 _ _ elc
 have elt:=s4 _ _ elt
 have el0:=s4 _ _ el0
 have el1:=s4 _ _ el1
 have elr:=s34 _ _ elr
 have et0:=s34 _ _ et0
 have et1:=s34 _ _ et1
 have hS4:=(s2.trans s34).seq hS
 clear s34 s4 s3 s2 s1
 let I_:L2.St ->L2.Hp ->Prop:=fun σ' H'=>∃b0 b1 v5 v6,A0f c0 c1 H4 H'/\Z7 CC H' c0 v0 a0 b0 [] tr0/\Z7 CC H' c1 v1 a1 b1 [] tr1/\σ'=stL sc (some (.ref lr)) (some (.ref lc)) (some (.ref lt)) (some (.ref lk)) v5 v6 none none none none none none none none
 refine⟨I_,?_,?_⟩
 . refine⟨_,rfl,_,rfl,lc,lt,rfl,⟨_,SqL.of elc⟩,⟨_,SqL.of elt⟩,D8u (J:=Itz K lc lt) (n:=2) (fun i σ' H'=>∃b0 b1 v5 v6,A0f c0 c1 H4 H'/\Z7 CC H' c0 v0 a0 b0 [] (if 0<i then tr0 else [])/\Z7 CC H' c1 v1 a1 b1 [] (if 1<i then tr1 else [])/\σ'=stL sc (some (.ref lr)) (some (.ref lc)) (some (.ref lt)) (some (.ref lk)) v5 v6 none none none none none none none none) ⟨b0,b1,none,none,A0f.s (B5.refl _),ct0,ct1,rfl⟩ ?_ ?_⟩
   . rintro i σ' H' hi ⟨b0,b1,v5,v6,x',q0,q1,rfl⟩
     obtain⟨dc0,ec0⟩:=ct0.ins
     obtain⟨dc1,ec1⟩:=ct1.ins
     have kp:∀{q:Addr} {o:HO},H4 q=some o ->(∀C0 d0 F,o≠ .ins C0 d0 F) ->H' q=some o:=fun{q o} e no=>x' _ _ e (fun z=>by rw[z,ec0] at e;exact no _ _ _ (Option.some.inj e).symm) (fun z=>by rw[z,ec1] at e;exact no _ _ _ (Option.some.inj e).symm)
     have elc':=kp elc (fun _ _ _ z=>by cases z)
     have elt':=kp elt (fun _ _ _ z=>by cases z)
     have el0':=kp el0 (fun _ _ _ z=>by cases z)
     have el1':=kp el1 (fun _ _ _ z=>by cases z)
     rcases(by omega:i=0\/i=1) with rfl|rfl
     . refine⟨⟨_,_,_,_,SqL.of elc',SqL.of elt',rfl,rfl⟩,fun x H6 yl=>?_⟩
       obtain⟨t,u,w',rfl,nt,rfl,hu,hv⟩:=yl
       obtain rfl:u= .ref c0:=Option.some.inj ((hu _ (SqL.of elc')).symm.trans rfl)
       obtain rfl:w'= .ref l0:=Option.some.inj ((hv _ (SqL.of elt')).symm.trans rfl)
       have u1:=B5.upd (o:= .tup [.ref c0,.ref l0]) nt
       have q0':=q0.same u1
       obtain⟨dd,ed⟩:=q0'.ins
       refine⟨t,_,rfl,SqT.of A6,rfl,_,_,rfl,_,_,rfl,rfl,?_⟩
       refine⟨_,?_,fun _ _ h=>h⟩
       refine⟨_,rfl,c0,dd,_,rfl,ed,A2t _ _ _ _ _ _,_,rfl,l0,_,rfl,.inl (SqL.of (u1 _ _ el0')),fun ll nl=>?_⟩
       have u2:=B5.upd (o:= .lst (tr0.map V.str)) nl
       refine⟨c0,v0.r,v0.y,v0.l,v0.m,a0,b0,_,_,_,rfl,q0'.same u2,.inl ⟨ll,tr0,rfl,A6,st0.mem,fun b' H'' x'' _ ct''=>?_⟩⟩
       rw[B0q st0 (fun z=>Iff.rfl)] at ct''
       refine⟨b',b1,_,_,x'.trans ((A0f.s (u1.trans u2)).trans (A0f.l x'')),ct'',?_,rfl⟩
       exact A0e.exc1 (q1.same (u1.trans u2)) x'' n01.symm ((q0.same (u1.trans u2)).ins)
     . refine⟨⟨_,_,_,_,SqL.of elc',SqL.of elt',rfl,rfl⟩,fun x H6 yl=>?_⟩
       obtain⟨t,u,w',rfl,nt,rfl,hu,hv⟩:=yl
       obtain rfl:u= .ref c1:=Option.some.inj ((hu _ (SqL.of elc')).symm.trans rfl)
       obtain rfl:w'= .ref l1:=Option.some.inj ((hv _ (SqL.of elt')).symm.trans rfl)
       have u1:=B5.upd (o:= .tup [.ref c1,.ref l1]) nt
       have q1':=q1.same u1
       obtain⟨dd,ed⟩:=q1'.ins
       refine⟨t,_,rfl,SqT.of A6,rfl,_,_,rfl,_,_,rfl,rfl,?_⟩
       refine⟨_,?_,fun _ _ h=>h⟩
       refine⟨_,rfl,c1,dd,_,rfl,ed,A2t _ _ _ _ _ _,_,rfl,l1,_,rfl,.inl (SqL.of (u1 _ _ el1')),fun ll nl=>?_⟩
       have u2:=B5.upd (o:= .lst (tr1.map V.str)) nl
       refine⟨c1,v1.r,v1.y,v1.l,v1.m,a1,b1,_,_,_,rfl,q1'.same u2,.inl ⟨ll,tr1,rfl,A6,st1.mem,fun b' H'' x'' _ ct''=>?_⟩⟩
       rw[B0q st1 (fun z=>Iff.rfl)] at ct''
       refine⟨b0,b',_,_,x'.trans ((A0f.s (u1.trans u2)).trans (A0f.r x'')),?_,ct'',rfl⟩
       exact A0e.exc1 (q0.same (u1.trans u2)) x'' n01 ((q1.same (u1.trans u2)).ins)
   . rintro σ' H' ⟨b0,b1,v5,v6,x',q0,q1,rfl⟩
     obtain⟨dc0,ec0⟩:=ct0.ins
     obtain⟨dc1,ec1⟩:=ct1.ins
     have elc':=x' _ _ elc (U4 elc ec0 (by intro z;cases z)) (U4 elc ec1 (by intro z;cases z))
     have elt':=x' _ _ elt (U4 elt ec0 (by intro z;cases z)) (U4 elt ec1 (by intro z;cases z))
     exact⟨⟨_,_,SqL.of elc',SqL.of elt',.inr (Nat.le_refl 2)⟩,b0,b1,v5,v6,x',q0,q1,rfl⟩
 have ct0':=ct0
 have ct1':=ct1
 refine L2.hideG fun Z_ z_=>?_
 rintro σ' H5 ⟨b0,b1,v5,v6,x5,ct0,ct1,rfl⟩
 subst z_
 clear I_
 obtain⟨dc0,ec0⟩:=(id ct0:Z7 CC H5 c0 v0 a0 b0 [] tr0).ins
 obtain⟨dc1,ec1⟩:=(id ct1:Z7 CC H5 c1 v1 a1 b1 [] tr1).ins
 have x5k:∀{q:Addr} {o:HO},H4 q=some o ->(∀C0 d0 F,o≠ .ins C0 d0 F) ->H5 q=some o:=fun{q o} e no=>by
   by_cases h0:q=c0
   . obtain⟨dz,ez⟩:=ct0'.ins
     rw[h0,ez] at e
     exact absurd (Option.some.inj e).symm (no _ _ _)
   . by_cases h1:q=c1
     . obtain⟨dz,ez⟩:=ct1'.ins
       rw[h1,ez] at e
       exact absurd (Option.some.inj e).symm (no _ _ _)
     . exact x5 _ _ e h0 h1
 have hS5:SqL K H5 sc (ns.map V.int):=hS4.kept fun o e hb=>x5k e (by rcases hb with rfl|⟨oc,rfl⟩<;>exact fun _ _ _ z=>by cases z)
 let I_:L2.St ->L2.Hp ->Prop:=fun σ' H'=>∃ln ts,ts.length=5/\(∀p∈ts,p.2.Sm)/\B5 H5 H'/\A8s H' ln ts/\σ'=stL sc (some (.ref lr)) (some (.ref lc)) (some (.ref lt)) (some (.ref lk)) v5 v6 (some (.ref ln)) none none none none none none none
 refine⟨I_,?_,?_⟩
 . refine⟨5,rfl,by decide,by decide,A3c (J:=Itr 0 5) (n:=5) (fun _ y H'=>∃p:Addr×Nm,y= .ref p.1/\H' p.1=some (.tup p.2.vs)/\p.2.Wf/\p.2.Sm) (by decide) (fun i y H1 H2 D l h hD e=>?_) (fun i H2 Qy hi sm hy=>⟨hi,fun x H3 yl=>?_⟩) (fun H2 sm=>Nat.le_refl 5) (fun D H' ys sm nD eD hlen hR=>?_)⟩
   . obtain⟨p,rfl,hp,wf⟩:=h
     exact⟨p,rfl,e _ _ hp (U4 hp hD (by intro z;cases z)),wf⟩
   . obtain⟨rfl,rfl⟩:=yl
     refine⟨_,rfl,_,rfl,_,_,rfl,rfl,sc,ns,_,rfl,sm.seq hS5,by omega,fun c=>⟨_,rfl,_,_,rfl,rfl,A2a.ok (.inl ⟨by decide,by decide⟩),_,_,rfl,rfl,_,rfl,fun x t H' wf s' e=>⟨t,x,rfl,e,wf,fun t2 H9 s9 e9=>hy _ _ (s'.trans s9) ⟨(t2,smN x),rfl,e9,G8q wf⟩⟩⟩⟩
   . obtain⟨ts,rfl,hts⟩:=C2n (f:=fun p:Addr×Nm=>V.ref p.1) (R:=fun p=>H' p.1=some (.tup p.2.vs)/\p.2.Wf/\p.2.Sm) hR
     exact⟨D,ts,by simpa using hlen,fun p hp=>(hts p hp).2.2,sm,⟨eD,fun p hp=>⟨(hts p hp).1,(hts p hp).2.1⟩⟩,rfl⟩
 refine L2.hideG fun Z_ z_=>?_
 rintro σ' H6 ⟨ln,ts,l6,hsm,s6,tu,rfl⟩
 subst z_
 clear I_
 let I_:L2.St ->L2.Hp ->Prop:=fun σ' H'=>∃lm,∃ms:List Addr,B5 H6 H'/\H' lm=some (.lst (ms.map V.ref))/\ms.length=5/\(∀(i:Nat) (n:Addr),ms[i]?=some n ->∃p:Addr×Nm,ts[i]?=some p/\Y8 CN H' n p.2/\H6 n=none)/\σ'=stL sc (some (.ref lr)) (some (.ref lc)) (some (.ref lt)) (some (.ref lk)) v5 v6 (some (.ref ln)) (some (.ref lm)) none none none none none none
 refine⟨I_,?_,?_⟩
 . refine⟨_,rfl,ln,rfl,⟨_,SqL.of tu.l⟩,A3c (J:=Itl K ln) (n:=5) (fun i y H'=>∃p:Addr×Nm,ts[i]?=some p/\∃n:Addr,y= .ref n/\Y8 CN H' n p.2/\H6 n=none) (by decide) (fun i y H1 H2 D l h hD e=>?_) (fun i H3 Qy hi sm hy=>?_) (fun H3 sm=>⟨_,SqL.of (sm _ _ tu.l),by rw[List.length_map,l6];exact Nat.le_refl 5⟩) (fun D H' ys sm nD eD hlen hR=>?_)⟩
   . obtain⟨p,hp,n,rfl,⟨dn,hn⟩,nn⟩:=h
     exact⟨p,hp,n,rfl,⟨dn,e _ _ hn (U4 hn hD (by intro z;cases z))⟩,nn⟩
   . have hi6:i<ts.length:=by rw[l6];exact hi
     have ep:ts[i]?=some ts[i]:=List.getElem?_eq_getElem hi6
     have ev:(ts.map fun p=>V.ref p.1)[i]?=some (.ref ts[i].1):=by rw[List.getElem?_map,ep];rfl
     refine⟨⟨_,_,SqL.of (sm _ _ tu.l),ev⟩,fun x H4 yl=>?_⟩
     obtain⟨rfl,yl⟩:=yl
     obtain rfl:=Option.some.inj ((yl _ (SqL.of (sm _ _ tu.l))).symm.trans ev)
     obtain⟨et,wt⟩:=tu.t ts[i] (List.getElem_mem hi6)
     exact⟨_,rfl,ts[i].1,ts[i].2,rfl,sm _ _ et,wt,fun n H' nn s' hn=>hy _ _ s' ⟨ts[i],ep,n,rfl,hn,sm.free nn⟩⟩
   . obtain⟨ms,em⟩:=C2h fun i y hy=>by
       obtain⟨p,hp,n,e,_⟩:=hR i y hy
       exact⟨n,e⟩
     subst em
     rw[List.length_map] at hlen
     refine⟨D,ms,sm,eD,hlen,fun i n hn=>?_,rfl⟩
     obtain⟨p,hp,n',e,num,nn⟩:=hR i (.ref n) (by rw[List.getElem?_map,hn];rfl)
     obtain rfl:=V.ref.inj e
     exact⟨p,hp,num,nn⟩
 refine L2.hideG fun Z_ z_=>?_
 rintro σ' H7 ⟨lm,ms,s7,elm,l6m,hm,rfl⟩
 subst z_
 clear I_
 have h7:Al CN CC K sc ns lr lc lt lk ln lm t0 t1 c0 c1 l0 l1 k0 k1 v0 v1 tr0 tr1 ts ms [] [] a0 b0 a1 b1 H7:=by
   have s67:=s6.trans s7
   have nn:∀n∈ms,H6 n=none:=fun n hn=>by
     obtain⟨i,hi⟩:=List.mem_iff_getElem?.mp hn
     obtain⟨_,_,_,q⟩:=hm i n hi
     exact q
   refine⟨s67.seq hS5,s67 _ _ (x5k elr fun _ _ _ z=>by cases z),s67 _ _ (x5k elc fun _ _ _ z=>by cases z),s67 _ _ (x5k elt fun _ _ _ z=>by cases z),s67 _ _ (x5k elk fun _ _ _ z=>by cases z),?_,?_,n01,nk,tu.same s7,l6,elm,l6m,fun i n hn=>?_,fun n hn=>⟨fun z=>?_,fun z=>?_⟩⟩
   . exact⟨s67 _ _ (x5k et0 fun _ _ _ z=>by cases z),ct0.same s67,s67 _ _ (x5k el0 fun _ _ _ z=>by cases z),s67 _ _ (x5k ek0 fun _ _ _ z=>by cases z),ok0,st0,List.nodup_nil,fun _ h=>by cases h⟩
   . exact⟨s67 _ _ (x5k et1 fun _ _ _ z=>by cases z),ct1.same s67,s67 _ _ (x5k el1 fun _ _ _ z=>by cases z),s67 _ _ (x5k ek1 fun _ _ _ z=>by cases z),ok1,st1,List.nodup_nil,fun _ h=>by cases h⟩
   . obtain⟨p,hp,q,_⟩:=hm i n hn
     exact⟨p,hp,q⟩
   . have q:=nn n hn
     rw[z,s6 _ _ ec0] at q
     cases q
   . have q:=nn n hn
     rw[z,s6 _ _ ec1] at q
     cases q
 refine⟨fun σ' H'=>∃us0 us1 a0 b0 a1 b1 y0 y1 y2 y3 y4 y5,Al CN CC K sc ns lr lc lt lk ln lm t0 t1 c0 c1 l0 l1 k0 k1 v0 v1 tr0 tr1 ts ms us0 us1 a0 b0 a1 b1 H'/\σ'=stL sc (some (.ref lr)) (some (.ref lc)) (some (.ref lt)) (some (.ref lk)) v5 v6 (some (.ref ln)) (some (.ref lm)) y0 y1 y2 y3 y4 y5,⟨10,rfl,by decide,by decide,A8j (n:=10) (fun i σ' H'=>∃us0 us1 a0 b0 a1 b1 y0 y1 y2 y3 y4 y5,Al CN CC K sc ns lr lc lt lk ln lm t0 t1 c0 c1 l0 l1 k0 k1 v0 v1 tr0 tr1 ts ms us0 us1 a0 b0 a1 b1 H'/\σ'=stL sc (some (.ref lr)) (some (.ref lc)) (some (.ref lt)) (some (.ref lk)) v5 v6 (some (.ref ln)) (some (.ref lm)) y0 y1 y2 y3 y4 y5) ⟨[],[],a0,b0,a1,b1,none,none,none,none,none,none,h7,rfl⟩ ?_ ?_⟩,?_⟩
 . clear h7 hm elm s7 tu s6 hS5 x5k ec0 ec1 ct0 ct1 x5 ct0' ct1'
   rintro i σ' H8 hi ⟨us0,us1,a0,b0,a1,b1,y0,y1,y2,y3,y4,y5,h8,rfl⟩
   let I_:L2.St ->L2.Hp ->Prop:=fun σ' H'=>∃dr:Int,H'=H8/\σ'=stL sc (some (.ref lr)) (some (.ref lc)) (some (.ref lt)) (some (.ref lk)) v5 v6 (some (.ref ln)) (some (.ref lm)) (some (.int (0+(i:Int)))) (some (.int dr)) y2 y3 y4 y5
   refine⟨I_,?_,?_⟩
   . exact⟨_,rfl,_,rfl,_,_,rfl,rfl,sc,ns,_,rfl,h8.scr,by omega,fun ce=>⟨_,rfl,_,_,rfl,rfl,ce,_,rfl,by omega,by omega,fun m m0 m1=>⟨_,_,rfl,rfl,⟨by decide,by decide+kernel⟩,_,rfl,rfl⟩⟩⟩
   refine L2.hideG fun Z_ z_=>?_
   rintro σ' H9 ⟨dr,rfl,rfl⟩
   subst z_
   clear I_
   refine⟨fun σ' H'=>∃he:Int,H'=H9/\(he=0\/he=1)/\σ'=stL sc (some (.ref lr)) (some (.ref lc)) (some (.ref lt)) (some (.ref lk)) v5 v6 (some (.ref ln)) (some (.ref lm)) (some (.int (0+(i:Int)))) (some (.int dr)) (some (.int he)) y3 y4 y5,⟨_,rfl,_,_,rfl,rfl,(by decide:(0:Int)<2),_,rfl,by have:=Int.emod_two_eq dr;omega,rfl⟩,?_⟩
   refine L2.hideG fun Z_ z_=>?_
   rintro σ' H11 ⟨he,rfl,hh,rfl⟩
   subst z_
   let I_:L2.St ->L2.Hp ->Prop:=fun σ' H'=>∃o1:Nat,H'=H11/\o1<5/\σ'=stL sc (some (.ref lr)) (some (.ref lc)) (some (.ref lt)) (some (.ref lk)) v5 v6 (some (.ref ln)) (some (.ref lm)) (some (.int (0+(i:Int)))) (some (.int dr)) (some (.int he)) (some (.int (o1:Int))) y4 y5
   refine⟨I_,?_,?_⟩
   . have e1:=Int.emod_lt_of_pos (dr/2) (show(0:Int)<5 by decide)
     have e2:=Int.emod_nonneg (dr/2) (show(5:Int)≠0 by decide)
     refine⟨_,rfl,_,_,rfl,rfl,⟨by decide,by decide+kernel⟩,_,_,rfl,rfl,(by decide:(0:Int)<5),(dr/2 % 5).toNat,rfl,by omega,?_⟩
     show stL sc (some (.ref lr)) (some (.ref lc)) (some (.ref lt)) (some (.ref lk)) v5 v6 (some (.ref ln)) (some (.ref lm)) (some (.int (0+(i:Int)))) (some (.int dr)) (some (.int he)) (some (.int (dr/2 % 5))) y4 y5=_
     rw[Int.toNat_of_nonneg e2]
   refine L2.hideG fun Z_ z_=>?_
   rintro σ' H12 ⟨o1,rfl,lo1,rfl⟩
   subst z_
   clear I_
   let I_:L2.St ->L2.Hp ->Prop:=fun σ' H'=>∃cn:Int,B5 H12 H'/\ -20<=cn/\cn<=20/\σ'=stL sc (some (.ref lr)) (some (.ref lc)) (some (.ref lt)) (some (.ref lk)) v5 v6 (some (.ref ln)) (some (.ref lm)) (some (.int (0+(i:Int)))) (some (.int dr)) (some (.int he)) (some (.int (o1:Int))) (some (.int cn)) y5
   refine⟨I_,?_,?_⟩
   . have a1:=Int.emod_lt_of_pos (dr/30) (show(0:Int)<7 by decide)
     have a2:=Int.emod_nonneg (dr/30) (show(7:Int)≠0 by decide)
     have a3:=Int.emod_lt_of_pos (dr/30) (show(0:Int)<41 by decide)
     have a4:=Int.emod_nonneg (dr/30) (show(41:Int)≠0 by decide)
     have a5:=Int.emod_lt_of_pos (dr/10) (show(0:Int)<3 by decide)
     have a6:=Int.emod_nonneg (dr/10) (show(3:Int)≠0 by decide)
     obtain⟨o,ho,ix⟩:=ixs (xs:=[dr/30 % 7-3,dr/30 % 41-20]) (i:=dr/10 % 3/2) (by omega) (by show dr/10 % 3/2<2;omega)
     have ob: -20<=o/\o<=20:=by
       simp only[List.mem_cons,List.not_mem_nil,or_false] at ho
       omega
     exact⟨_,rfl,_,_,rfl,rfl,⟨by decide,by decide+kernel⟩,_,_,rfl,rfl,(by decide:(0:Int)<7),_,_,rfl,rfl,_,rfl,_,_,rfl,rfl,⟨by decide,by decide+kernel⟩,_,_,rfl,rfl,(by decide:(0:Int)<41),_,_,rfl,rfl,z2,fun l nl=>⟨_,rfl,_,_,rfl,rfl,⟨by decide,by decide+kernel⟩,_,_,rfl,rfl,(by decide:(0:Int)<3),_,_,rfl,rfl,⟨by decide,by decide+kernel⟩,l,_,_,_,rfl,rfl,SqL.of A6,ix,o,B5.upd nl,ob.1,ob.2,rfl⟩⟩
   refine L2.hideG fun Z_ z_=>?_
   rintro σ' H13 ⟨cn,s13,cn0,cn1,rfl⟩
   subst z_
   clear I_
   have h13:=h8.same s13
   obtain⟨v,us,tr,t,c,a,b,l,kd,it,ic,il,ik,sd,nmc,back⟩:=h13.pick hh
   have q1:o1<ts.length:=by rw[h13.l6];exact lo1
   have r1:o1<ms.length:=by rw[h13.m6];exact lo1
   have g1:ts[o1]?=some ts[o1]:=List.getElem?_eq_getElem q1
   have j1:atI (ts.map fun p=>V.ref p.1) (o1:Int)=some (.ref ts[o1].1):=V6 (j:=o1) (by rw[List.getElem?_map,g1];rfl)
   have f1:ms[o1]?=some ms[o1]:=List.getElem?_eq_getElem r1
   have w1:atI (ms.map V.ref) (o1:Int)=some (.ref ms[o1]):=V6 (j:=o1) (by rw[List.getElem?_map,f1];rfl)
   obtain⟨e1,wf1⟩:=h13.tu.t ts[o1] (List.getElem_mem q1)
   obtain⟨p1,gp1,num1⟩:=h13.hm o1 _ f1
   obtain rfl:=Option.some.inj (g1.symm.trans gp1)
   have sm1:=hsm _ (List.getElem_mem q1)
   let I_:L2.St ->L2.Hp ->Prop:=fun σ' H'=>∃q zs L,B5 H13 H'/\B0y ts[o1].2 cn L/\A3z H' q (A2m v ts[o1].2 cn L).1 zs/\(∀z,z∈zs↔z∈(A2m v ts[o1].2 cn L).2)/\σ'=stL sc (some (.ref lr)) (some (.ref lc)) (some (.ref lt)) (some (.ref lk)) v5 v6 (some (.ref ln)) (some (.ref lm)) (some (.int (0+(i:Int)))) (some (.int dr)) (some (.int he)) (some (.int (o1:Int))) (some (.int cn)) (some (.ref q))
   refine⟨I_,?_,?_⟩
   . exact⟨_,rfl,_,rfl,lr,_,_,_,rfl,rfl,SqL.of h13.er,it,_,rfl,_,rfl,ln,_,_,_,rfl,rfl,SqL.of h13.tu.l,j1,_,rfl,t,v,ts[o1].1,ts[o1].2,cn,rfl,sd.t,sd.ok,e1,wf1,sm1,cn0,cn1,fun L q zs H' hL s' du hz=>⟨q,zs,L,s',hL,du,hz,rfl⟩⟩
   refine L2.hideG fun Z_ z_=>?_
   rintro σ' H14 ⟨q,zs,L,s14,hL,du,hz,rfl⟩
   subst z_
   clear I_
   have h14:=h13.same s14
   have sd14:=sd.same s14
   let I_:L2.St ->L2.Hp ->Prop:=fun σ' H'=>∃us' a' b',A0f c kd H13 H'/\Sd CC v us' tr t c a' b' l kd H'/\σ'=stL sc (some (.ref lr)) (some (.ref lc)) (some (.ref lt)) (some (.ref lk)) v5 v6 (some (.ref ln)) (some (.ref lm)) (some (.int (0+(i:Int)))) (some (.int dr)) (some (.int he)) (some (.int (o1:Int))) (some (.int cn)) (some (.ref q))
   refine⟨I_,?_,?_⟩
   . refine⟨_,rfl,_,rfl,_,rfl,lt,_,_,_,rfl,rfl,SqL.of h14.et,il,_,rfl,_,rfl,lk,_,_,_,rfl,rfl,SqL.of h14.ek,ik,_,rfl,_,rfl,lc,_,_,_,rfl,rfl,SqL.of h14.ec,ic,_,rfl,_,rfl,lm,_,_,_,rfl,rfl,SqL.of h14.em,w1,_,rfl,z2,fun sm nsm=>?_⟩
     have s15:=B5.upd (o:= .lst [.ref ms[o1],.int cn]) nsm
     have esm:upd H14 sm (.lst [.ref ms[o1],.int cn]) sm=some (.lst [.ref ms[o1],.int cn]):=A6
     generalize upd H14 sm (.lst [.ref ms[o1],.int cn])=H15 at s15 esm
     have s135:=s14.trans s15
     have sd15:=sd.same s135
     have rdy:Rdy CN 0 [.ref ms[o1],.int cn] v c (A2m v ts[o1].2 cn L) H15:=⟨ms[o1],ts[o1].2,cn,L,rfl,num1.same s135,sm1,cn0,cn1,hL,rfl,nmc _ (List.getElem_mem r1)⟩
     refine⟨q,l,kd,c,sm,a,b,0,v,us,tr,zs,[.ref ms[o1],.int cn],A2m v ts[o1].2 cn L,rfl,⟨du.same s15,hz,fun z h=>C2u z ((hz z).mp h),sd15.l,sd15.st,sd15.k,sd15.nu,sd15.su,sd15.ct,sd15.ok,esm,rdy⟩,fun us' a' b' H' mu nu x' ek' ct'=>⟨_,rfl,Y1 ⟨us',a',b',(A0f.s s135).trans x',?_,rfl⟩⟩⟩
     obtain⟨dcc,ecc⟩:=sd15.ct.ins
     exact⟨x' _ _ sd15.t (U4 sd15.t ecc (by intro z;cases z)) (U4 sd15.t sd15.k (by intro z;cases z)),ct',x' _ _ sd15.l (U4 sd15.l ecc (by intro z;cases z)) (U4 sd15.l sd15.k (by intro z;cases z)),ek',sd15.ok,sd15.st,nu,fun z hz'=>((mu z).mp hz').elim (sd15.su z) fun h=>C2u z ((hz z).mp h)⟩
   refine L2.hideG fun Z_ z_=>?_
   rintro σ' H16 ⟨us',a',b',x13,sd16,rfl⟩
   subst z_
   clear I_
   obtain⟨us0',us1',a0',b0',a1',b1',h16⟩:=back us' a' b' H16 x13 sd16
   let I_:L2.St ->L2.Hp ->Prop:=fun σ' H'=>∃us0 us1 a0 b0 a1 b1,Al CN CC K sc ns lr lc lt lk ln lm t0 t1 c0 c1 l0 l1 k0 k1 v0 v1 tr0 tr1 ts ms us0 us1 a0 b0 a1 b1 H'/\σ'=stL sc (some (.ref lr)) (some (.ref lc)) (some (.ref lt)) (some (.ref lk)) v5 v6 (some (.ref ln)) (some (.ref lm)) (some (.int (0+(i:Int)))) (some (.int dr)) (some (.int he)) (some (.int (o1:Int))) (some (.int cn)) (some (.ref q))
   refine⟨I_,?_,?_⟩
   . obtain⟨dc16,ec16⟩:=sd16.ct.ins
     refine⟨_,rfl,_,_,rfl,rfl,⟨by decide,by decide+kernel⟩,_,_,rfl,rfl,(by decide:(0:Int)<5),rfl,_,rfl,U5 (fun _=>?_) (fun _=>?_)⟩
     . let I_:L2.St ->L2.Hp ->Prop:=fun σ' H'=>∃a2,Exc c H16 H'/\Z7 CC H' c v a2 b' [] tr/\σ'=stL sc (some (.ref lr)) (some (.ref lc)) (some (.ref lt)) (some (.ref lk)) v5 v6 (some (.ref ln)) (some (.ref lm)) (some (.int (0+(i:Int)))) (some (.int dr)) (some (.int he)) (some (.int (o1:Int))) (some (.int cn)) (some (.ref q))
       refine⟨I_,?_,?_⟩
       . exact⟨_,rfl,_,rfl,lc,_,_,_,rfl,rfl,SqL.of h16.ec,ic,c,dc16,_,rfl,ec16,B5n _ _ _ _ _ _,c,v.r,v.y,v.l,v.m,a',b',_,_,rfl,sd16.ct,fun a2 H' x2 _ ct2=>⟨a2,x2,ct2,rfl⟩⟩
       refine L2.hideG fun Z_ z_=>?_
       rintro σ' H17 ⟨a2,x17,ct17,rfl⟩
       subst z_
       clear I_
       have ek17:=x17 _ _ sd16.k (U4 sd16.k ec16 (by intro z;cases z))
       have elk17:=x17 _ _ h16.ek (U4 h16.ek ec16 (by intro z;cases z))
       have et17:=x17 _ _ sd16.t (U4 sd16.t ec16 (by intro z;cases z))
       have el17:=x17 _ _ sd16.l (U4 sd16.l ec16 (by intro z;cases z))
       refine⟨_,?_,fun _ _ h=>h⟩
       refine⟨_,rfl,_,rfl,lk,_,_,_,rfl,rfl,SqL.of elk17,ik,.inr (.inr (.inl ⟨rfl,.inl ⟨_,ek17⟩⟩)),kd,_,rfl,rfl,ek17,?_⟩
       have xu:A0f c kd H17 (upd H17 kd (.dK [])):=fun b o e _ nb=>by rw[C9 nb];exact e
       obtain⟨⟨d17,z1⟩,z2,z3⟩:=ct17
       have sd17:Sd CC v [] tr t c a2 b' l kd (upd H17 kd (.dK [])):=⟨by rw[C9 (U4 et17 ek17 (by intro z;cases z))];exact et17,⟨⟨d17,by rw[C9 (U4 z1 ek17 (by intro z;cases z))];exact z1⟩,by rw[C9 (U4 z2 ek17 (by intro z;cases z))];exact z2,by rw[C9 (U4 z3 ek17 (by intro z;cases z))];exact z3⟩,by rw[C9 (U4 el17 ek17 (by intro z;cases z))];exact el17,A6,sd16.ok,sd16.st,List.nodup_nil,fun _ h=>by cases h⟩
       obtain⟨y0,y1,y2,y3,y4,y5,h17⟩:=back [] a2 b' _ (x13.trans ((A0f.l x17).trans xu)) sd17
       exact⟨y0,y1,y2,y3,y4,y5,h17,rfl⟩
     . refine⟨_,?_,fun _ _ h=>h⟩
       refine⟨_,rfl,_,_,rfl,rfl,⟨by decide,by decide+kernel⟩,_,_,rfl,rfl,(by decide:(0:Int)<5),rfl,_,rfl,U5 (fun _=>?_) (fun _=>⟨us0',us1',a0',b0',a1',b1',h16,rfl⟩)⟩
       obtain⟨p,hp,n16⟩:=h16.hm o1 _ f1
       exact⟨_,rfl,_,rfl,lc,_,_,_,rfl,rfl,SqL.of h16.ec,ic,_,rfl,_,rfl,lm,_,_,_,rfl,rfl,SqL.of h16.em,w1,_,rfl,_,_,rfl,rfl,⟨by decide,by decide+kernel⟩,c,ms[o1],_,_,rfl,n16,fun H' s'=>⟨_,rfl,Y1 ⟨us0',us1',a0',b0',a1',b1',h16.same s',rfl⟩⟩⟩
   clear h16 sd16 h14 du back
   refine L2.hideG fun Z_ z_=>?_
   rintro σ' H17 ⟨us0,us1,a0,b0,a1,b1,h17,rfl⟩
   subst z_
   clear I_
   obtain⟨v',us',tr',t',c',a',b',l',kd',it',ic',il',ik',sd',_,_⟩:=h17.pick (he:=1-he) (by omega)
   obtain⟨dc',ec'⟩:=sd'.ct.ins
   refine⟨_,?_,fun _ _ h=>h⟩
   refine⟨_,rfl,_,rfl,_,_,rfl,rfl,lc,_,_,_,rfl,rfl,SqL.of h17.ec,ic',c',dc',_,rfl,ec',A7d _ _ _ _ _ _,c',v'.r,v'.y,v'.l,v'.m,a',b',_,_,rfl,sd'.ct,fun fl nfl=>?_⟩
   have uf:=B5.upd (o:= .lst ((Y0 us').map V.str)) nfl
   have ef:upd H17 fl (.lst ((Y0 us').map V.str)) fl=some (.lst ((Y0 us').map V.str)):=A6
   generalize upd H17 fl (.lst ((Y0 us').map V.str))=H18 at uf ef
   have h18:=h17.same uf
   have ek18:=uf _ _ sd'.k
   have okU:OkL (Y0 us'):=⟨Nat.le_trans (C3b us') (by decide),fun z hz=>C7k z (List.mem_filter.mp hz).1⟩
   refine A6s (zs:=Y5) (f:=fun z=>us'.contains z) (σf:=[sr lk,si he]) SG.sq (by decide) (fun z H' Qb sm qq=>?_) (fun z H' Qv qq=>⟨_,rfl,qq⟩) (fun D H' sm nd e=>?_) rfl
   . have:=C6z.k (k:= .inr z) (sm _ _ ek18)
     refine⟨_,rfl,_,rfl,_,rfl,_,_,rfl,rfl,lk,_,_,_,rfl,rfl,SqL.of (sm _ _ h18.ek),ik',kd',_,rfl,this,_,rfl,?_⟩
     rw[D1a]
     exact qq
   . refine⟨rdS (Y0 us'),rdS (Y0 us'),A4h (sm _ _ ef),A4h e,shS okU,shS okU,?_⟩
     rw[if_pos rfl,G1y]
     exact⟨_,rfl,Y1 ⟨us0,us1,a0,b0,a1,b1,_,_,_,_,_,_,h18.same sm,rfl⟩⟩
 . rintro σ' H8 h
   exact h
 refine L2.hideG fun Z_ z_=>?_
 rintro σ' H8 ⟨us0,us1,a0,b0,a1,b1,y0,y1,y2,y3,y4,y5,h8,rfl⟩
 subst z_
 refine⟨_,rfl,_,rfl,lm,ln,rfl,⟨_,SqL.of h8.em⟩,⟨_,SqL.of h8.tu.l⟩,A3c (J:=Itz K lm ln) (n:=5) (fun _ y _=>y= .bl true) (by decide) (fun _ _ _ _ _ _ h _ _=>h) (fun i H2 Qy hi sm hy=>?_) (fun H2 sm=>⟨_,_,SqL.of (sm _ _ h8.em),SqL.of (sm _ _ h8.tu.l),.inr (by simp[h8.l6])⟩) (fun D H' ys sm nD eD hlen hR=>?_)⟩
 . have h9:=h8.same sm
   have im:i<ms.length:=by rw[h8.m6];exact hi
   have en:ms[i]?=some ms[i]:=List.getElem?_eq_getElem im
   obtain⟨p,hp,num⟩:=h9.hm i _ en
   have ep:=h9.tu.t p (List.mem_of_getElem? hp)
   refine⟨⟨_,_,V.ref ms[i],V.ref p.1,SqL.of h9.em,SqL.of h9.tu.l,by rw[List.getElem?_map,en];rfl,by rw[List.getElem?_map,hp];rfl⟩,fun z H3 yl=>?_⟩
   obtain⟨t,u,v,rfl,nt,rfl,hu,hv⟩:=yl
   have hu:=hu _ (SqL.of h9.em)
   have hv:=hv _ (SqL.of h9.tu.l)
   have eu:u= .ref ms[i]:=by
     rw[List.getElem?_map,en] at hu
     exact(Option.some.inj hu).symm
   have ev:v= .ref p.1:=by
     rw[List.getElem?_map,hp] at hv
     exact(Option.some.inj hv).symm
   subst eu ev
   have u1:=B5.upd (o:= .tup [.ref ms[i],.ref p.1]) nt
   refine⟨t,_,rfl,SqT.of A6,rfl,_,_,rfl,_,_,rfl,rfl,?_⟩
   exact⟨_,rfl,_,rfl,ms[i],p.1,p.2,rfl,num.same u1,u1 _ _ ep.1,fun H' s'=>hy _ _ (u1.trans s') rfl⟩
 have ey:ys=(List.replicate 5 true).map V.bl:=by
   apply List.ext_getElem?
   intro i
   by_cases hi:i<5
   . rw[List.getElem?_eq_getElem (by omega),hR i ys[i] (by simp[hlen,hi])]
     rw[List.getElem?_map,List.getElem?_replicate,if_pos hi]
     rfl
   . rw[List.getElem?_eq_none (by omega),List.getElem?_eq_none (by simp;omega)]
 subst ey
 refine⟨D,_,rfl,SqL.of eD,?_⟩
 rw[show(List.replicate 5 true).all id=true by simp]
 exact kk H'
noncomputable def Fa (K:Frag) (x:Str) (st:Stmt):Prop:=∃(f:Addr) (oc:Value) (od:Option Addr) (osl:Array (Option Value)) (kV doc pm:Value) (an:Option Addr) (cdv ct:Value),nsIn K mainGlobals x=some (some (.ref f))/\K.lookup f=some ⟨oc,od,.func (fnOf x x (U1 st) (J0 st) (A5 st) .none kV doc pm an cdv ct),osl⟩/\codeIn K cdv x=true/\keepIn K (.ref f)=true
theorem Fa.mk{K:Frag}{x:Str}{st:Stmt}{oc:Value}{od an:Option Addr}{osl:Array (Option Value)}{kV doc pm cdv ct:Value}(a:nsIn K mainGlobals x=some (some (.ref f)))(l:K.lookup f=some ⟨oc,od,.func (fnOf x x (U1 st) (J0 st) (A5 st) .none kV doc pm an cdv ct),osl⟩)(c:codeIn K cdv x=true)(k:keepIn K (.ref f)=true):Fa K x st:=
 ⟨_,_,_,_,_,_,_,_,_,_,a,l,c,k⟩
noncomputable def Fb (K:Frag) (C:Addr) (m q:Str) (st:Stmt):Prop:=∃(f:Addr) (oc:Value) (od:Option Addr) (osl:Array (Option Value)) (kV doc pm:Value) (an:Option Addr) (cdv ct:Value),findIn K (.ref C) m=some (some (.ref f))/\isFn K (.ref f)=true/\K.lookup f=some ⟨oc,od,.func (fnOf m q (U1 st) (J0 st) (A5 st) .none kV doc pm an cdv ct),osl⟩/\codeIn K cdv q=true/\keepIn K (.ref f)=true
theorem Fb.mk{K:Frag}{C:Addr}{m q:Str}{st:Stmt}{oc:Value}{od an:Option Addr}{osl:Array (Option Value)}{kV doc pm cdv ct:Value}(a:findIn K (.ref C) m=some (some (.ref f)))(i:isFn K (.ref f)=true)(l:K.lookup f=some ⟨oc,od,.func (fnOf m q (U1 st) (J0 st) (A5 st) .none kV doc pm an cdv ct),osl⟩)(c:codeIn K cdv q=true)(k:keepIn K (.ref f)=true):Fb K C m q st:=
 ⟨_,_,_,_,_,_,_,_,_,_,a,i,l,c,k⟩
theorem Fa.go0{K:Frag}{h:Heap}{mg:Str ->Option Value}{x:Str}{st:Stmt}(u:Fa K x st)(X:K.In h)(G:h.Ns mainGlobals mg)
   (hb:∀(kV doc pm:Value) (an:Option Addr) (cdv ct:Value),bindArgs (fnOf x x (U1 st) (J0 st) (A5 st) .none kV doc pm an cdv ct) ⟨[],[]⟩=pure ([].zip []):=by intros;rfl):∃f fd,Def K mg x [] st f fd:=by
 obtain⟨_,_,_,_,_,_,_,_,_,_,a,l,c,k⟩:=u
 exact⟨_,_,A3n X G a l c k fun kV d p an cd ct us hl=>match us,hl with| [],_=>hb kV d p an cd ct⟩
theorem Fa.go1{K:Frag}{h:Heap}{mg:Str ->Option Value}{x:Str}{p0:Str}{st:Stmt}(u:Fa K x st)(X:K.In h)(G:h.Ns mainGlobals mg)
   (hb:∀(kV doc pm:Value) (an:Option Addr) (cdv ct:Value) (u0:Value),bindArgs (fnOf x x (U1 st) (J0 st) (A5 st) .none kV doc pm an cdv ct) ⟨[u0],[]⟩=pure ([p0].zip [u0]):=by intros;rfl):∃f fd,Def K mg x [p0] st f fd:=by
 obtain⟨_,_,_,_,_,_,_,_,_,_,a,l,c,k⟩:=u
 exact⟨_,_,A3n X G a l c k fun kV d p an cd ct us hl=>match us,hl with| [_],_=>hb kV d p an cd ct _⟩
theorem Fb.go1{K:Frag}{C:Addr}{x q:Str}{p0:Str}{st:Stmt}(u:Fb K C x q st)
   (hb:∀(kV doc pm:Value) (an:Option Addr) (cdv ct:Value) (u0:Value),bindArgs (fnOf x q (U1 st) (J0 st) (A5 st) .none kV doc pm an cdv ct) ⟨[u0],[]⟩=pure ([p0].zip [u0]):=by intros;rfl):∃f fd,Fun K x q st f fd/\V9 K fd [p0] []/\A7s K C x f:=by
 obtain⟨_,_,_,_,_,_,_,_,_,_,a,i,l,c,k⟩:=u
 exact⟨_,_,A2w (st:=st) l c k,(A2w (st:=st) l c k).binds fun kV d p an cd ct us hl=>match us,hl with| [_],_=>hb kV d p an cd ct _,a,i,k⟩
theorem Fa.go2{K:Frag}{h:Heap}{mg:Str ->Option Value}{x:Str}{p0 p1:Str}{st:Stmt}(u:Fa K x st)(X:K.In h)(G:h.Ns mainGlobals mg)
   (hb:∀(kV doc pm:Value) (an:Option Addr) (cdv ct:Value) (u0 u1:Value),bindArgs (fnOf x x (U1 st) (J0 st) (A5 st) .none kV doc pm an cdv ct) ⟨[u0,u1],[]⟩=pure ([p0,p1].zip [u0,u1]):=by intros;rfl):∃f fd,Def K mg x [p0,p1] st f fd:=by
 obtain⟨_,_,_,_,_,_,_,_,_,_,a,l,c,k⟩:=u
 exact⟨_,_,A3n X G a l c k fun kV d p an cd ct us hl=>match us,hl with| [_,_],_=>hb kV d p an cd ct _ _⟩
theorem Fb.go2{K:Frag}{C:Addr}{x q:Str}{p0 p1:Str}{st:Stmt}(u:Fb K C x q st)
   (hb:∀(kV doc pm:Value) (an:Option Addr) (cdv ct:Value) (u0 u1:Value),bindArgs (fnOf x q (U1 st) (J0 st) (A5 st) .none kV doc pm an cdv ct) ⟨[u0,u1],[]⟩=pure ([p0,p1].zip [u0,u1]):=by intros;rfl):∃f fd,Fun K x q st f fd/\V9 K fd [p0,p1] []/\A7s K C x f:=by
 obtain⟨_,_,_,_,_,_,_,_,_,_,a,i,l,c,k⟩:=u
 exact⟨_,_,A2w (st:=st) l c k,(A2w (st:=st) l c k).binds fun kV d p an cd ct us hl=>match us,hl with| [_,_],_=>hb kV d p an cd ct _ _,a,i,k⟩
theorem Fa.go3{K:Frag}{h:Heap}{mg:Str ->Option Value}{x:Str}{p0 p1 p2:Str}{st:Stmt}(u:Fa K x st)(X:K.In h)(G:h.Ns mainGlobals mg)
   (hb:∀(kV doc pm:Value) (an:Option Addr) (cdv ct:Value) (u0 u1 u2:Value),bindArgs (fnOf x x (U1 st) (J0 st) (A5 st) .none kV doc pm an cdv ct) ⟨[u0,u1,u2],[]⟩=pure ([p0,p1,p2].zip [u0,u1,u2]):=by intros;rfl):∃f fd,Def K mg x [p0,p1,p2] st f fd:=by
 obtain⟨_,_,_,_,_,_,_,_,_,_,a,l,c,k⟩:=u
 exact⟨_,_,A3n X G a l c k fun kV d p an cd ct us hl=>match us,hl with| [_,_,_],_=>hb kV d p an cd ct _ _ _⟩
theorem Fa.go4{K:Frag}{h:Heap}{mg:Str ->Option Value}{x:Str}{p0 p1 p2 p3:Str}{st:Stmt}(u:Fa K x st)(X:K.In h)(G:h.Ns mainGlobals mg)
   (hb:∀(kV doc pm:Value) (an:Option Addr) (cdv ct:Value) (u0 u1 u2 u3:Value),bindArgs (fnOf x x (U1 st) (J0 st) (A5 st) .none kV doc pm an cdv ct) ⟨[u0,u1,u2,u3],[]⟩=pure ([p0,p1,p2,p3].zip [u0,u1,u2,u3]):=by intros;rfl):∃f fd,Def K mg x [p0,p1,p2,p3] st f fd:=by
 obtain⟨_,_,_,_,_,_,_,_,_,_,a,l,c,k⟩:=u
 exact⟨_,_,A3n X G a l c k fun kV d p an cd ct us hl=>match us,hl with| [_,_,_,_],_=>hb kV d p an cd ct _ _ _ _⟩
theorem Fb.go4{K:Frag}{C:Addr}{x q:Str}{p0 p1 p2 p3:Str}{st:Stmt}(u:Fb K C x q st)
   (hb:∀(kV doc pm:Value) (an:Option Addr) (cdv ct:Value) (u0 u1 u2 u3:Value),bindArgs (fnOf x q (U1 st) (J0 st) (A5 st) .none kV doc pm an cdv ct) ⟨[u0,u1,u2,u3],[]⟩=pure ([p0,p1,p2,p3].zip [u0,u1,u2,u3]):=by intros;rfl):∃f fd,Fun K x q st f fd/\V9 K fd [p0,p1,p2,p3] []/\A7s K C x f:=by
 obtain⟨_,_,_,_,_,_,_,_,_,_,a,i,l,c,k⟩:=u
 exact⟨_,_,A2w (st:=st) l c k,(A2w (st:=st) l c k).binds fun kV d p an cd ct us hl=>match us,hl with| [_,_,_,_],_=>hb kV d p an cd ct _ _ _ _,a,i,k⟩
theorem Fa.go5{K:Frag}{h:Heap}{mg:Str ->Option Value}{x:Str}{p0 p1 p2 p3 p4:Str}{st:Stmt}(u:Fa K x st)(X:K.In h)(G:h.Ns mainGlobals mg)
   (hb:∀(kV doc pm:Value) (an:Option Addr) (cdv ct:Value) (u0 u1 u2 u3 u4:Value),bindArgs (fnOf x x (U1 st) (J0 st) (A5 st) .none kV doc pm an cdv ct) ⟨[u0,u1,u2,u3,u4],[]⟩=pure ([p0,p1,p2,p3,p4].zip [u0,u1,u2,u3,u4]):=by intros;rfl):∃f fd,Def K mg x [p0,p1,p2,p3,p4] st f fd:=by
 obtain⟨_,_,_,_,_,_,_,_,_,_,a,l,c,k⟩:=u
 exact⟨_,_,A3n X G a l c k fun kV d p an cd ct us hl=>match us,hl with| [_,_,_,_,_],_=>hb kV d p an cd ct _ _ _ _ _⟩
theorem Fa.go6{K:Frag}{h:Heap}{mg:Str ->Option Value}{x:Str}{p0 p1 p2 p3 p4 p5:Str}{st:Stmt}(u:Fa K x st)(X:K.In h)(G:h.Ns mainGlobals mg)
   (hb:∀(kV doc pm:Value) (an:Option Addr) (cdv ct:Value) (u0 u1 u2 u3 u4 u5:Value),bindArgs (fnOf x x (U1 st) (J0 st) (A5 st) .none kV doc pm an cdv ct) ⟨[u0,u1,u2,u3,u4,u5],[]⟩=pure ([p0,p1,p2,p3,p4,p5].zip [u0,u1,u2,u3,u4,u5]):=by intros;rfl):∃f fd,Def K mg x [p0,p1,p2,p3,p4,p5] st f fd:=by
 obtain⟨_,_,_,_,_,_,_,_,_,_,a,l,c,k⟩:=u
 exact⟨_,_,A3n X G a l c k fun kV d p an cd ct us hl=>match us,hl with| [_,_,_,_,_,_],_=>hb kV d p an cd ct _ _ _ _ _ _⟩
theorem Fa.go7{K:Frag}{h:Heap}{mg:Str ->Option Value}{x:Str}{p0 p1 p2 p3 p4 p5 p6:Str}{st:Stmt}(u:Fa K x st)(X:K.In h)(G:h.Ns mainGlobals mg)
   (hb:∀(kV doc pm:Value) (an:Option Addr) (cdv ct:Value) (u0 u1 u2 u3 u4 u5 u6:Value),bindArgs (fnOf x x (U1 st) (J0 st) (A5 st) .none kV doc pm an cdv ct) ⟨[u0,u1,u2,u3,u4,u5,u6],[]⟩=pure ([p0,p1,p2,p3,p4,p5,p6].zip [u0,u1,u2,u3,u4,u5,u6]):=by intros;rfl):∃f fd,Def K mg x [p0,p1,p2,p3,p4,p5,p6] st f fd:=by
 obtain⟨_,_,_,_,_,_,_,_,_,_,a,l,c,k⟩:=u
 exact⟨_,_,A3n X G a l c k fun kV d p an cd ct us hl=>match us,hl with| [_,_,_,_,_,_,_],_=>hb kV d p an cd ct _ _ _ _ _ _ _⟩
end TR
namespace TR
open PySem L2 PySem.W PyProof.Rows
theorem all_mk{l:OpenLaw}{w:World}{K:Frag}{h:Heap}{mg:Str ->Option Value}{fa CW W0 W1 W2 W3 W4 W5 W6 W7 CN B4w CC B4x D3a CQ B4y D5n CE C1 C2 C3 C4 C5 CR fX aS D4v:Addr}(X:K.In h)(G:h.Ns mainGlobals mg)(hfa:mg "law"=some (.ref fa))(gv:Fa K "product_of" A2c)(oj:Fa K "ten_to" A6f)(n8:Fa K "part_of" A9s)(om:Fa K "whole_lead" B6r)(on:Fa K "plain" B2r)(rh:Fa K "end" B9p)(ke:Fa K "nothing" A3a)(pq:Fa K "told" C2f)(pr:Fa K "lead_of" C2a)(oq:Fa K "need_number" B1h)(ri:Fa K "is_between" B8m)(kf:Fa K "need_between" A4j)(ot:Fa K "need_count" B4z)(kg:Fa K "settled" A6v)(n9:Fa K "finest_power" B0g)(kh:Fa K "nearest_to" A7k)(gw:Fa K "neighbour" A3p)(ng:Fa K "within_room" A9x)(nh:Fa K "is_beyond" A9u)(ou:Fa K "burst" B5j)(ow:Fa K "nines" B5f)(ki:Fa K "signals_of_rest" A7j)(kj:Fa K "signals_of_lead" A7n)(ni:Fa K "nought" A6r)(px:Fa K "void" C3w)(oy:Fa K "split_to_end" B6n)(oz:Fa K "to_power" B0w)(nj:Fa K "power_of_end" B0e)(pz:Fa K "power_of_nought" A3q)(o_:Fa K "way_of" B1e)(km:Fa K "bounded" A7e)(p7:Fa K "need_signals" B1p)(p8:Fa K "in_order" B0t)(p_:Fa K "_law_cell_at" C2b)(p9:Fa K "_law_mixed" A4q)(qa:Fa K "_law_ten" A8z)(nr:Fa K "_law_whole" B0d)(qb:Fa K "_law_number" A4r)(pc:Fa K "_law_made" B0p)(nv:Fa K "_law_rules" A7a)(kn:Fa K "_law_scaled" A2j)(pd:Fa K "_law_lead" B2b)(pf:Fa K "_law_goes_up" B6c)(ny:Fa K "_law_burst" A6u)(qc:Fa K "_law_finished" A2e)(ji:Fa K "_law_settled" A3f)(ko:Fa K "_law_nought" A7b)(kq:Fa K "_law_called" A4y)(rj:Fa K "_law_is" D0s)(n_:Fa K "_law_right" B0f)(qd:Fa K "_law_refused" A7c)(o0:Fa K "_law_traps" A9z)(ph:Fa K "_law_count_refused" B5p)(o3:Fa K "_law_small" A9r)(pi:Fa K "_law_odd_power" B5v)(o4:Fa K "_law_power" A9v)(kt:Fa K "_law_all_refused" A6x){G3x D3n:Option Addr}{G3t:Array (Option Value)}{G4x D2r D2t D4j C1z D5k:Value}(C4g:nsIn K mainGlobals "law"=some (some (.ref D4v)))(D5z:K.lookup D4v=some ⟨G4x,G3x,.func (fnOf "law" "law" (U1 B5d) (J0 B5d) (A5 B5d) .none D2r D2t D4j D3n C1z D5k),G3t⟩)(D4a:codeIn K C1z "law"=true)(D5y:keepIn K (.ref D4v)=true)(rk:G3s K)(T:Kit K)(sn:specialIn K (.builtin "object.__class__") "__get__"=some (some (.builtin "getset_descriptor.__get__")))(tk:takesIn K (.builtin "object.__class__")=some true)(G8z:nsIn K mainGlobals "Way"=some (some (.ref CW)))(G4y:nsIn K mainGlobals "Down"=some (some (.ref W0)))(D4c:Cls K W0)(D3d:makesIn K W0=true)(D2u:keepIn K (.ref W0)=true)(D3c:findIn K (.ref W0) "__class__"=some (some (.builtin "object.__class__")))(D3k:mroIn K W0 (.type "object")=some true)(D2v:findIn K (.ref W0) "__init__"=some (some (.builtin "object.__init__")))(D4r:kitOne K (.ref W0) (.ref CW)=some true)(ku:Fb K W0 "name" "Down.name" sN0)(G5j:nsIn K mainGlobals "Up"=some (some (.ref W1)))(D2c:Cls K W1)(D6e:makesIn K W1=true)(D4p:keepIn K (.ref W1)=true)(D4u:findIn K (.ref W1) "__class__"=some (some (.builtin "object.__class__")))(D3m:mroIn K W1 (.type "object")=some true)(D3w:findIn K (.ref W1) "__init__"=some (some (.builtin "object.__init__")))(D4t:kitOne K (.ref W1) (.ref CW)=some true)(ky:Fb K W1 "name" "Up.name" sN1)(G4d:nsIn K mainGlobals "Floor"=some (some (.ref W2)))(D5u:Cls K W2)(D3u:makesIn K W2=true)(D3f:keepIn K (.ref W2)=true)(D2x:findIn K (.ref W2) "__class__"=some (some (.builtin "object.__class__")))(D2w:mroIn K W2 (.type "object")=some true)(D5v:findIn K (.ref W2) "__init__"=some (some (.builtin "object.__init__")))(D4n:kitOne K (.ref W2) (.ref CW)=some true)(kz:Fb K W2 "name" "Floor.name" sN2)(G3v:nsIn K mainGlobals "Ceiling"=some (some (.ref W3)))(D1q:Cls K W3)(D2n:makesIn K W3=true)(D2d:keepIn K (.ref W3)=true)(D1m:findIn K (.ref W3) "__class__"=some (some (.builtin "object.__class__")))(D1z:mroIn K W3 (.type "object")=some true)(D2q:findIn K (.ref W3) "__init__"=some (some (.builtin "object.__init__")))(D1y:kitOne K (.ref W3) (.ref CW)=some true)(k_:Fb K W3 "name" "Ceiling.name" sN3)(G4m:nsIn K mainGlobals "HalfUp"=some (some (.ref W4)))(D3z:Cls K W4)(D1x:makesIn K W4=true)(D1r:keepIn K (.ref W4)=true)(D2f:findIn K (.ref W4) "__class__"=some (some (.builtin "object.__class__")))(D2m:mroIn K W4 (.type "object")=some true)(D2a:findIn K (.ref W4) "__init__"=some (some (.builtin "object.__init__")))(D3h:kitOne K (.ref W4) (.ref CW)=some true)(l7:Fb K W4 "name" "HalfUp.name" sN4)(G4h:nsIn K mainGlobals "HalfDown"=some (some (.ref W5)))(D3j:Cls K W5)(D3q:makesIn K W5=true)(D4f:keepIn K (.ref W5)=true)(D5q:findIn K (.ref W5) "__class__"=some (some (.builtin "object.__class__")))(D3v:mroIn K W5 (.type "object")=some true)(D6d:findIn K (.ref W5) "__init__"=some (some (.builtin "object.__init__")))(D1u:kitOne K (.ref W5) (.ref CW)=some true)(l9:Fb K W5 "name" "HalfDown.name" sN5)(G4c:nsIn K mainGlobals "HalfEven"=some (some (.ref W6)))(D2p:Cls K W6)(D5c:makesIn K W6=true)(D5g:keepIn K (.ref W6)=true)(D1w:findIn K (.ref W6) "__class__"=some (some (.builtin "object.__class__")))(D4g:mroIn K W6 (.type "object")=some true)(D5j:findIn K (.ref W6) "__init__"=some (some (.builtin "object.__init__")))(D2e:kitOne K (.ref W6) (.ref CW)=some true)(la:Fb K W6 "name" "HalfEven.name" sN6)(G3u:nsIn K mainGlobals "FiveUp"=some (some (.ref W7)))(D6c:Cls K W7)(D5h:makesIn K W7=true)(D3e:keepIn K (.ref W7)=true)(D4s:findIn K (.ref W7) "__class__"=some (some (.builtin "object.__class__")))(D4k:mroIn K W7 (.type "object")=some true)(D2k:findIn K (.ref W7) "__init__"=some (some (.builtin "object.__init__")))(D2g:kitOne K (.ref W7) (.ref CW)=some true)(lb:Fb K W7 "name" "FiveUp.name" sN7)(G4n:nsIn K mainGlobals "Number"=some (some (.ref CN)))(D1t:Cls K CN)(D2b:makesIn K CN=true)(D1n:keepIn K (.ref CN)=true)(D4d:findIn K (.ref CN) "__class__"=some (some (.builtin "object.__class__")))(D5r:mroIn K CN (.type "object")=some true)(A8x:findIn K (.ref CN) "kind"=some none)(A8v:findIn K (.ref CN) "sign"=some none)(A3x:findIn K (.ref CN) "figures"=some none)(A6m:findIn K (.ref CN) "power"=some none)(D4q:findIn K (.ref CN) "__init__"=some (some (.ref B4w)))(D5b:isFn K (.ref B4w)=true){G4w G5r:Option Addr}{G5n:Array (Option Value)}{G3z G5q G4g G5d D5w G3w:Value}(D3b:K.lookup B4w=some ⟨G3z,G4w,.func (fnOf "__init__" "Number.__init__" (U1 B4r) (J0 B4r) (A5 B4r) .none G5q G4g G5d G5r D5w G3w),G5n⟩)(D2j:codeIn K D5w "Number.__init__"=true)(D5e:keepIn K (.ref B4w)=true)(B6v:kitOne K (.ref CN) (.ref CN)=some true)(c4:Fb K W0 "goes_up" "Down.goes_up" sU0)(gx:Fb K W0 "to_end" "Down.to_end" sT0)(c5:Fb K W1 "goes_up" "Up.goes_up" sU1)(gy:Fb K W1 "to_end" "Up.to_end" sT1)(c6:Fb K W2 "goes_up" "Floor.goes_up" sU2)(gz:Fb K W2 "to_end" "Floor.to_end" sT2)(c7:Fb K W3 "goes_up" "Ceiling.goes_up" sU3)(g_:Fb K W3 "to_end" "Ceiling.to_end" sT3)(c8:Fb K W4 "goes_up" "HalfUp.goes_up" sU4)(h6:Fb K W4 "to_end" "HalfUp.to_end" sT4)(c9:Fb K W5 "goes_up" "HalfDown.goes_up" sU5)(h_:Fb K W5 "to_end" "HalfDown.to_end" sT5)(cb:Fb K W6 "goes_up" "HalfEven.goes_up" sU6)(i0:Fb K W6 "to_end" "HalfEven.to_end" sT6)(cf:Fb K W7 "goes_up" "FiveUp.goes_up" sU7)(i4:Fb K W7 "to_end" "FiveUp.to_end" sT7)(G5k:nsIn K mainGlobals "Context"=some (some (.ref CC)))(D4e:Cls K CC)(D3r:makesIn K CC=true)(D2y:keepIn K (.ref CC)=true)(A8y:findIn K (.ref CC) "room"=some none)(A8w:findIn K (.ref CC) "rule"=some none)(A6k:findIn K (.ref CC) "least"=some none)(A8u:findIn K (.ref CC) "most"=some none)(A6j:findIn K (.ref CC) "risen"=some none)(A3w:findIn K (.ref CC) "trapped"=some none)(D6b:findIn K (.ref CC) "__init__"=some (some (.ref B4x)))(D5f:isFn K (.ref B4x)=true){G4z D4y:Option Addr}{G4b:Array (Option Value)}{G5c D5p D1s D3t C1w D2z:Value}(D1p:K.lookup B4x=some ⟨G5c,G4z,.func (fnOf "__init__" "Context.__init__" (U1 A1d) (J0 A1d) (A5 A1d) (.ref D3a) D5p D1s D3t D4y C1w D2z),G4b⟩)(D3s:codeIn K C1w "Context.__init__"=true)(D5s:keepIn K (.ref B4x)=true){G9x G9p G9h:Tok}{J0a:Nat}{G4j:Option Addr}{G4t:Value}{G5e:Array (Option Value)}(D5x:K.lookup D3a=some ⟨G4t,G4j,.seq #[.int 9 G9x,.str "half even" G9p,.none,.int 60 G9h] J0a,G5e⟩)(jj:Fb K CC "flags" "Context.flags" A8h)(i5:Fb K CC "lowest" "Context.lowest" B6t)(o5:Fb K CC "way" "Context.way" B6a)(i6:Fb K CC "raised" "Context.raised" A6e)(jk:Fb K CC "clear" "Context.clear" A7v)(G3y:nsIn K mainGlobals "Ratio"=some (some (.ref CQ)))(D1v:Cls K CQ)(D5d:makesIn K CQ=true)(D4w:keepIn K (.ref CQ)=true)(D2s:findIn K (.ref CQ) "__class__"=some (some (.builtin "object.__class__")))(D4z:mroIn K CQ (.type "object")=some true)(B2w:findIn K (.ref CQ) "top"=some none)(A5e:findIn K (.ref CQ) "bottom"=some none)(A6h:findIn K (.ref CQ) "power"=some none)(D5t:findIn K (.ref CQ) "__init__"=some (some (.ref B4y)))(D5a:isFn K (.ref B4y)=true){G5a D3g:Option Addr}{G4u:Array (Option Value)}{G5p D4x D3y D5m C1x D4b:Value}(D3p:K.lookup B4y=some ⟨G5p,G5a,.func (fnOf "__init__" "Ratio.__init__" (U1 A3g) (J0 A3g) (A5 A3g) (.ref D5n) D4x D3y D5m D3g C1x D4b),G4u⟩)(D6a:codeIn K C1x "Ratio.__init__"=true)(D2h:keepIn K (.ref B4y)=true){G0w:Tok}{G9t:Nat}{G4s:Option Addr}{G4r:Value}{G4a:Array (Option Value)}(B9h:K.lookup D5n=some ⟨G4r,G4s,.seq #[.int 0 G0w] G9t,G4a⟩)(jm:Fb K CQ "first" "Ratio.first" B1g)(pj:Fb K CQ "at" "Ratio.at" C9h)(G4k:nsIn K mainGlobals "Exact"=some (some (.ref CE)))(D3x:kitOne K (.ref CQ) (.ref CE)=some true)(D9y:nsIn K mainGlobals "BadContext"=some (some (.ref C1)))(D9z:nsIn K mainGlobals "BadNumber"=some (some (.ref C2)))(G0b:nsIn K mainGlobals "NoText"=some (some (.ref C3)))(G0a:nsIn K mainGlobals "BadCount"=some (some (.ref C4)))(D4h:nsIn K mainGlobals "Trapped"=some (some (.ref C5)))(D4m:nsIn K mainGlobals "ReckonError"=some (some (.ref CR)))(cty:typeIn K (.ref CR)=some (.type "type")){dR:ClassData}(ccl:clsIn K CR=some dR)(cex:subIn K (.ref CR) (.type "BaseException")=some true)(sub5:subIn K (.ref C5) (.ref CR)=some true)(xga5:findIn K (.ref C5) "__getattribute__"=some (some (.builtin "BaseException.__getattribute__")))(xgh5:findIn K (.ref C5) "__getattr__"=some none)(xca5:findIn K (.ref C5) "__class__"=some (some (.builtin "object.__class__")))(xob5:mroIn K C5 (.type "object")=some true)(xbe5:subIn K (.ref C5) (.type "BaseException")=some true){d5:ClassData}(xcl5:clsIn K C5=some d5)(G9v:kitOne K (.ref C5) (.ref C1)=some false)(J0d:kitOne K (.ref C5) (.ref C2)=some false)(G9s:kitOne K (.ref C5) (.ref C3)=some false)(G9b:kitOne K (.ref C5) (.ref C4)=some false)(G9k:kitOne K (.ref C5) (.ref C5)=some true)(hv5:kitOne K (.ref C5) (.type "ValueError")=some true){nmT qT:Str}{NT:Addr}{bsT bmT:List Value}{snT:List Str}{suT:List Value}{abT:Bool}{coT:Option Bool}{ddT:Option Addr}{kT0 kT1 kT2 kT3 kT5:Option Value}(lT:K.lookup C5=some (excClassObj nmT qT C5 NT bsT bmT true snT suT abT coT ddT kT0 kT1 kT2 kT3 kT5 "ValueError.__new__")){ocN:Value}{odN:Option Addr}{esN:Array DictEntry}{epN:Nat}{slN:Array (Option Value)}(lN:K.lookup NT=some ⟨ocN,odN,.dict esN epN,slN⟩)(alN:(esN.all fun e=>match e.key with| .str _ _=>true|_=>false)=true)(niT:nsIn K NT "__init__"=some (some (.ref fX))){nmU qU:Str}{NU:Addr}{bsU:List Value}{snU:List Str}{suU:List Value}{abU:Bool}{coU:Option Bool}{ddU:Option Addr}{kU0 kU1 kU2 kU3 kU5:Option Value}(lT1:K.lookup C1=some (excClassObj nmU qU C1 NU bsU bmT true snU suU abU coU ddU kU0 kU1 kU2 kU3 kU5 "ValueError.__new__"))(saT:findIn K (.ref C5) "__setattr__"=some (some (.builtin "object.__setattr__")))(nsg5:findIn K (.ref C5) "signal"=some none){G9u G9e:Option Addr}{G9a:Array (Option Value)}{G0u G9c G9f G8x G0v G9g:Value}(D9x:K.lookup fX=some ⟨G0u,G9u,.func (fnOf "__init__" "Trapped.__init__" (U1 A5h) (J0 A5h) (A5 A5h) .none G9c G9f G8x G9e G0v G9g),G9a⟩)(G5f:codeIn K G0v "Trapped.__init__"=true)(G5s:keepIn K (.ref fX)=true)(fcT:G0u= .type "function")(kTR:kitOne K (.ref C5) (.ref CR)=some true)(q1:excIn K C1 [.type "ValueError",.type "Exception",.type "BaseException",.type "object"] "ValueError.__new__"=true)(q2:excIn K C2 [.type "ValueError",.type "Exception",.type "BaseException",.type "object"] "ValueError.__new__"=true)(q3:excIn K C3 [.type "ValueError",.type "Exception",.type "BaseException",.type "object"] "ValueError.__new__"=true)(q4:excIn K C4 [.type "ValueError",.type "Exception",.type "BaseException",.type "object"] "ValueError.__new__"=true)(a_S:nsIn K mainGlobals "SIGNALS"=some (some (.ref aS))){u0 u1 u2 u3 u4 u5 u6:Tok}{nS:Nat}{odS:Option Addr}{slS:Array (Option Value)}(lS:K.lookup aS=some ⟨.type "tuple",odS,.seq #[.str "void" u0,.str "split" u1,.str "burst" u2,.str "sunk" u3,.str "faint" u4,.str "off" u5,.str "cut" u6] nS,slS⟩)(le:Fb K CC "trap" "Context.trap" B1r)(A5d:kitOne K (.type "NoneType") (.ref CN)=some false)(C1y:kitOne K (.type "int") (.ref CN)=some false)(C1v:kitOne K (.type "str") (.ref CN)=some false)(B6y:kitOne K (.type "bool") (.ref CN)=some false)(B2v:kitOne K (.type "tuple") (.ref CN)=some false)(B6x:kitOne K (.type "list") (.ref CN)=some false)(B6w:kitOne K (.type "dict") (.ref CN)=some false)(sub2:subIn K (.ref C2) (.ref CR)=some true)(xga2:findIn K (.ref C2) "__getattribute__"=some (some (.builtin "BaseException.__getattribute__")))(xgh2:findIn K (.ref C2) "__getattr__"=some none)(xca2:findIn K (.ref C2) "__class__"=some (some (.builtin "object.__class__")))(xob2:mroIn K C2 (.type "object")=some true)(xbe2:subIn K (.ref C2) (.type "BaseException")=some true){d2:ClassData}(xcl2:clsIn K C2=some d2)(G4v:kitOne K (.ref C2) (.ref C1)=some false)(G4p:kitOne K (.ref C2) (.ref C2)=some true)(G4e:kitOne K (.ref C2) (.ref C3)=some false)(G5t:kitOne K (.ref C2) (.ref C4)=some false)(G4f:kitOne K (.ref C2) (.ref C5)=some false)(hv2:kitOne K (.ref C2) (.type "ValueError")=some true)(tyT:typeIn K (.ref C5)=some (.type "type"))(subT:subIn K (.ref C5) (.ref C5)=some true)(sub4:subIn K (.ref C4) (.ref CR)=some true)(xga4:findIn K (.ref C4) "__getattribute__"=some (some (.builtin "BaseException.__getattribute__")))(xgh4:findIn K (.ref C4) "__getattr__"=some none)(xca4:findIn K (.ref C4) "__class__"=some (some (.builtin "object.__class__")))(xob4:mroIn K C4 (.type "object")=some true)(xbe4:subIn K (.ref C4) (.type "BaseException")=some true){d4:ClassData}(xcl4:clsIn K C4=some d4)(G5b:kitOne K (.ref C4) (.ref C1)=some false)(G5m:kitOne K (.ref C4) (.ref C2)=some false)(G5g:kitOne K (.ref C4) (.ref C3)=some false)(G4q:kitOne K (.ref C4) (.ref C4)=some true)(G5h:kitOne K (.ref C4) (.ref C5)=some false)(hv4:kitOne K (.ref C4) (.type "ValueError")=some true):∃fd:FuncData,(∀(s:Shared) (v:Value),BindsTo s fd ⟨[v],[]⟩ [("_law_script",v)])/\∀base:Heap,K.In base ->base.Ns mainGlobals mg ->base.NoDigits ->G0 l.prog w K mg base (CX1 l.prog w) 12 fa fd ["_law_script"] (C2j K):=by
 have e:=hfa.symm.trans (mg_of X G C4g)
 cases e
 obtain⟨qv,_,aa⟩:=gv.go2 X G
 obtain⟨vo,_,ag⟩:=oj.go1 X G
 obtain⟨u7,_,cg⟩:=n8.go2 X G
 obtain⟨vp,_,j7⟩:=om.go1 X G
 obtain⟨vq,_,aq⟩:=on.go3 X G
 obtain⟨ww,_,am⟩:=rh.go1 X G
 obtain⟨sj,_,ae⟩:=ke.go0 X G
 obtain⟨wk,_,lh⟩:=pq.go1 X G
 obtain⟨wl,_,li⟩:=pr.go1 X G
 obtain⟨vt,_,ar⟩:=oq.go1 X G
 obtain⟨wx,_,c3⟩:=ri.go3 X G
 obtain⟨sk,_,az⟩:=kf.go3 X G
 obtain⟨vv,_,j8⟩:=ot.go2 X G
 obtain⟨ss,_,a_⟩:=kg.go4 X G
 obtain⟨u8,_,ci⟩:=n9.go2 X G
 obtain⟨sv,_,b6⟩:=kh.go4 X G
 obtain⟨qw,_,aj⟩:=gw.go3 X G
 obtain⟨u9,_,cj⟩:=ng.go4 X G
 obtain⟨ua,_,cp⟩:=nh.go2 X G
 obtain⟨vw,_,j9⟩:=ou.go2 X G
 obtain⟨vx,_,ja⟩:=ow.go2 X G
 obtain⟨sw,_,b7⟩:=ki.go2 X G
 obtain⟨sx,_,b8⟩:=kj.go3 X G
 obtain⟨ub,_,ak⟩:=ni.go3 X G
 obtain⟨wm,_,lj⟩:=px.go1 X G
 obtain⟨vz,_,jb⟩:=oy.go2 X G
 obtain⟨v_,_,au⟩:=oz.go3 X G
 obtain⟨uc,_,cq⟩:=nj.go3 X G
 obtain⟨wn,_,lq⟩:=pz.go4 X G
 obtain⟨w4,_,av⟩:=o_.go1 X G
 obtain⟨sy,_,b9⟩:=km.go3 X G
 obtain⟨w6,_,aw⟩:=p7.go1 X G
 obtain⟨w8,_,ay⟩:=p8.go1 X G
 obtain⟨wo,_,lv⟩:=p_.go2 X G
 obtain⟨wa,_,ac⟩:=p9.go2 X G
 obtain⟨wp,_,ah⟩:=qa.go1 X G
 obtain⟨ue,_,cu⟩:=nr.go1 X G
 obtain⟨wq,_,lw⟩:=qb.go1 X G
 obtain⟨wb,_,jc⟩:=pc.go1 X G
 obtain⟨ug,_,cx⟩:=nv.go1 X G
 obtain⟨s_,_,af⟩:=kn.go3 X G
 obtain⟨wd,_,jd⟩:=pd.go2 X G
 obtain⟨we,_,je⟩:=pf.go4 X G
 obtain⟨uh,_,cy⟩:=ny.go2 X G
 obtain⟨wu,_,ly⟩:=qc.go7 X G
 obtain⟨rm,_,ao⟩:=ji.go5 X G
 obtain⟨t7,_,bc⟩:=ko.go3 X G
 obtain⟨t8,_,ai⟩:=kq.go3 X G
 obtain⟨wy,_,jn⟩:=rj.go2 X G
 obtain⟨ui,_,cz⟩:=n_.go6 X G
 obtain⟨wv,_,c_⟩:=qd.go3 X G
 obtain⟨uj,_,d3⟩:=o0.go1 X G
 obtain⟨wg,_,jf⟩:=ph.go3 X G
 obtain⟨uk,_,d9⟩:=o3.go1 X G
 obtain⟨wj,_,jg⟩:=pi.go4 X G
 obtain⟨ul,_,db⟩:=o4.go3 X G
 obtain⟨t9,_,bg⟩:=kt.go3 X G
 have G9d:=A3n (ps:=["_law_script"]) (st:=B5d) X G C4g D5z D4a D5y fun _ _ _ _ _ _ us hl=>match us,hl with| [_],_=>rfl
 have O:Own mg:=rk.go X G
 have J0b:Mk0 K W0:=⟨D3d,D2v,D2u⟩
 obtain⟨tf,_,l_,m7,jo⟩:=ku.go1
 have WC0:A9m K mg "Down" W0 CW:=⟨mg_of X G G4y,D4c,J0b,D3c,sn,tk,D3k,D4r⟩
 have G9m:Mk0 K W1:=⟨D6e,D3w,D4p⟩
 obtain⟨tj,_,m8,m9,jp⟩:=ky.go1
 have WC1:A9m K mg "Up" W1 CW:=⟨mg_of X G G5j,D2c,G9m,D4u,sn,tk,D3m,D4t⟩
 have G9y:Mk0 K W2:=⟨D3u,D5v,D3f⟩
 obtain⟨tm,_,ma,md,jq⟩:=kz.go1
 have WC2:A9m K mg "Floor" W2 CW:=⟨mg_of X G G4d,D5u,G9y,D2x,sn,tk,D2w,D4n⟩
 have G9q:Mk0 K W3:=⟨D2n,D2q,D2d⟩
 obtain⟨tq,_,mh,mi,jr⟩:=k_.go1
 have WC3:A9m K mg "Ceiling" W3 CW:=⟨mg_of X G G3v,D1q,G9q,D1m,sn,tk,D1z,D1y⟩
 have G9j:Mk0 K W4:=⟨D1x,D2a,D1r⟩
 obtain⟨tt,_,mj,ml,jt⟩:=l7.go1
 have WC4:A9m K mg "HalfUp" W4 CW:=⟨mg_of X G G4m,D3z,G9j,D2f,sn,tk,D2m,D3h⟩
 have G9z:Mk0 K W5:=⟨D3q,D6d,D4f⟩
 obtain⟨tw,_,mn,mq,ju⟩:=l9.go1
 have WC5:A9m K mg "HalfDown" W5 CW:=⟨mg_of X G G4h,D3j,G9z,D5q,sn,tk,D3v,D1u⟩
 have J0c:Mk0 K W6:=⟨D5c,D5j,D5g⟩
 obtain⟨tx,_,mr,mt,jv⟩:=la.go1
 have WC6:A9m K mg "HalfEven" W6 CW:=⟨mg_of X G G4c,D2p,J0c,D1w,sn,tk,D4g,D2e⟩
 have G9r:Mk0 K W7:=⟨D5h,D2k,D3e⟩
 obtain⟨tz,_,mv,mw,jw⟩:=lb.go1
 have WC7:A9m K mg "FiveUp" W7 CW:=⟨mg_of X G G3u,D6c,G9r,D4s,sn,tk,D4k,D2g⟩
 let cw:Wy ->Addr:=fun y=>match y with| .down=>W0| .up=>W1| .floor=>W2| .ceiling=>W3| .halfUp=>W4| .halfDown=>W5| .halfEven=>W6| .fiveUp=>W7
 have W:∀y:Wy,A9m K mg y.cls (cw y) CW:=fun y=>match y with| .down=>WC0| .up=>WC1| .floor=>WC2| .ceiling=>WC3| .halfUp=>WC4| .halfDown=>WC5| .halfEven=>WC6| .fiveUp=>WC7
 have oh:=A2w (st:=B4r) D3b D2j D5e
 have G9n:=oh.binds (ps:=["self","kind","sign","figures","power"]) fun _ _ _ _ _ _ us hl=>match us,hl with| [_,_,_,_,_],_=>rfl
 have J2n:Mk K CN B4w:=⟨D2b,D4q,D5b,D1n⟩
 have N:Num K mg CN:=⟨mg_of X G G4n,D1t,A8x,A8v,A3x,A6m,D4d,sn,tk,D5r,B6v⟩
 obtain⟨qe,_,df,dg,bh⟩:=c4.go4
 obtain⟨qx,_,i7,i8,dh⟩:=gx.go2
 obtain⟨qf,_,dj,dk,bi⟩:=c5.go4
 obtain⟨qy,_,i9,ia,dm⟩:=gy.go2
 obtain⟨qg,_,dv,dw,br⟩:=c6.go4
 obtain⟨qz,_,ib,ie,d_⟩:=gz.go2
 obtain⟨qh,_,eg,eh,bt⟩:=c7.go4
 obtain⟨q_,_,ig,ii,e_⟩:=g_.go2
 obtain⟨qi,_,g8,g9,bw⟩:=c8.go4
 obtain⟨r9,_,ij,io,gb⟩:=h6.go2
 obtain⟨qj,_,gc,gd,bx⟩:=c9.go4
 obtain⟨rb,_,ip,iq,gi⟩:=h_.go2
 obtain⟨qk,_,gj,gk,bz⟩:=cb.go4
 obtain⟨rc,_,ir,iu,gl⟩:=i0.go2
 obtain⟨ql,_,gm,gn,b_⟩:=cf.go4
 obtain⟨re,_,iw,iy,gq⟩:=i4.go2
 have G8y:=C2y (st:=A1d) D1p D3s D5s
 have J2m:Mk K CC B4x:=⟨D3r,D6b,D5f,D2y⟩
 obtain⟨rn,_,jx,jy,iz⟩:=jj.go1
 obtain⟨rf,_,i_,j0,gr⟩:=i5.go1
 obtain⟨um,_,o6,o8,mx⟩:=o5.go1
 obtain⟨rg,_,j3,j4,gt⟩:=i6.go2
 obtain⟨ro,_,jz,j_,j5⟩:=jk.go1
 have G9w:=C2y (st:=A3g) D3p D6a D2h
 have J2k:Mk K CQ B4y:=⟨D5d,D5t,D5a,D4w⟩
 obtain⟨k7,_,k8,k9,j6⟩:=jm.go1
 obtain⟨pk,_,pp,jh,gu⟩:=pj.go2
 have xk5:B3d K C5:=⟨xga5,xgh5,xca5,sn,tk,xob5,xbe5,by rw[xcl5];rfl⟩
 have nkT:nsOkIn K NT=true:=by unfold nsOkIn;rw[lN];exact alN
 have tlT:tailIn K C2r bmT=true:=by
   have z:=q1
   unfold excIn at z
   rw[lT1] at z
   simp only[excClassObj,Bool.and_eq_true] at z
   exact z.1.1.2
 have qm:=A2w (st:=A5h) D9x G5f G5s
 have J2j:=qm.binds (ps:=["self","signal"]) fun _ _ _ _ _ _ us hl=>match us,hl with| [_,_],_=>rfl
 have XI5:C1u K C5 fX:=⟨⟨_,_,_,_,_,_,_,_,_,_,_,_,_,_,_,lT,nkT,niT,tlT⟩,⟨_,D9x,fcT⟩,saT,xob5⟩
 have SG:C7b K mg aS:=⟨mg_of X G a_S,⟨_,lS,rfl⟩,fun H=> .inr ⟨_,_,_,lS,rfl,rfl,D3 (by show 7<=1000;decide),.cons ⟨_,rfl⟩ (.cons ⟨_,rfl⟩ (.cons ⟨_,rfl⟩ (.cons ⟨_,rfl⟩ (.cons ⟨_,rfl⟩ (.cons ⟨_,rfl⟩ (.cons ⟨_,rfl⟩ (.nil)))))))⟩⟩
 obtain⟨t_,_,my,mz,ka⟩:=le.go2
 have O4:D9v K CN:=⟨A5d,C1y,C1v,B6y,B2v,B6x,B6w,T.list_tuple⟩
 have xk2:B3d K C2:=⟨xga2,xgh2,xca2,sn,tk,xob2,xbe2,by rw[xcl2];rfl⟩
 have xk4:B3d K C4:=⟨xga4,xgh4,xca4,sn,tk,xob4,xbe4,by rw[xcl4];rfl⟩
 have C:B2t K mg CC:=⟨mg_of X G G5k,D4e,A8y,A8w,A6k,A8u,A6j,A3w⟩
 have B1:Err K mg "BadContext" C1:=⟨mg_of X G D9y,q1⟩
 have B2:Err K mg "BadNumber" C2:=⟨mg_of X G D9z,q2⟩
 have B3:Err K mg "NoText" C3:=⟨mg_of X G G0b,q3⟩
 have B4:Err K mg "BadCount" C4:=⟨mg_of X G G0a,q4⟩
 have R:C1t K mg CQ CE:=⟨mg_of X G G3y,mg_of X G G4k,D1v,B2w,A5e,A6h,D2s,sn,tk,D4z,D3x⟩
 have b4:=C1c (fd:=fnOf "__init__" "Context.__init__" (U1 A1d) (J0 A1d) (A5 A1d) (.ref D3a) D5p D1s D3t D4y C1w D2z) (ps:=["self","room","way","least","most"]) (ds:=[]) rfl D5x rfl fun us hl=>by obtain⟨a,b,c,d,e,rfl⟩:=J0u (D8w hl);exact⟨_,rfl,rfl⟩
 refine⟨fnOf "law" "law" (U1 B5d) (J0 B5d) (A5 B5d) .none D2r D2t D4j D3n C1z D5k,fun s v=> .of_eq rfl,fun base _ _ DG=>?_⟩
 have WN:∀y:Wy,G6u l.prog w K mg base (cw y) y.name:=fun y=>match y with| .down=>⟨_,_,jo,G7p l_,m7⟩| .up=>⟨_,_,jp,G7e m8,m9⟩| .floor=>⟨_,_,jq,G8t ma,md⟩| .ceiling=>⟨_,_,jr,G5x mh,mi⟩| .halfUp=>⟨_,_,jt,G7t mj,ml⟩| .halfDown=>⟨_,_,ju,G8e mn,mq⟩| .halfEven=>⟨_,_,jv,G6x mr,mt⟩| .fiveUp=>⟨_,_,jw,G8h mv,mw⟩
 have U:∀y:Wy,G6g l.prog w K mg base (cw y) y:=fun y=>match y with| .down=>⟨_,_,bh,G8d df,dg⟩| .up=>⟨_,_,bi,G5u dj,dk⟩| .floor=>⟨_,_,br,G8a dv,dw⟩| .ceiling=>⟨_,_,bt,G6h eg,eh⟩| .halfUp=>⟨_,_,bw,G7m g8,g9⟩| .halfDown=>⟨_,_,bx,G8c gc,gd⟩| .halfEven=>⟨_,_,bz,G7y gj,gk⟩| .fiveUp=>⟨_,_,b_,G8r gm,gn⟩
 have E2:∀y:Wy,G7x l.prog w K mg base (cw y) y:=fun y=>match y with| .down=>⟨_,_,dh,G7c i7,i8⟩| .up=>⟨_,_,dm,G7w i9,ia⟩| .floor=>⟨_,_,d_,G7a ib,ie⟩| .ceiling=>⟨_,_,e_,G8j ig,ii⟩| .halfUp=>⟨_,_,gb,G6e ij,io⟩| .halfDown=>⟨_,_,gi,G8g ip,iq⟩| .halfEven=>⟨_,_,gl,G5z ir,iu⟩| .fiveUp=>⟨_,_,gq,G7s iw,iy⟩
 have Gb:=C1f (P:=l.prog) (w:=w) (base:=base) b9 c3 O T B1
 have Gw:=D0x (P:=l.prog) (w:=w) (base:=base) av O T B1 W
 have MC:G8v l.prog w K mg base CC C1 B4x _:=⟨J2m,C0x G8y b9 av Gb Gw C W WN⟩
 have MR : G0s l.prog w K mg base CQ B4y (fnOf "__init__" "Ratio.__init__" (U1 A3g) (J0 A3g) (A5 A3g) (.ref D5n) D4x D3y D5m D3g C1x D4b) (.int 0 G0w) (fun us ws=>match ws with| [a]=>us++ [a]|_=>[]) (fun us ws=>match ws with| [a]=>us++ [a]|_=>[]):=
   { m :=J2k
     g:=D0k G9w R
     b3:=C1c rfl B9h rfl fun us hl=>by obtain⟨a,b,c,d,rfl⟩:=G6n (D8w hl);exact⟨_,rfl,rfl⟩
     b2:=C1c rfl B9h rfl fun us hl=>by obtain⟨a,b,c,rfl⟩:=G1d (D8w hl);exact⟨_,rfl,rfl⟩
     r0:=⟨_,rfl⟩
     kP := ⟨(fun s us ws XK hl=>by
         rcases ws with _|⟨p,_|⟨q,t⟩⟩
         . cases hl
         . obtain⟨a,b,c,rfl⟩:=G1d (D8w hl)
           exact binds_K XK rfl B9h rfl rfl rfl
         . cases hl),fun r z=>match z with
       | .cons a .nil=>r.append (.cons a .nil)
       | .nil=> .nil
       | .cons _ (.cons _ _)=> .nil⟩
     eP:=fun _ _ _ _=>rfl}
 have M:A9h l.prog w K mg base CN B4w _:=⟨J2n,D9m oh N,G9n⟩
 have Gn:=D0u (P:=l.prog) (w:=w) (base:=base) aw O T B1 SG
 have Go:=C8b (P:=l.prog) (w:=w) (base:=base) ay SG
 have GX:=C6s (P:=l.prog) (w:=w) (mg:=mg) (base:=base) qm XI5 nsg5
 have MF:A7q l.prog w K mg base CC "flags" 1 ["self"] (A3s CC):=⟨_,_,iz,B8f jx C O,jy⟩
 have ML:A7q l.prog w K mg base CC "lowest" 1 ["self"] (B2q CC):=⟨_,_,gr,C4k i_ C,j0⟩
 have MW:A7q l.prog w K mg base CC "way" 2 ["self"] (B1k CC cw):=⟨_,_,mx,C4n o6 av Gw C,o8⟩
 have ME:Has l.prog w K mg base CC "clear" 1 ["self"] (A6c CC):=⟨_,_,j5,B7g jz C,j_⟩
 have MD:A7q l.prog w K mg base CC "raised" 3 ["self","names"] (B1q K CC C1 C5):=⟨_,_,gt,C6x j3 aw Gn ay Go C (mg_of X G D4h) XI5 GX J2j,j4⟩
 have CM:A8q l.prog w K mg base CC C1 C5 CW cw:=⟨C,MW,ML,MD,W,U,E2⟩
 have qo:=B8u (P:=l.prog) (w:=w) (base:=base) ar O T B2 N
 have rp:=D9k (P:=l.prog) (w:=w) (base:=base) lh ar O T B2 N
 have m_:=D0p (P:=l.prog) (w:=w) (base:=base) aq az c3 O T B2 N M
 have kc:=G2f (P:=l.prog) (w:=w) (base:=base) am az c3 O T B2 N M
 have al:=C1e (P:=l.prog) (w:=w) (base:=base) ae N M
 have rq:=D7t (P:=l.prog) (w:=w) (base:=base) li O N
 have Gto:=C8w (P:=l.prog) (w:=w) (base:=base) ag aa (A6p aa)
 have rz:=C5t (P:=l.prog) (w:=w) (base:=base) cg
 have Gwl:=C7j (P:=l.prog) (w:=w) (base:=base) j7 ag Gto
 have Gat:=G2c (P:=l.prog) (w:=w) (base:=base) pp ag Gto cg rz R O
 have RM:G3r l.prog w K mg base CQ k7 pk _ _:=⟨j6,C6h k8 j7 Gwl gu Gat jh R,k9,gu,Gat,jh⟩
 have uo:=B9j (P:=l.prog) (w:=w) (base:=base) b6 N M
 have uq:=B6u (P:=l.prog) (w:=w) (base:=base) aj CM
 have ur:=C5q (P:=l.prog) (w:=w) (base:=base) cj ag Gto CM N M
 have ut:=C6u (P:=l.prog) (w:=w) (base:=base) cp li rq CM N
 have uu:=C7v (P:=l.prog) (w:=w) (base:=base) ja ag Gto CM N M
 have uw:=C9c (P:=l.prog) (w:=w) (base:=base) j9 ja uu am kc CM
 have Gsr:=C0c (P:=l.prog) (w:=w) (base:=base) b7
 have Gsl:=C0r (P:=l.prog) (w:=w) (base:=base) b8 CM
 have qp:=C5z (P:=l.prog) (w:=w) (base:=base) ak CM N M O
 have ux:=C6t (P:=l.prog) (w:=w) (base:=base) ci CM RM R O
 have uy:=B9y (P:=l.prog) (w:=w) (base:=base) a_ ci ux b6 uo aj uq cj ur cp ut j9 uw b7 Gsr b8 Gsl CM RM R N
 have RT:C4d K mg C5 CR:=⟨mg_of X G D4h,mg_of X G D4m,⟨tyT,by unfold clsIn;rw[lT];rfl,xbe5⟩,subT,xk5,⟨_,by unfold clsIn;rw[lT],rfl⟩,nsg5,kTR,hv5⟩
 have ES:D1f mg C2 C3 C1 C4 C5:=⟨mg_of X G D9z,mg_of X G G0b,mg_of X G D9y,mg_of X G G0a,mg_of X G D4h⟩
 have RB:C4e K mg CR C2 C3 C1 C4 C5:=⟨mg_of X G D4m,⟨cty,by rw[ccl];rfl,cex⟩,sub2,⟨xk2,G4p,G4e,G4v,G5t,G4f,hv2⟩⟩
 have MP:A7q l.prog w K mg base CC "trap" 2 ["self","names"] (B5w K CC C1):=⟨_,_,ka,D9s my aw Gn ay Go C,mz⟩
 have RK:C4f K mg CR C2 C3 C1 C4 C5:=⟨mg_of X G D4m,⟨cty,by rw[ccl];rfl,cex⟩,sub4,⟨xk4,G5m,G5g,G5b,G4q,G5h,hv4⟩⟩
 have Gnc:=C7h (P:=l.prog) (w:=w) (base:=base) j8 c3 O T B4
 have Gvo:=D9u (P:=l.prog) (w:=w) (base:=base) lj ae al CM
 have Gsp:=D1b (P:=l.prog) (w:=w) (base:=base) jb am kc CM
 have Gpn:=D8x (P:=l.prog) (w:=w) (base:=base) lq lj Gvo ak qp jb Gsp
 have Gpe:=C4z (P:=l.prog) (w:=w) (base:=base) cq aq m_ am kc ak qp CM
 have Gpo:=A6p (P:=l.prog) (w:=w) (base:=base) aa
 have Gpw:=G2v (P:=l.prog) (w:=w) (base:=base) au ar qo j8 Gnc ae al cq Gpe lq Gpn aa Gpo a_ uy N MR R O
 have r_:=D8m (P:=l.prog) (w:=w) (base:=base) lv O
 have o9:=C8q (P:=l.prog) (w:=w) (base:=base) ac
 have sf:=C5s (P:=l.prog) (w:=w) (base:=base) ac
 have ap:=D8y (P:=l.prog) (w:=w) (base:=base) ah O DG
 have uz:=C0m (P:=l.prog) (w:=w) (base:=base) cu O T
 have sh:=C0k (P:=l.prog) (w:=w) (base:=base) lw ac o9 ah ap O
 have u_:=C9s (P:=l.prog) (w:=w) (base:=base) jc aq m_.fn am kc.fn ae al.fn
 have v7:=C5n (P:=l.prog) (w:=w) (base:=base) cx ac o9
 have og:=C1d (P:=l.prog) (w:=w) (base:=base) af ah ap
 have v9:=C8f (P:=l.prog) (w:=w) (base:=base) jd af og O DG
 have va:=D0j (P:=l.prog) (w:=w) (base:=base) je
 have vb:=C4t (P:=l.prog) (w:=w) (base:=base) cy ah ap
 have vc:=C1h (P:=l.prog) (w:=w) (base:=base) bc O
 have vd:=B5z (P:=l.prog) (w:=w) (base:=base) ly ah ap je va cy vb O
 have ve:=B9c (P:=l.prog) (w:=w) (base:=base) ao jd v9 af og ly vd O
 have qr:=G2t (P:=l.prog) (w:=w) (base:=base) jn lh rp cu uz O T
 have vf:=C5a (P:=l.prog) (w:=w) (base:=base) d3 ac sf SG O
 have qt:=C0s (P:=l.prog) (w:=w) (base:=base) ai au Gpw
 have vg:=C5j (P:=l.prog) (w:=w) (base:=base) cz ai qt jn qr RT SG C MF.has MP O T
 have qu:=C6k (P:=l.prog) (w:=w) (base:=base) c_ ai qt.fn RB ES O
 have vh:=C7s (P:=l.prog) (w:=w) (base:=base) jf au Gpw.fn RK ES O T
 have vi:=C1n (P:=l.prog) (w:=w) (base:=base) bg c_ qu jf vh O4
 have vj:=C6f (P:=l.prog) (w:=w) (base:=base) d9 ah ap O
 have vk:=C7z (P:=l.prog) (w:=w) (base:=base) jg bc vc
 have vn:=C4q (P:=l.prog) (w:=w) (base:=base) db jg vk af og ao ve O
 exact G2k (CB':=C1) (CT:=C5) (CE':=C1) G9d lv r_ ac o9 cx v7 d3 vf jc u_ cz vg c_ qu jn qr.fn lw (sh.mono (by decide)) d9 vj db vn bg vi MC.m MC.g.fn b4 C MF.has MP.has ME SG O4 O
theorem walk{l:OpenLaw}{q:Program}{loose:List Str}{XP:(Str ->Option Value) ->Heap ->Prop}{YP:World ->Heap ->Prop}{d:DefRec}{K:Params ->Frag}(hn:l.most=some 63)(hdf:d.params.defaults=[])
   (hY:∀(w:World) (h:Heap),YP w h ->(K w.params).In h)
   (F:∀(w:World) (mg:Str ->Option Value) (fa:Addr) (h:Heap),(K w.params).In h ->h.Ns mainGlobals mg ->mg d.name=some (.ref fa) ->
     ∃fd:FuncData,(∀(s:Shared) (u:Value),BindsTo s fd ⟨[u],[]⟩ [("_law_script",u)])/\∀base:Heap,(K w.params).In base ->base.Ns mainGlobals mg ->base.NoDigits ->G0 l.prog w (K w.params) mg base (CX1 l.prog w) 12 fa fd ["_law_script"] ((C2j (K w.params)))):
   WalkO q loose XP YP l.row.toRowW d [] (fun f vs=>PySem.call f vs):=
 L2.walk_ofD (n:=63) (k:=12) (x:="_law_script") (CX:=fun w=>CX1 l.prog w) (sp:=fun w=>(C2j (K w.params))) hn (by decide) hdf ⟨rfl,by decide,by decide⟩ hY F (fun _ _ a ns hl _ hS=>⟨a,ns,rfl,hl,hS,fun _=>rfl⟩) fun _ _ _ _ _ z=>by
   obtain⟨_,_,_,_,_,_,_,_,_,_,z,_⟩:=z
   exact z
end TR
namespace PySem.W.Fast
abbrev ZZ:=True
theorem zz:ZZ:=trivial
theorem tw116586111026337988:ZZ:=zz
theorem tw3380572752277179514:ZZ:=zz
theorem tw2746298164701253471:ZZ:=zz
theorem tw10443478043422730871:ZZ:=zz
theorem tw6254124099746723934:ZZ:=zz
theorem tw9597640792853259597:ZZ:=zz
theorem tw9340747100851450825:ZZ:=zz
theorem tw14881206004280939861:ZZ:=zz
theorem tw18411864284763437851:ZZ:=zz
theorem tw12084803937274334022:ZZ:=zz
theorem tw4273613692383807944:ZZ:=zz
theorem tw2154102890414412920:ZZ:=zz
theorem tw8069004294358819672:ZZ:=zz
theorem tw16717868638006934947:ZZ:=zz
theorem tw11528422009870760791:ZZ:=zz
theorem tw483098344010367834:ZZ:=zz
theorem tw15053929467548332028:ZZ:=zz
theorem tw11542998033262343070:ZZ:=zz
theorem tw2178710743643135869:ZZ:=zz
theorem tw6213927762029811015:ZZ:=zz
theorem tw2952883974529600355:ZZ:=zz
theorem tw10247209280157504082:ZZ:=zz
theorem tw15143340880214185726:ZZ:=zz
theorem tw521674478664141768:ZZ:=zz
theorem tw8348827936026370520:ZZ:=zz
theorem tw7554263141523286449:ZZ:=zz
theorem tw3305111694667378659:ZZ:=zz
theorem tw6246862245845015392:ZZ:=zz
theorem tw130492720851715688:ZZ:=zz
theorem tw10667098110441701570:ZZ:=zz
theorem tw3083271984438713494:ZZ:=zz
theorem tw885291369742322093:ZZ:=zz
theorem tw3990192460339592824:ZZ:=zz
theorem tw15267887456347540387:ZZ:=zz
theorem tw10473404135124613357:ZZ:=zz
theorem tw16648630012046922682:ZZ:=zz
theorem tw7991488716109540250:ZZ:=zz
theorem tw1352560127376028766:ZZ:=zz
theorem tw15081061423442019651:ZZ:=zz
theorem tw4415538763567159329:ZZ:=zz
theorem tw11990786202622836182:ZZ:=zz
theorem tw3191856608901987786:ZZ:=zz
theorem tw13798976008130698516:ZZ:=zz
theorem tw2725057176551004891:ZZ:=zz
theorem tw10642600988819492772:ZZ:=zz
theorem tw1385319945428408666:ZZ:=zz
theorem tw15946723950102528096:ZZ:=zz
theorem tw7710549120299221976:ZZ:=zz
theorem tw11001839278295898348:ZZ:=zz
theorem tw723641707796445874:ZZ:=zz
theorem tw13785227139531672866:ZZ:=zz
theorem tw2605104541521114719:ZZ:=zz
theorem tw6066069501350245234:ZZ:=zz
theorem tw4844601494533072582:ZZ:=zz
theorem tw844488862446479050:ZZ:=zz
theorem tw10267199878952889292:ZZ:=zz
theorem tw346486741303264279:ZZ:=zz
theorem tw7602992095291272987:ZZ:=zz
theorem tw13113164858976229086:ZZ:=zz
theorem tw8690779953348490842:ZZ:=zz
theorem tw10199737424130452777:ZZ:=zz
theorem tw2616207268912930684:ZZ:=zz
theorem tw13144970960513346039:ZZ:=zz
theorem tw11346371990871439665:ZZ:=zz
theorem tw3961022236593124318:ZZ:=zz
theorem tw8728663877726751427:ZZ:=zz
theorem tw6919142444702752737:ZZ:=zz
theorem tw12661680687917759426:ZZ:=zz
theorem tw3315211732082437698:ZZ:=zz
theorem tw3814997765131858104:ZZ:=zz
theorem tw354550487382065288:ZZ:=zz
theorem tw2502560599868786778:ZZ:=zz
theorem tw18182605186961487120:ZZ:=zz
theorem tw1049093017185660801:ZZ:=zz
theorem tw9326878160063446517:ZZ:=zz
theorem tw10627186042519851679:ZZ:=zz
theorem tw5221297316759988140:ZZ:=zz
theorem tw17678812632240486249:ZZ:=zz
theorem tw2904892964980460901:ZZ:=zz
theorem tw5972782670637958173:ZZ:=zz
theorem tw16543317522429537166:ZZ:=zz
theorem tw15256949127839586436:ZZ:=zz
theorem tw12698262930670520940:ZZ:=zz
theorem tw18334222746932651172:ZZ:=zz
theorem tw16219750887626562428:ZZ:=zz
theorem tw4514094554287335613:ZZ:=zz
theorem tw13646549400966539066:ZZ:=zz
theorem tw8736945829371160029:ZZ:=zz
theorem tw5725033876064095413:ZZ:=zz
theorem tw12351312654634883549:ZZ:=zz
theorem tw11793236109775194189:ZZ:=zz
theorem tw17685267810107673603:ZZ:=zz
theorem tw6868759096387928127:ZZ:=zz
theorem tw9321363186237852817:ZZ:=zz
theorem tw9909959274123197033:ZZ:=zz
theorem tw16458463975275166115:ZZ:=zz
theorem tw7256585070324075552:ZZ:=zz
theorem tw3391727854481417215:ZZ:=zz
theorem tw15287500090588536579:ZZ:=zz
theorem tw4303880481463969489:ZZ:=zz
theorem tw9816446770450699071:ZZ:=zz
theorem tw17334555686497994306:ZZ:=zz
theorem tw12411605316353978771:ZZ:=zz
theorem tw2290583723719959145:ZZ:=zz
theorem tw4981466970474874499:ZZ:=zz
theorem tw16537682031237079359:ZZ:=zz
theorem tw11092603457194301178:ZZ:=zz
theorem tw16805481848435731453:ZZ:=zz
theorem tw1795947069203551584:ZZ:=zz
theorem tw151778138016232137:ZZ:=zz
theorem tw8773109016770057210:ZZ:=zz
theorem tw17896587522080429147:ZZ:=zz
theorem tw17831456219646834570:ZZ:=zz
theorem tw7679847551910176909:ZZ:=zz
theorem tw13793275820538012511:ZZ:=zz
theorem tw2649279491053497464:ZZ:=zz
theorem tw9747883767519622057:ZZ:=zz
theorem tw15021191432283686123:ZZ:=zz
theorem tw16888067924392131509:ZZ:=zz
theorem tw8743276742973699187:ZZ:=zz
theorem tw9025059444815004890:ZZ:=zz
theorem tw12272629097930684409:ZZ:=zz
theorem tw3677339787283735855:ZZ:=zz
theorem tw6390103907441915443:ZZ:=zz
theorem tw8817715810062313087:ZZ:=zz
theorem tw14376503340375771598:ZZ:=zz
theorem tw9807037256868332506:ZZ:=zz
theorem tw799385939242753660:ZZ:=zz
theorem tw9091458745288161919:ZZ:=zz
theorem tw6628050142416273529:ZZ:=zz
theorem tw11449330470773746616:ZZ:=zz
theorem tw17676398250356636992:ZZ:=zz
theorem tw10496325501482957685:ZZ:=zz
theorem tw16794001875947363859:ZZ:=zz
theorem tw84132886149717617:ZZ:=zz
theorem tw1890373736458430927:ZZ:=zz
theorem tw10769522758643513089:ZZ:=zz
theorem tw3552462429764718682:ZZ:=zz
theorem tw4130501351010798436:ZZ:=zz
theorem tw739069660845068645:ZZ:=zz
theorem tw1235379091803452218:ZZ:=zz
theorem tw11264927761254851823:ZZ:=zz
theorem tw5554401535955534219:ZZ:=zz
theorem tw15344075696949162245:ZZ:=zz
theorem tw6383466347017954323:ZZ:=zz
theorem tw14101330023412382655:ZZ:=zz
theorem tw6853440463559679904:ZZ:=zz
theorem tw45807580960039234:ZZ:=zz
theorem tw7536276024514216555:ZZ:=zz
theorem tw17771793452564190601:ZZ:=zz
theorem tw7504247967420389166:ZZ:=zz
theorem tw6469514446934199251:ZZ:=zz
theorem tw465766233990982543:ZZ:=zz
theorem tw7449504506721915965:ZZ:=zz
theorem tw12932940176909268846:ZZ:=zz
theorem tw1590050491860128282:ZZ:=zz
theorem tw12680593647799137012:ZZ:=zz
theorem tw18029614948296322562:ZZ:=zz
theorem tw12423758979692987252:ZZ:=zz
theorem tw4393465671486622793:ZZ:=zz
theorem tw872283900108276008:ZZ:=zz
theorem tw3477804973150937226:ZZ:=zz
theorem tw8327159644187391593:ZZ:=zz
theorem tw10280889675611027973:ZZ:=zz
theorem tw3894442351918501875:ZZ:=zz
theorem tw14020824672845270978:ZZ:=zz
theorem tw7288388444448784345:ZZ:=zz
theorem tw10938428221508821948:ZZ:=zz
theorem tw3530624848516882836:ZZ:=zz
theorem tw10174121377648874318:ZZ:=zz
theorem tw724044666525295194:ZZ:=zz
theorem tw2995722291977181949:ZZ:=zz
theorem tw7662594174489626712:ZZ:=zz
theorem tw10245116287360330882:ZZ:=zz
theorem tw3842235508616758469:ZZ:=zz
theorem tw11475885554369506428:ZZ:=zz
theorem tw734772072978053644:ZZ:=zz
theorem tw16400472242175556475:ZZ:=zz
theorem tw10945911332839361784:ZZ:=zz
theorem tw16388743003643525317:ZZ:=zz
theorem tw13392436061013124553:ZZ:=zz
theorem tw9267564615814861440:ZZ:=zz
theorem tw8953093217374957955:ZZ:=zz
theorem tw14963427375302588313:ZZ:=zz
theorem tw10035580906563708457:ZZ:=zz
theorem tw16880180710836841953:ZZ:=zz
theorem tw7925000906314760370:ZZ:=zz
theorem tw2826578191942143120:ZZ:=zz
theorem tw6396209324880547042:ZZ:=zz
theorem tw5417777526998832028:ZZ:=zz
theorem tw3242337100637904358:ZZ:=zz
theorem tw524658284533200627:ZZ:=zz
theorem tw15404842520150160177:ZZ:=zz
theorem tw12900523019860554842:ZZ:=zz
theorem tw4217393438181023118:ZZ:=zz
theorem tw3144031649356704629:ZZ:=zz
theorem tw11082516342357368223:ZZ:=zz
theorem tw15319123245514605163:ZZ:=zz
theorem tw10441654679736117418:ZZ:=zz
theorem tw12894431179275161610:ZZ:=zz
theorem tw10300600471599595826:ZZ:=zz
theorem tw7577161700813951022:ZZ:=zz
theorem tw10964428078853778985:ZZ:=zz
theorem tw9081670598401805040:ZZ:=zz
theorem tw2842614719426531355:ZZ:=zz
theorem tw10380468454610612260:ZZ:=zz
theorem tw1276496806586849788:ZZ:=zz
theorem tw1243410242224325636:ZZ:=zz
theorem tw15347722353958813979:ZZ:=zz
theorem tw4598090120460588540:ZZ:=zz
theorem tw17751158433411870874:ZZ:=zz
theorem tw11304128587562689556:ZZ:=zz
theorem tw16982421465683284665:ZZ:=zz
theorem tw3615461919666194757:ZZ:=zz
theorem tw17579474522019419887:ZZ:=zz
theorem tw18413033035937851934:ZZ:=zz
theorem tw9655830654592762582:ZZ:=zz
theorem tw8931866857804155555:ZZ:=zz
theorem tw2189506256641864498:ZZ:=zz
theorem tw14648763116338411515:ZZ:=zz
theorem tw1988953625812006363:ZZ:=zz
theorem tw6949335380360253429:ZZ:=zz
theorem tw2572117038203579573:ZZ:=zz
theorem tw12495373617409959703:ZZ:=zz
theorem tw2134988756254829606:ZZ:=zz
theorem tw8677434572817844728:ZZ:=zz
theorem tw12006375886794541519:ZZ:=zz
theorem tw4263996313417312132:ZZ:=zz
theorem tw10830247802279648115:ZZ:=zz
theorem tw8031473355910464705:ZZ:=zz
theorem tw16692380813252657368:ZZ:=zz
theorem tw14707156597612259418:ZZ:=zz
theorem tw12263676851030860255:ZZ:=zz
theorem tw16168382319144357444:ZZ:=zz
theorem tw6365461995612096648:ZZ:=zz
theorem tw8801143365334675614:ZZ:=zz
theorem tw16697717992903358590:ZZ:=zz
theorem tw10325401204739260421:ZZ:=zz
theorem tw14926362252085781129:ZZ:=zz
theorem tw6288070168719201035:ZZ:=zz
theorem tw14360403604762159310:ZZ:=zz
theorem tw8972722196172037740:ZZ:=zz
theorem tw13375839289165578494:ZZ:=zz
theorem tw15963712402049258003:ZZ:=zz
theorem tw487224759911676323:ZZ:=zz
theorem tw3629123289365389045:ZZ:=zz
theorem tw16032719575145912540:ZZ:=zz
theorem tw3181618769284781797:ZZ:=zz
theorem tw13702496541249347009:ZZ:=zz
theorem tw12284404942288076417:ZZ:=zz
theorem tw14871527138339036366:ZZ:=zz
theorem tw13443053875581911332:ZZ:=zz
theorem tw15223401539417361:ZZ:=zz
theorem tw11150330764708584400:ZZ:=zz
theorem tw6422881751348342823:ZZ:=zz
theorem tw4663405543643685067:ZZ:=zz
theorem tw6711470285060742444:ZZ:=zz
theorem tw16335333598985555880:ZZ:=zz
theorem tw16066788025193029171:ZZ:=zz
theorem tw16976747225012459667:ZZ:=zz
theorem tw868620228444062112:ZZ:=zz
theorem tw15608815505949998436:ZZ:=zz
theorem tw16710578254477925034:ZZ:=zz
theorem tw2525166116220166387:ZZ:=zz
theorem tw7057196720856066512:ZZ:=zz
theorem tw8152196413468015276:ZZ:=zz
theorem tw12110685706469920025:ZZ:=zz
theorem tw13333152826481232336:ZZ:=zz
theorem tw14740318407297778164:ZZ:=zz
theorem tw13881949675166226997:ZZ:=zz
theorem tw10918261398882381457:ZZ:=zz
theorem tw11871011895469404511:ZZ:=zz
theorem tw8763784513778641517:ZZ:=zz
theorem tw7188228557199866610:ZZ:=zz
theorem tw8634704601720487008:ZZ:=zz
theorem tw7077577595362896216:ZZ:=zz
theorem tw9121261975179263383:ZZ:=zz
theorem tw13797593574519669839:ZZ:=zz
theorem tw7481272264397055441:ZZ:=zz
theorem tw10420115373075469735:ZZ:=zz
theorem tw15000026104155817954:ZZ:=zz
theorem tw7224250660963727815:ZZ:=zz
theorem tw13951050237791497977:ZZ:=zz
theorem tw7245575119187043726:ZZ:=zz
theorem tw2766744312132150172:ZZ:=zz
theorem tw1859766801812633098:ZZ:=zz
theorem tw337378108719099576:ZZ:=zz
theorem tw3681615409071854907:ZZ:=zz
theorem tw9879588564554164619:ZZ:=zz
theorem tw4237875853367607859:ZZ:=zz
theorem tw9530649442058775014:ZZ:=zz
theorem tw17293078115928417369:ZZ:=zz
theorem tw7692233699337495409:ZZ:=zz
theorem tw11435457058841668597:ZZ:=zz
theorem tw15274362111494020181:ZZ:=zz
theorem tw6385028812488377117:ZZ:=zz
theorem tw2794328688000528111:ZZ:=zz
theorem tw2843317161730009364:ZZ:=zz
theorem tw14004646248356324027:ZZ:=zz
theorem tw18075646155942677241:ZZ:=zz
theorem tw2292538457136975820:ZZ:=zz
theorem tw18255841877970947667:ZZ:=zz
theorem tw5890037747947400192:ZZ:=zz
theorem tw11469718874359573861:ZZ:=zz
theorem tw11022806062945318758:ZZ:=zz
theorem tw8583302571970568917:ZZ:=zz
theorem tw5630809045912537822:ZZ:=zz
theorem tw2146288563850104449:ZZ:=zz
theorem tw17190147862991929165:ZZ:=zz
theorem tw7048399835734834689:ZZ:=zz
theorem tw10978462349252155081:ZZ:=zz
theorem tw17915680883364488975:ZZ:=zz
theorem tw3990815769979502473:ZZ:=zz
theorem tw7511773703357867724:ZZ:=zz
theorem tw6864573754053492169:ZZ:=zz
theorem tw16874595535471307150:ZZ:=zz
theorem tw2381460372874032180:ZZ:=zz
theorem tw10716356905181923631:ZZ:=zz
theorem tw1376001062010599447:ZZ:=zz
theorem tw5022228645018353937:ZZ:=zz
theorem tw16422965921234505819:ZZ:=zz
theorem tw16923848546835738264:ZZ:=zz
theorem tw3064897357434573444:ZZ:=zz
theorem tw6852579428974505368:ZZ:=zz
theorem tw283426016045748951:ZZ:=zz
theorem tw5194954697923652539:ZZ:=zz
theorem tw5073154708296324076:ZZ:=zz
theorem tw5789074015773821889:ZZ:=zz
theorem tw16758029063787825040:ZZ:=zz
theorem tw18365639588894349653:ZZ:=zz
theorem tw17295506085606726354:ZZ:=zz
theorem tw12071630287147954076:ZZ:=zz
theorem tw15439318843214916236:ZZ:=zz
theorem tw18349389212503925361:ZZ:=zz
theorem tw4354532813821810765:ZZ:=zz
theorem tw1360756107350536886:ZZ:=zz
theorem tw17959879153633891627:ZZ:=zz
theorem tw9501637758532654935:ZZ:=zz
theorem tw17838037416286406178:ZZ:=zz
theorem tw5621707331269451739:ZZ:=zz
theorem tw13363531959551048208:ZZ:=zz
theorem tw10304714566627347312:ZZ:=zz
theorem tw9395607580156368157:ZZ:=zz
theorem tw10069955043923582441:ZZ:=zz
theorem tw18323920335938027949:ZZ:=zz
theorem tw2991403094612623347:ZZ:=zz
theorem tw8917737751403023130:ZZ:=zz
theorem tw6585638897677940079:ZZ:=zz
theorem tw9917672020920481381:ZZ:=zz
theorem tw16781073831278184030:ZZ:=zz
theorem tw3263868091938027705:ZZ:=zz
theorem tw8440611024040678686:ZZ:=zz
theorem tw14147511246256055377:ZZ:=zz
theorem tw6198188573864052851:ZZ:=zz
theorem tw9381245013824152142:ZZ:=zz
theorem tw15383810255622132604:ZZ:=zz
theorem tw5668306122084750354:ZZ:=zz
theorem tw8713842070656473911:ZZ:=zz
theorem tw9014240166049755047:ZZ:=zz
theorem tw11707926482118503134:ZZ:=zz
theorem tw16069531994290959596:ZZ:=zz
theorem tw17619728312016586716:ZZ:=zz
theorem tw10791559009887648080:ZZ:=zz
theorem tw8994399667564473283:ZZ:=zz
theorem tw11862649485110039049:ZZ:=zz
theorem tw17019649068667958437:ZZ:=zz
theorem tw17039186877003600482:ZZ:=zz
theorem tw16688930446935798881:ZZ:=zz
theorem tw16754628352370437289:ZZ:=zz
theorem tw4021888232656194939:ZZ:=zz
theorem tw1031224030479567934:ZZ:=zz
theorem tw11277730398511273989:ZZ:=zz
theorem tw13422833647309294997:ZZ:=zz
theorem tw15657034411329008614:ZZ:=zz
theorem tw17857292165889455703:ZZ:=zz
theorem tw7760944053081722182:ZZ:=zz
theorem tw9656422788611598958:ZZ:=zz
theorem tw2923185854633761502:ZZ:=zz
theorem tw2682445080798895277:ZZ:=zz
theorem tw17058378270808317471:ZZ:=zz
theorem tw9561593621665411308:ZZ:=zz
theorem tw1843963421630860022:ZZ:=zz
theorem tw3552178011077980658:ZZ:=zz
theorem tw2144155155800268947:ZZ:=zz
theorem tw4935018028154748413:ZZ:=zz
theorem tw4920567108725570974:ZZ:=zz
theorem tw10268193915822817202:ZZ:=zz
theorem tw5136255867039178273:ZZ:=zz
theorem tw8469598557725206953:ZZ:=zz
theorem tw2935932743826790230:ZZ:=zz
theorem tw914123754014893063:ZZ:=zz
theorem tw13781243758641271189:ZZ:=zz
theorem tw16163156001806754947:ZZ:=zz
theorem tw11146105459871217687:ZZ:=zz
theorem tw2396823723846536309:ZZ:=zz
theorem tw18193535448140924771:ZZ:=zz
theorem tw17305857663583060979:ZZ:=zz
theorem tw11707671329717246676:ZZ:=zz
theorem tw9729645462062804411:ZZ:=zz
theorem tw2893125406107590851:ZZ:=zz
theorem tw85466977067657697:ZZ:=zz
theorem tw1564030716889183080:ZZ:=zz
theorem tw10525109730314783133:ZZ:=zz
theorem tw3492935984494510661:ZZ:=zz
theorem tw16854752372841405892:ZZ:=zz
theorem tw4016448091664210365:ZZ:=zz
theorem tw1592867978345607338:ZZ:=zz
theorem tw9591213424093304253:ZZ:=zz
theorem tw11531569929545170582:ZZ:=zz
theorem tw8486478151359871839:ZZ:=zz
theorem tw13026339839223184845:ZZ:=zz
theorem tw16870625354831646872:ZZ:=zz
theorem tw13151024398071992805:ZZ:=zz
theorem tw11840500051364863390:ZZ:=zz
theorem tw403706174173248276:ZZ:=zz
theorem tw15450480045187304337:ZZ:=zz
theorem tw17666270591732718649:ZZ:=zz
theorem tw13306229261094397211:ZZ:=zz
theorem tw10022330139849117396:ZZ:=zz
theorem tw9954414279733530852:ZZ:=zz
theorem tw193708980139818030:ZZ:=zz
theorem tw14396243294121815978:ZZ:=zz
theorem tw10263550230269393963:ZZ:=zz
theorem tw3099611100759185302:ZZ:=zz
theorem tw14369055423951359362:ZZ:=zz
theorem tw7558061937798383110:ZZ:=zz
theorem tw10629332784652130458:ZZ:=zz
theorem tw13564896114748657501:ZZ:=zz
theorem tw5839606717651345687:ZZ:=zz
theorem tw7371220786209402445:ZZ:=zz
theorem tw9978226630727313069:ZZ:=zz
theorem tw10316037308254022686:ZZ:=zz
theorem tw14082964480895279108:ZZ:=zz
theorem tw9929128459707800223:ZZ:=zz
theorem tw16361664852441117139:ZZ:=zz
theorem tw15352575396278068343:ZZ:=zz
theorem tw10849727148054637175:ZZ:=zz
theorem tw1503944653186047998:ZZ:=zz
theorem tw4020102736376680452:ZZ:=zz
theorem tw6822050170243677035:ZZ:=zz
theorem tw11075782106270629426:ZZ:=zz
theorem tw11165220383247393712:ZZ:=zz
theorem tw5931706138367976203:ZZ:=zz
theorem tw16165891676182678547:ZZ:=zz
theorem tw9533162263245964267:ZZ:=zz
theorem tw2705148644974894585:ZZ:=zz
theorem tw16762025637705338017:ZZ:=zz
theorem tw11170180445555334901:ZZ:=zz
theorem tw14693346294406239242:ZZ:=zz
theorem tw6177061172897047054:ZZ:=zz
theorem tw7585382766117863152:ZZ:=zz
theorem tw10890680185822806057:ZZ:=zz
theorem tw13415922838165827922:ZZ:=zz
theorem tw15471492520580400572:ZZ:=zz
theorem tw17584550954764488248:ZZ:=zz
theorem tw906245565877472951:ZZ:=zz
theorem tw16193893073354161003:ZZ:=zz
theorem tw1401236869609421993:ZZ:=zz
theorem tw10401618632715988031:ZZ:=zz
theorem tw1959739585665869545:ZZ:=zz
theorem tw1590158800080564157:ZZ:=zz
theorem tw8108052824739805345:ZZ:=zz
theorem tw14056583950757350516:ZZ:=zz
theorem tw2999121696953503588:ZZ:=zz
theorem tw7237440995926716693:ZZ:=zz
theorem tw10500474912018785045:ZZ:=zz
theorem tw6902676591145887211:ZZ:=zz
theorem tw423880960801103349:ZZ:=zz
theorem tw6568361660721304948:ZZ:=zz
theorem tw8445991810169660692:ZZ:=zz
theorem tw8179491231598047744:ZZ:=zz
theorem tw10206275506902487731:ZZ:=zz
theorem tw42363047817194712:ZZ:=zz
theorem tw8296757346461475958:ZZ:=zz
theorem tw7532969902613700777:ZZ:=zz
theorem tw5651851325150446828:ZZ:=zz
theorem tw1414815739382862572:ZZ:=zz
theorem tw1605663061074598792:ZZ:=zz
theorem tw11794372946489041406:ZZ:=zz
theorem tw13737460974097589754:ZZ:=zz
theorem tw3772503536653242544:ZZ:=zz
theorem tw16624392685886978976:ZZ:=zz
theorem tw15437348438424494556:ZZ:=zz
theorem tw10598199105296626715:ZZ:=zz
theorem tw17235128167115935616:ZZ:=zz
theorem tw10632040983204769747:ZZ:=zz
theorem tw14804933616822153424:ZZ:=zz
theorem tw9957613634490887120:ZZ:=zz
theorem tw13394921609765350847:ZZ:=zz
theorem tw13835808440019926402:ZZ:=zz
theorem tw17531177411600837736:ZZ:=zz
theorem tw16026247907585062546:ZZ:=zz
theorem tw12815130697144696852:ZZ:=zz
theorem tw10817151051848535965:ZZ:=zz
theorem tw8739352788153779584:ZZ:=zz
theorem tw9806510283682304788:ZZ:=zz
theorem tw2116752759577547205:ZZ:=zz
theorem tw9934351178056120536:ZZ:=zz
theorem tw11292191706807132605:ZZ:=zz
theorem tw13352361408985833232:ZZ:=zz
theorem tw3946441355168072390:ZZ:=zz
theorem tw9603166118324541493:ZZ:=zz
theorem tw10790196514122450046:ZZ:=zz
theorem tw16477753708269531043:ZZ:=zz
theorem tw7593574027371198442:ZZ:=zz
theorem tw5133648130396600606:ZZ:=zz
theorem tw9025924050804897221:ZZ:=zz
theorem tw8951950715575141877:ZZ:=zz
theorem tw13941730510342423690:ZZ:=zz
theorem tw13395654247168302694:ZZ:=zz
theorem tw15106640307922827283:ZZ:=zz
theorem tw10615631258791570996:ZZ:=zz
theorem tw4303398843910389624:ZZ:=zz
theorem tw8443533776029973166:ZZ:=zz
theorem tw8738934526090949059:ZZ:=zz
theorem tw15402314820952670998:ZZ:=zz
theorem tw18287016752819157782:ZZ:=zz
theorem tw1449610290472412719:ZZ:=zz
theorem tw5375471503285441511:ZZ:=zz
theorem tw9612379547225517860:ZZ:=zz
theorem tw2807811086876204743:ZZ:=zz
theorem tw16015589929852904260:ZZ:=zz
theorem tw9223812768067729997:ZZ:=zz
theorem tw17008946066520358432:ZZ:=zz
theorem tw7474559223957273185:ZZ:=zz
theorem tw3415119528930585203:ZZ:=zz
theorem tw5047934089986597494:ZZ:=zz
theorem tw13186979072886375309:ZZ:=zz
theorem tw8655486301467956630:ZZ:=zz
theorem tw5170348189694986878:ZZ:=zz
theorem tw12721593759704514444:ZZ:=zz
theorem tw2061931641611173613:ZZ:=zz
theorem tw3004062965039170318:ZZ:=zz
theorem tw18168626227957265783:ZZ:=zz
theorem tw9371824422855090146:ZZ:=zz
theorem tw2106674571114438087:ZZ:=zz
theorem tw8592110740332564831:ZZ:=zz
theorem tw4320653680424170997:ZZ:=zz
theorem tw4142976628835801380:ZZ:=zz
theorem tw17785893028956732345:ZZ:=zz
theorem tw6585104198104075699:ZZ:=zz
theorem tw2152359886731923275:ZZ:=zz
theorem tw4667575283109849537:ZZ:=zz
theorem tw1088513824723084897:ZZ:=zz
theorem tw5076989269194041566:ZZ:=zz
theorem tw3352805803438993114:ZZ:=zz
theorem tw9177673733820329823:ZZ:=zz
theorem tw17276889339717571357:ZZ:=zz
theorem tw10723201091500262024:ZZ:=zz
theorem tw16871939123729500223:ZZ:=zz
theorem tw2118974325962883467:ZZ:=zz
theorem tw6537868318503670327:ZZ:=zz
theorem tw8693557426894330364:ZZ:=zz
theorem tw9224931920710215677:ZZ:=zz
theorem tw14912093857328608371:ZZ:=zz
theorem tw17091672438977816747:ZZ:=zz
theorem tw17085263893270337136:ZZ:=zz
theorem tw15922300604039841342:ZZ:=zz
theorem tw3397380199587043788:ZZ:=zz
theorem tw14965049450762016910:ZZ:=zz
theorem tw12698245739337983251:ZZ:=zz
theorem tw3319055783641477526:ZZ:=zz
theorem tw4719285233751343158:ZZ:=zz
theorem tw9465620764354709372:ZZ:=zz
theorem tw3728376018416031384:ZZ:=zz
theorem tw6234703150798552481:ZZ:=zz
theorem tw11745817381059610948:ZZ:=zz
theorem tw5193306303627163634:ZZ:=zz
theorem tw10809705243023218779:ZZ:=zz
theorem tw9238291960546476322:ZZ:=zz
theorem tw667140163716992356:ZZ:=zz
theorem tw12707522562650053214:ZZ:=zz
theorem tw14278654289966503745:ZZ:=zz
theorem tw13632997799605446406:ZZ:=zz
theorem tw12167450956811459540:ZZ:=zz
theorem tw4601014067181440235:ZZ:=zz
theorem tw8413187455555480279:ZZ:=zz
theorem tw5291847850398772108:ZZ:=zz
theorem tw10065006150021411316:ZZ:=zz
theorem tw13729857155707445162:ZZ:=zz
theorem tw8759956925546425826:ZZ:=zz
theorem tw9953980875410172410:ZZ:=zz
theorem tw17864935318667314201:ZZ:=zz
theorem tw5162387884865463171:ZZ:=zz
theorem tw12248395630927337602:ZZ:=zz
theorem tw2925912400887630437:ZZ:=zz
theorem tw11961510796142755159:ZZ:=zz
theorem tw14327907758490004211:ZZ:=zz
theorem tw4481698729771830499:ZZ:=zz
theorem tw17972395965549529144:ZZ:=zz
theorem tw12889995509826536839:ZZ:=zz
theorem tw11073819865610601579:ZZ:=zz
theorem tw7314311284516848635:ZZ:=zz
theorem tw5960731854933798611:ZZ:=zz
theorem tw16572618949933523812:ZZ:=zz
theorem tw6946077940473253358:ZZ:=zz
theorem tw10452197417923142675:ZZ:=zz
theorem tw4213470294157674579:ZZ:=zz
theorem tw17555399369845946762:ZZ:=zz
theorem tw1620376267991242329:ZZ:=zz
theorem tw17613651442166498061:ZZ:=zz
theorem tw4451638067222943767:ZZ:=zz
theorem tw18428361454777723123:ZZ:=zz
theorem tw17682414487775711212:ZZ:=zz
theorem tw7134062976352759180:ZZ:=zz
theorem tw3070945278206669216:ZZ:=zz
theorem tw10280435813074161885:ZZ:=zz
theorem tw5115455712303804641:ZZ:=zz
theorem tw16987426495713560386:ZZ:=zz
theorem tw6303881566950429018:ZZ:=zz
theorem tw908889717191476182:ZZ:=zz
theorem tw5350631887556847924:ZZ:=zz
theorem tw5797638713061811783:ZZ:=zz
theorem tw17908428369875873692:ZZ:=zz
theorem tw6755994908832052944:ZZ:=zz
theorem tw2457883742404038237:ZZ:=zz
theorem tw17519542323861176707:ZZ:=zz
theorem tw18140295434421293468:ZZ:=zz
theorem tw3420807727559391720:ZZ:=zz
theorem tw11120168059540060222:ZZ:=zz
theorem tw12954952257599582995:ZZ:=zz
theorem tw4788089244097294910:ZZ:=zz
theorem tw14643287064275196:ZZ:=zz
theorem tw1258838398162182715:ZZ:=zz
theorem tw17204881110045639104:ZZ:=zz
theorem tw4810978777980503882:ZZ:=zz
theorem tw14666085914296376590:ZZ:=zz
theorem tw5503971540845619262:ZZ:=zz
theorem tw15150347733563468646:ZZ:=zz
theorem tw3697220082133136928:ZZ:=zz
theorem tw7424643985403336590:ZZ:=zz
theorem tw4013930406820879844:ZZ:=zz
theorem tw7859110281765395662:ZZ:=zz
theorem tw7980197718523954264:ZZ:=zz
theorem tw16991222421191844330:ZZ:=zz
theorem tw14072119674116782791:ZZ:=zz
theorem tw14464804795252423905:ZZ:=zz
theorem tw4429088549070698086:ZZ:=zz
theorem tw4325512486325915867:ZZ:=zz
theorem tw3811631913405355970:ZZ:=zz
theorem tw1668202827318687203:ZZ:=zz
theorem tw8934490241065636399:ZZ:=zz
theorem tw5584429613174286293:ZZ:=zz
theorem tw10063030346377203916:ZZ:=zz
theorem tw10975320043550892895:ZZ:=zz
theorem tw3716962826289143598:ZZ:=zz
theorem tw3541256482254718192:ZZ:=zz
theorem tw16844449456668725193:ZZ:=zz
theorem tw13709701472028814292:ZZ:=zz
theorem tw17564918122856636376:ZZ:=zz
theorem tw8677193447558022202:ZZ:=zz
theorem tw2155301147359816126:ZZ:=zz
theorem tw6661256819235206253:ZZ:=zz
theorem tw13735645526881073480:ZZ:=zz
theorem tw12843276502524127462:ZZ:=zz
theorem tw14340366814515485700:ZZ:=zz
theorem tw16501002415978885143:ZZ:=zz
theorem tw5356076780193255303:ZZ:=zz
theorem tw9600456186855692894:ZZ:=zz
theorem tw13103174430713488789:ZZ:=zz
theorem tw5497983190643841118:ZZ:=zz
theorem tw11720541999053352639:ZZ:=zz
theorem tw6303441804433643947:ZZ:=zz
theorem tw7297476872923932104:ZZ:=zz
theorem tw2759753865560362396:ZZ:=zz
theorem tw17378652005416264836:ZZ:=zz
theorem tw16840416417201598705:ZZ:=zz
theorem tw3523737879647152996:ZZ:=zz
theorem tw3614733773654550703:ZZ:=zz
theorem tw11872834571602344462:ZZ:=zz
theorem tw10499743444695820616:ZZ:=zz
theorem tw5527635092283515040:ZZ:=zz
theorem tw11562575845941993258:ZZ:=zz
theorem tw10635339656032489157:ZZ:=zz
theorem tw12134666630873171283:ZZ:=zz
theorem tw13955085570641074031:ZZ:=zz
theorem tw9788947421815807465:ZZ:=zz
theorem tw8399244843595749686:ZZ:=zz
theorem tw16832224739960565574:ZZ:=zz
theorem tw13971387029847492993:ZZ:=zz
theorem tw9089553561447990749:ZZ:=zz
theorem tw3858184637556522256:ZZ:=zz
theorem tw9850255349502305740:ZZ:=zz
theorem tw811217443278900637:ZZ:=zz
theorem tw701864014057872518:ZZ:=zz
theorem tw8712949450942326801:ZZ:=zz
theorem tw9694157155866309092:ZZ:=zz
theorem tw815961529686952077:ZZ:=zz
theorem tw951200897306793340:ZZ:=zz
theorem tw1294364914694512262:ZZ:=zz
theorem tw9313781764476504173:ZZ:=zz
theorem tw490210908117014791:ZZ:=zz
theorem tw17044687947666495914:ZZ:=zz
theorem tw3620947786139250825:ZZ:=zz
theorem tw3854644406322279616:ZZ:=zz
theorem tw4849364891572292595:ZZ:=zz
theorem tw4502778376672703967:ZZ:=zz
theorem tw7977518518776640601:ZZ:=zz
theorem tw2090865391709228758:ZZ:=zz
theorem tw6775689911357000688:ZZ:=zz
theorem tw14210957247456097186:ZZ:=zz
theorem tw10592875070958125964:ZZ:=zz
theorem tw12952029824777506774:ZZ:=zz
theorem tw10761189960568987605:ZZ:=zz
theorem tw17896255587762871509:ZZ:=zz
theorem tw16582327312779224830:ZZ:=zz
theorem tw13047824345157339278:ZZ:=zz
theorem tw2819973041645591418:ZZ:=zz
theorem tw6686608844057614054:ZZ:=zz
theorem tw16025017616554608961:ZZ:=zz
theorem tw14929032039340865609:ZZ:=zz
theorem tw14515549859870037048:ZZ:=zz
theorem tw12032235812099164805:ZZ:=zz
theorem tw2323080797016744627:ZZ:=zz
theorem tw8489661530168920126:ZZ:=zz
theorem tw15816398621431738480:ZZ:=zz
theorem tw11971839509252520210:ZZ:=zz
theorem tw12653067815748889885:ZZ:=zz
theorem tw11611748876606782090:ZZ:=zz
theorem tw8223553591065889690:ZZ:=zz
theorem tw4120266986988842583:ZZ:=zz
theorem tw10624041363371869215:ZZ:=zz
theorem tw17540858037873328242:ZZ:=zz
theorem tw17132077124145767589:ZZ:=zz
theorem tw5957234862968884754:ZZ:=zz
theorem tw16938527228355223632:ZZ:=zz
theorem tw8042585241861836255:ZZ:=zz
theorem tw16264803539696023882:ZZ:=zz
theorem tw913033987257175867:ZZ:=zz
theorem tw10455671037786189683:ZZ:=zz
theorem tw9940796976378761637:ZZ:=zz
theorem tw9097377245984623990:ZZ:=zz
theorem tw17383001552842486203:ZZ:=zz
theorem tw13160785683125615103:ZZ:=zz
theorem tw15708152167619625687:ZZ:=zz
theorem tw12790016647537397292:ZZ:=zz
theorem tw1619587301934393459:ZZ:=zz
theorem tw2341744682317167409:ZZ:=zz
theorem tw15885737842695944294:ZZ:=zz
theorem tw2773566103034696200:ZZ:=zz
theorem tw6150999849899121377:ZZ:=zz
theorem tw787953784054264750:ZZ:=zz
theorem tw15828110421181497833:ZZ:=zz
theorem tw4918281891074662388:ZZ:=zz
theorem tw8927398913571088181:ZZ:=zz
theorem tw15788780356844365866:ZZ:=zz
theorem tw4900726831844937035:ZZ:=zz
theorem tw10567209609015198398:ZZ:=zz
theorem tw4686974013359531989:ZZ:=zz
theorem tw4920548480546668245:ZZ:=zz
theorem tw4671135404726495012:ZZ:=zz
theorem tw4066780681891831556:ZZ:=zz
theorem tw11982414868212912188:ZZ:=zz
theorem tw5553165997694871409:ZZ:=zz
theorem tw17375687987759061491:ZZ:=zz
theorem tw4458209507621967336:ZZ:=zz
theorem tw12358307440480263832:ZZ:=zz
theorem tw90733969811979054:ZZ:=zz
theorem tw3281476366997928581:ZZ:=zz
theorem tw15952328869000976486:ZZ:=zz
theorem tw2181271745197041011:ZZ:=zz
theorem tw5808340959646569073:ZZ:=zz
theorem tw2224469327027642353:ZZ:=zz
theorem tw1892845922086547402:ZZ:=zz
theorem tw4236560931618744121:ZZ:=zz
theorem tw15043344261563568604:ZZ:=zz
theorem tw7604313960529988398:ZZ:=zz
theorem tw14173150393396859483:ZZ:=zz
theorem tw7974166868355655673:ZZ:=zz
theorem tw14253681601058967434:ZZ:=zz
theorem tw12113260536869524414:ZZ:=zz
theorem tw7612420759759087550:ZZ:=zz
theorem tw552427197381047792:ZZ:=zz
theorem tw2078978754938493429:ZZ:=zz
theorem tw8454638166445324838:ZZ:=zz
theorem tw16728964297671086407:ZZ:=zz
theorem tw15509235099280122466:ZZ:=zz
theorem tw13268560506549375213:ZZ:=zz
theorem tw3891388917976213316:ZZ:=zz
theorem tw10194154009219216258:ZZ:=zz
theorem tw9026720307645164978:ZZ:=zz
theorem tw11587742487208167117:ZZ:=zz
theorem tw18014807101704137367:ZZ:=zz
theorem tw2574786157179245585:ZZ:=zz
theorem tw13534649177868374905:ZZ:=zz
theorem tw17623066052618297679:ZZ:=zz
theorem tw10621103461828169403:ZZ:=zz
theorem tw2423270690068900064:ZZ:=zz
theorem tw16446297046610202889:ZZ:=zz
theorem tw13445386777579490528:ZZ:=zz
theorem tw12587806134372339685:ZZ:=zz
theorem tw198428673693831408:ZZ:=zz
theorem tw1698143027058432638:ZZ:=zz
theorem tw5519450813836896933:ZZ:=zz
theorem tw11981015123508094026:ZZ:=zz
theorem tw12621910578653648274:ZZ:=zz
theorem tw10490176241577930822:ZZ:=zz
theorem tw1228797109557472914:ZZ:=zz
theorem tw5983328716123560406:ZZ:=zz
theorem tw13365684995266286904:ZZ:=zz
theorem tw4934694459501194338:ZZ:=zz
theorem tw13817375010494051459:ZZ:=zz
theorem tw9569953015199037692:ZZ:=zz
theorem tw2163731242814787546:ZZ:=zz
theorem tw1128639779708448532:ZZ:=zz
theorem tw16015223259039406933:ZZ:=zz
theorem tw1854839971276246907:ZZ:=zz
theorem tw9894373937723310115:ZZ:=zz
theorem tw11518219347201953236:ZZ:=zz
theorem tw8259074947839866083:ZZ:=zz
theorem tw15037775447604619566:ZZ:=zz
theorem tw8765136549905649786:ZZ:=zz
theorem tw6174690089516579130:ZZ:=zz
theorem tw7177244431029383963:ZZ:=zz
theorem tw14367019921139606131:ZZ:=zz
theorem tw11463110304202371550:ZZ:=zz
theorem tw15268664404337476419:ZZ:=zz
theorem tw1767544702566890550:ZZ:=zz
theorem tw6533011460865390800:ZZ:=zz
theorem tw12343535149422106335:ZZ:=zz
theorem tw12481192231602004094:ZZ:=zz
theorem tw2074618513764829546:ZZ:=zz
theorem tw3631711802761940590:ZZ:=zz
theorem tw11455136404066934851:ZZ:=zz
theorem tw3756926439138904725:ZZ:=zz
theorem tw5219595649473069227:ZZ:=zz
theorem tw5936504833429955891:ZZ:=zz
theorem tw12343818529524321488:ZZ:=zz
theorem tw1767051856580599790:ZZ:=zz
theorem tw12095725881197767443:ZZ:=zz
theorem tw8488374471923638162:ZZ:=zz
theorem tw10879725115889150686:ZZ:=zz
theorem tw4667960458583283080:ZZ:=zz
theorem tw12950187604479920693:ZZ:=zz
theorem tw9255325900427165621:ZZ:=zz
theorem tw13708274504606081497:ZZ:=zz
theorem tw2949786097202068335:ZZ:=zz
theorem tw13473075129459308385:ZZ:=zz
theorem tw11161571411821801159:ZZ:=zz
theorem tw2380210901538312094:ZZ:=zz
theorem tw1034789114114737528:ZZ:=zz
theorem tw15310403580271733777:ZZ:=zz
theorem tw8012786081475107684:ZZ:=zz
theorem tw4430050233943407236:ZZ:=zz
theorem tw5508707576310610595:ZZ:=zz
theorem tw3907292602260650662:ZZ:=zz
theorem tw7005043175038681151:ZZ:=zz
theorem tw16178115444908633370:ZZ:=zz
theorem tw6915986498991358426:ZZ:=zz
theorem tw12525649635498668206:ZZ:=zz
theorem tw14751108997163284600:ZZ:=zz
theorem tw6091316657473434032:ZZ:=zz
theorem tw95970280369696151:ZZ:=zz
theorem tw11976351728861500967:ZZ:=zz
theorem tw10226578653859940589:ZZ:=zz
theorem tw4749739500836011009:ZZ:=zz
theorem tw12271300268911475809:ZZ:=zz
theorem tw3153310808629174675:ZZ:=zz
theorem tw1633691578228531165:ZZ:=zz
theorem tw15312747661374348023:ZZ:=zz
theorem tw17333465365766149045:ZZ:=zz
theorem tw15666810265361994541:ZZ:=zz
theorem tw952387129909197676:ZZ:=zz
theorem tw11943772611221131743:ZZ:=zz
theorem tw2085498001219073048:ZZ:=zz
theorem tw9030979266483437041:ZZ:=zz
theorem tw722656847449586693:ZZ:=zz
theorem tw6746319094237697152:ZZ:=zz
theorem tw7176460882629062018:ZZ:=zz
theorem tw982180317400022317:ZZ:=zz
theorem tw10490463072225542514:ZZ:=zz
theorem tw10768927873395523509:ZZ:=zz
theorem tw9632973983038592074:ZZ:=zz
theorem tw6389360365397050871:ZZ:=zz
theorem tw16846796791098594795:ZZ:=zz
theorem tw1117016905961170762:ZZ:=zz
theorem tw8709237999135054748:ZZ:=zz
theorem tw8844927343645655279:ZZ:=zz
theorem tw3717720366397911373:ZZ:=zz
theorem tw15197142433247381020:ZZ:=zz
theorem tw15537918137318321276:ZZ:=zz
theorem tw5388330799952999447:ZZ:=zz
theorem tw15856300323457321975:ZZ:=zz
theorem tw4226441629261417146:ZZ:=zz
theorem tw18321659747292798225:ZZ:=zz
theorem tw11232074984229615568:ZZ:=zz
theorem tw300184404078465624:ZZ:=zz
theorem tw1882949173166170422:ZZ:=zz
theorem tw5923218902307300411:ZZ:=zz
theorem tw18155323984367357741:ZZ:=zz
theorem tw14097055524179526826:ZZ:=zz
theorem tw12116147809272816156:ZZ:=zz
theorem tw1435851282150387781:ZZ:=zz
theorem tw15865546008782337440:ZZ:=zz
theorem tw15458945331437782065:ZZ:=zz
theorem tw15869717051997943096:ZZ:=zz
theorem tw1739706335067545574:ZZ:=zz
theorem tw12596497583383358341:ZZ:=zz
theorem tw5423105419615162240:ZZ:=zz
theorem tw17157604173065747053:ZZ:=zz
theorem tw203745479904395376:ZZ:=zz
theorem tw10051251595382222067:ZZ:=zz
theorem tw14966835583126173031:ZZ:=zz
theorem tw5398440250559493019:ZZ:=zz
theorem tw8679886790131471850:ZZ:=zz
theorem tw10189164224100183198:ZZ:=zz
theorem tw12905155949351773219:ZZ:=zz
theorem tw11048393334318764230:ZZ:=zz
theorem tw16589086200325020305:ZZ:=zz
theorem tw18273854985526284596:ZZ:=zz
end PySem.W.Fast
open PySem PySem.W PyProof.Rows
set_option maxRecDepth 100000 in
set_option maxHeartbeats 0 in
theorem PySem.Challenge.cw_tenreckon_k25_powers_holds : PySem.Challenge.rw_tenreckon_k25_powers.Holds := by
 w_on; o_law; k_head; (case hw => w_witness2)
 k_fill
 refine TR.walk (l := PySem.Challenge.rw_tenreckon_k25_powers) rfl rfl (fun w h Y => PySem.W.kIn_of Y) ?F
 case F =>
   intro w mg fa h KX G hmg
   refine' TR.all_mk KX G hmg ?Zgv ?Zoj ?Zn8 ?Zom ?Zon ?Zrh ?Zke ?Zpq ?Zpr ?Zoq ?Zri ?Zkf ?Zot ?Zkg ?Zn9 ?Zkh ?Zgw ?Zng ?Znh ?Zou ?Zow ?Zki ?Zkj ?Zni ?Zpx ?Zoy ?Zoz ?Znj ?Zpz ?Zo_ ?Zkm ?Zp7 ?Zp8 ?Zp_ ?Zp9 ?Zqa ?Znr ?Zqb ?Zpc ?Znv ?Zkn ?Zpd ?Zpf ?Zny ?Zqc ?Zji ?Zko ?Zkq ?Zrj ?Zn_ ?Zqd ?Zo0 ?Zph ?Zo3 ?Zpi ?Zo4 ?Zkt ?ZC4g ?ZD5z ?ZD4a ?ZD5y ?Zrk ?ZT ?Zsn ?Ztk ?ZG8z ?ZG4y ?ZD4c ?ZD3d ?ZD2u ?ZD3c ?ZD3k ?ZD2v ?ZD4r ?Zku ?ZG5j ?ZD2c ?ZD6e ?ZD4p ?ZD4u ?ZD3m ?ZD3w ?ZD4t ?Zky ?ZG4d ?ZD5u ?ZD3u ?ZD3f ?ZD2x ?ZD2w ?ZD5v ?ZD4n ?Zkz ?ZG3v ?ZD1q ?ZD2n ?ZD2d ?ZD1m ?ZD1z ?ZD2q ?ZD1y ?Zk_ ?ZG4m ?ZD3z ?ZD1x ?ZD1r ?ZD2f ?ZD2m ?ZD2a ?ZD3h ?Zl7 ?ZG4h ?ZD3j ?ZD3q ?ZD4f ?ZD5q ?ZD3v ?ZD6d ?ZD1u ?Zl9 ?ZG4c ?ZD2p ?ZD5c ?ZD5g ?ZD1w ?ZD4g ?ZD5j ?ZD2e ?Zla ?ZG3u ?ZD6c ?ZD5h ?ZD3e ?ZD4s ?ZD4k ?ZD2k ?ZD2g ?Zlb ?ZG4n ?ZD1t ?ZD2b ?ZD1n ?ZD4d ?ZD5r ?ZA8x ?ZA8v ?ZA3x ?ZA6m ?ZD4q ?ZD5b ?ZD3b ?ZD2j ?ZD5e ?ZB6v ?Zc4 ?Zgx ?Zc5 ?Zgy ?Zc6 ?Zgz ?Zc7 ?Zg_ ?Zc8 ?Zh6 ?Zc9 ?Zh_ ?Zcb ?Zi0 ?Zcf ?Zi4 ?ZG5k ?ZD4e ?ZD3r ?ZD2y ?ZA8y ?ZA8w ?ZA6k ?ZA8u ?ZA6j ?ZA3w ?ZD6b ?ZD5f ?ZD1p ?ZD3s ?ZD5s ?ZD5x ?Zjj ?Zi5 ?Zo5 ?Zi6 ?Zjk ?ZG3y ?ZD1v ?ZD5d ?ZD4w ?ZD2s ?ZD4z ?ZB2w ?ZA5e ?ZA6h ?ZD5t ?ZD5a ?ZD3p ?ZD6a ?ZD2h ?ZB9h ?Zjm ?Zpj ?ZG4k ?ZD3x ?ZD9y ?ZD9z ?ZG0b ?ZG0a ?ZD4h ?ZD4m ?Zcty ?Zccl ?Zcex ?Zsub5 ?Zxga5 ?Zxgh5 ?Zxca5 ?Zxob5 ?Zxbe5 ?Zxcl5 ?ZG9v ?ZJ0d ?ZG9s ?ZG9b ?ZG9k ?Zhv5 ?ZlT ?ZlN ?ZalN ?ZniT ?ZlT1 ?ZsaT ?Znsg5 ?ZD9x ?ZG5f ?ZG5s ?ZfcT ?ZkTR ?Zq1 ?Zq2 ?Zq3 ?Zq4 ?Za_S ?ZlS ?Zle ?ZA5d ?ZC1y ?ZC1v ?ZB6y ?ZB2v ?ZB6x ?ZB6w ?Zsub2 ?Zxga2 ?Zxgh2 ?Zxca2 ?Zxob2 ?Zxbe2 ?Zxcl2 ?ZG4v ?ZG4p ?ZG4e ?ZG5t ?ZG4f ?Zhv2 ?ZtyT ?ZsubT ?Zsub4 ?Zxga4 ?Zxgh4 ?Zxca4 ?Zxob4 ?Zxbe4 ?Zxcl4 ?ZG5b ?ZG5m ?ZG5g ?ZG4q ?ZG5h ?Zhv4
   case Zgv|Zoj|Zn8|Zom|Zon|Zrh|Zke|Zpq|Zpr|Zoq|Zri|Zkf|Zot|Zkg|Zn9|Zkh|Zgw|Zng|Znh|Zou|Zow|Zki|Zkj|Zni|Zpx|Zoy|Zoz|Znj|Zpz|Zo_|Zkm|Zp7|Zp8|Zp_|Zp9|Zqa|Znr|Zqb|Zpc|Znv => (refine' TR.Fa.mk ?a ?l ?c ?k; (case a => k_is); (case l => k_is); (case c => k_is); (case k => k_is))
   case Zkn|Zpd|Zpf|Zny|Zqc|Zji|Zko|Zkq|Zrj|Zn_|Zqd|Zo0|Zph|Zo3|Zpi|Zo4|Zkt => (refine' TR.Fa.mk ?a ?l ?c ?k; (case a => k_is); (case l => k_is); (case c => k_is); (case k => k_is))
   case ZC4g|ZD5z|ZD4a|ZD5y => k_is
   case Zrk => constructor <;> k_is
   case ZT => constructor <;> kit_is
   case Zsn|Ztk|ZG8z|ZG4y => k_is
   case ZD4c => constructor <;> k_is
   case ZD3d|ZD2u|ZD3c|ZD3k|ZD2v => k_is
   case ZD4r => kit_is
   case Zku => (refine' TR.Fb.mk ?a ?i ?l ?c ?k; (case a => k_is); (case i => k_is); (case l => k_is); (case c => k_is); (case k => k_is))
   case ZG5j => k_is
   case ZD2c => constructor <;> k_is
   case ZD6e|ZD4p|ZD4u|ZD3m|ZD3w => k_is
   case ZD4t => kit_is
   case Zky => (refine' TR.Fb.mk ?a ?i ?l ?c ?k; (case a => k_is); (case i => k_is); (case l => k_is); (case c => k_is); (case k => k_is))
   case ZG4d => k_is
   case ZD5u => constructor <;> k_is
   case ZD3u|ZD3f|ZD2x|ZD2w|ZD5v => k_is
   case ZD4n => kit_is
   case Zkz => (refine' TR.Fb.mk ?a ?i ?l ?c ?k; (case a => k_is); (case i => k_is); (case l => k_is); (case c => k_is); (case k => k_is))
   case ZG3v => k_is
   case ZD1q => constructor <;> k_is
   case ZD2n|ZD2d|ZD1m|ZD1z|ZD2q => k_is
   case ZD1y => kit_is
   case Zk_ => (refine' TR.Fb.mk ?a ?i ?l ?c ?k; (case a => k_is); (case i => k_is); (case l => k_is); (case c => k_is); (case k => k_is))
   case ZG4m => k_is
   case ZD3z => constructor <;> k_is
   case ZD1x|ZD1r|ZD2f|ZD2m|ZD2a => k_is
   case ZD3h => kit_is
   case Zl7 => (refine' TR.Fb.mk ?a ?i ?l ?c ?k; (case a => k_is); (case i => k_is); (case l => k_is); (case c => k_is); (case k => k_is))
   case ZG4h => k_is
   case ZD3j => constructor <;> k_is
   case ZD3q|ZD4f|ZD5q|ZD3v|ZD6d => k_is
   case ZD1u => kit_is
   case Zl9 => (refine' TR.Fb.mk ?a ?i ?l ?c ?k; (case a => k_is); (case i => k_is); (case l => k_is); (case c => k_is); (case k => k_is))
   case ZG4c => k_is
   case ZD2p => constructor <;> k_is
   case ZD5c|ZD5g|ZD1w|ZD4g|ZD5j => k_is
   case ZD2e => kit_is
   case Zla => (refine' TR.Fb.mk ?a ?i ?l ?c ?k; (case a => k_is); (case i => k_is); (case l => k_is); (case c => k_is); (case k => k_is))
   case ZG3u => k_is
   case ZD6c => constructor <;> k_is
   case ZD5h|ZD3e|ZD4s|ZD4k|ZD2k => k_is
   case ZD2g => kit_is
   case Zlb => (refine' TR.Fb.mk ?a ?i ?l ?c ?k; (case a => k_is); (case i => k_is); (case l => k_is); (case c => k_is); (case k => k_is))
   case ZG4n => k_is
   case ZD1t => constructor <;> k_is
   case ZD2b|ZD1n|ZD4d|ZD5r|ZA8x|ZA8v|ZA3x|ZA6m|ZD4q|ZD5b|ZD3b|ZD2j|ZD5e => k_is
   case ZB6v => kit_is
   case Zc4|Zgx|Zc5|Zgy|Zc6|Zgz|Zc7|Zg_|Zc8|Zh6|Zc9|Zh_|Zcb|Zi0|Zcf|Zi4 => (refine' TR.Fb.mk ?a ?i ?l ?c ?k; (case a => k_is); (case i => k_is); (case l => k_is); (case c => k_is); (case k => k_is))
   case ZG5k => k_is
   case ZD4e => constructor <;> k_is
   case ZD3r|ZD2y|ZA8y|ZA8w|ZA6k|ZA8u|ZA6j|ZA3w|ZD6b|ZD5f|ZD1p|ZD3s|ZD5s|ZD5x => k_is
   case Zjj|Zi5|Zo5|Zi6|Zjk => (refine' TR.Fb.mk ?a ?i ?l ?c ?k; (case a => k_is); (case i => k_is); (case l => k_is); (case c => k_is); (case k => k_is))
   case ZG3y => k_is
   case ZD1v => constructor <;> k_is
   case ZD5d|ZD4w|ZD2s|ZD4z|ZB2w|ZA5e|ZA6h|ZD5t|ZD5a|ZD3p|ZD6a|ZD2h|ZB9h => k_is
   case Zjm|Zpj => (refine' TR.Fb.mk ?a ?i ?l ?c ?k; (case a => k_is); (case i => k_is); (case l => k_is); (case c => k_is); (case k => k_is))
   case ZG4k => k_is
   case ZD3x => kit_is
   case ZD9y|ZD9z|ZG0b|ZG0a|ZD4h|ZD4m|Zcty|Zccl|Zcex|Zsub5|Zxga5|Zxgh5|Zxca5|Zxob5|Zxbe5|Zxcl5 => k_is
   case ZG9v|ZJ0d|ZG9s|ZG9b|ZG9k|Zhv5 => kit_is
   case ZlT|ZlN => k_is
   case ZalN => simp
   case ZniT|ZlT1|ZsaT|Znsg5|ZD9x|ZG5f|ZG5s => k_is
   case ZfcT => rfl
   case ZkTR => kit_is
   case Zq1|Zq2|Zq3|Zq4 => k_exc
   case Za_S|ZlS => k_is
   case Zle => (refine' TR.Fb.mk ?a ?i ?l ?c ?k; (case a => k_is); (case i => k_is); (case l => k_is); (case c => k_is); (case k => k_is))
   case ZA5d|ZC1y|ZC1v|ZB6y|ZB2v|ZB6x|ZB6w => kit_is
   case Zsub2|Zxga2|Zxgh2|Zxca2|Zxob2|Zxbe2|Zxcl2 => k_is
   case ZG4v|ZG4p|ZG4e|ZG5t|ZG4f|Zhv2 => kit_is
   case ZtyT|ZsubT|Zsub4|Zxga4|Zxgh4|Zxca4|Zxob4|Zxbe4|Zxcl4 => k_is
   case ZG5b|ZG5m|ZG5g|ZG4q|ZG5h|Zhv4 => kit_is

