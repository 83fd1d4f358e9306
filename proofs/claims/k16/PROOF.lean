import PyProof.Rows.All
import Wide.All
import OpenK.AllK
import Wide.FinOn
import Lean
import PyProof.EqAt
import PyProof.EqKinds
import PyProof.TupleCall
import PyProof.NeKinds
import KE.KRevIter
import KE.KSortTup
import Wide.Txt2
import PyProof.FString4
import KE.KIntText
import PyProof.ZipIter
import PyProof.TupleIter
import PyProof.WalksMore
import KE.KIsAll
import PyProof.ExcArgsOwn
import PyProof.ExcAttrAll.ValueError
import OpenK.KDescr
import PyProof.StationsW
import OpenK.KOwn
import KE.KTryMore
import OpenK.KRaise
import PyProof.RulesDel
import PyProof.RulesAs
import PyProof.Rows.Catch
import PyProof.StrLawsIn
import PyProof.Rows.StrReprFit
import PySem.Challenge.RW_flagroll_k16_conditions_refused
set_option maxHeartbeats 8000000
set_option Elab.async false
set_option linter.all false
set_option maxRecDepth 100000
namespace L2
open PySem PySem.Spec PyProof.Rows
noncomputable abbrev Key:=Sum Int Str
noncomputable def keyIs:Key→Value→Bool
 | .inl k,v=>Value.isInt k v
 | .inr x,v=>Value.isStrOf x v
noncomputable def keyH (w:World):Key→Int
 | .inl k=>hashInt k
 | .inr x=>hashStr w x
theorem keyIs_shape:∀ {k:Key} {v:Value},keyIs k v=true→(∃ i t,k=Sum.inl i∧v=Value.int i t)∨(∃ x t,k=Sum.inr x∧v=Value.str x t)
 | .inl i,v,h=>by
  obtain⟨t,e⟩:=Value.isInt_shape (k:=i) (v:=v) h
  exact .inl ⟨i,t,rfl,e⟩
 | .inr x,v,h=>by
  obtain⟨t,e⟩:=Value.isStrOf_shape (x:=x) (v:=v) h
  exact .inr ⟨x,t,rfl,e⟩
theorem key_ll (a b:Int):decide ((Sum.inl a:Key)=Sum.inl b)=(a == b):=by
 by_cases e:a=b
 ·subst e;simp
 ·have h:¬ (Sum.inl a:Key)=Sum.inl b:=fun q=>e (Sum.inl.inj q)
  rw[decide_eq_false h]
  exact(beq_eq_false_iff_ne.mpr e).symm
theorem key_rr (a b:Str):decide ((Sum.inr a:Key)=Sum.inr b)=decide (a=b):=by
 by_cases e:a=b
 ·subst e;simp
 ·have h:¬ (Sum.inr a:Key)=Sum.inr b:=fun q=>e (Sum.inr.inj q)
  rw[decide_eq_false h,decide_eq_false e]
theorem key_lr (a:Int) (b:Str):decide ((Sum.inl a:Key)=Sum.inr b)=false:=decide_eq_false (fun q=>nomatch q)
theorem key_rl (a:Str) (b:Int):decide ((Sum.inr a:Key)=Sum.inl b)=false:=decide_eq_false (fun q=>nomatch q)
noncomputable def mixKind (prog:Program) (w:World):PySem.KeyKind prog w Key where
 is:=keyIs
 hash:=keyH w
 inj:=fun v a b ha hb=>by
  rcases keyIs_shape ha with ⟨i,t,rfl,rfl⟩ | ⟨x,t,rfl,rfl⟩
  ·rcases keyIs_shape hb with ⟨j,u,rfl,e⟩ | ⟨y,u,rfl,e⟩
   ·injection e with e1 _;rw[e1]
   ·exact nomatch e
  ·rcases keyIs_shape hb with ⟨j,u,rfl,e⟩ | ⟨y,u,rfl,e⟩
   ·exact nomatch e
   ·injection e with e1 _;rw[e1]
 byValue:=fun k v h=>by
  rcases keyIs_shape h with ⟨i,t,rfl,rfl⟩ | ⟨x,t,rfl,rfl⟩<;>rfl
 pyHash:=fun hv h=>by
  rcases keyIs_shape hv with ⟨i,t,rfl,rfl⟩ | ⟨x,t,rfl,rfl⟩
  ·exact wpAny_pyHash_int h
  ·exact wpAny_pyHash_str h
 eqBool:=fun hu hv h=>by
  rcases keyIs_shape hu with ⟨i,t,rfl,rfl⟩ | ⟨x,t,rfl,rfl⟩
  ·rcases keyIs_shape hv with ⟨j,u,rfl,rfl⟩ | ⟨y,u,rfl,rfl⟩
   ·rw[key_ll] at h;exact wpAny_eqBool_int h
   ·rw[key_lr] at h;exact SeqAt.EqAt.int_str i t y u _ _ _ _ h
  ·rcases keyIs_shape hv with ⟨j,u,rfl,rfl⟩ | ⟨y,u,rfl,rfl⟩
   ·rw[key_rl] at h;exact SeqAt.EqAt.str_int x t j u _ _ _ _ h
   ·rw[key_rr] at h;exact wpAny_eqBool_str h
 «strs»:=fun k x t v h=>by
  rcases keyIs_shape h with ⟨i,u,rfl,e⟩ | ⟨y,u,rfl,e⟩
  ·exact nomatch e
  ·injection e with e1 _
   subst e1
   cases v<;>rfl
end L2
namespace L2
open PySem PySem.Spec PyProof.Rows
inductive V where
 | non | bl (b:Bool) | int (i:Int) | str (x:Str) | byt (b:Array UInt8) | flt (b:UInt64) | ref (a:Addr) | ty (n:String)
 deriving DecidableEq
noncomputable def RelV:V→Value→Prop
 | .non,u=>u=Value.none
 | .bl b,u=>u=Value.bool b
 | .int i,u=>∃ t,u=Value.int i t
 | .str x,u=>∃ t,u=Value.str x t
 | .byt b,u=>∃ t,u=Value.bytes b t
 | .flt b,u=>∃ t,u=Value.float b t
 | .ref a,u=>u=Value.ref a
 | .ty n,u=>u=Value.type n
noncomputable abbrev Vals:List V→List Value→Prop:=Paired RelV
theorem Vals.length {xs:List V} {us:List Value} (r:Vals xs us):xs.length=us.length:=Paired.length r
theorem Vals.get:∀ {xs:List V} {us:List Value} {i:Nat} {x:V},Vals xs us→xs[i]? = some x→∃ u,us[i]? = some u∧RelV x u
 | _,_,_,_,.nil,e=>by simp at e
 | _,_,0,_,.cons r _,e=>by simp at e;subst e;exact⟨_,rfl,r⟩
 | _,_,i + 1,x,.cons _ t,e=>by
  obtain⟨u,h1,h2⟩:=Vals.get (i:=i) (x:=x) t (by simpa using e)
  exact⟨u,by simpa using h1,h2⟩
theorem Vals.set {x:V} {u:Value} (r:RelV x u):∀ {xs:List V} {us:List Value} (i:Nat),Vals xs us→Vals (xs.set i x) (us.set i u)
 | _,_,_,.nil=>.nil
 | _,_,0,.cons _ t=>.cons r t
 | _,_,i + 1,.cons q t=>.cons q (Vals.set r i t)
theorem Vals.append:∀ {xs ys:List V} {us ws:List Value},Vals xs us→Vals ys ws→Vals (xs++ys) (us++ws)
 | _,_,_,_,.nil,s=>s
 | _,_,_,_,.cons r t,s=>.cons r (Vals.append t s)
theorem Vals.take:∀ {xs:List V} {us:List Value} (n:Nat),Vals xs us→Vals (xs.take n) (us.take n)
 | _,_,0,_=>.nil
 | _,_,_ + 1,.nil=>.nil
 | _,_,n + 1,.cons r t=>.cons r (Vals.take n t)
theorem Vals.drop:∀ {xs:List V} {us:List Value} (n:Nat),Vals xs us→Vals (xs.drop n) (us.drop n)
 | _,_,0,r=>r
 | _,_,_ + 1,.nil=>.nil
 | _,_,n + 1,.cons _ t=>Vals.drop n t
noncomputable def RelO:Option V→Option Value→Prop
 | some v,some u=>RelV v u
 | none,none=>True
 | _,_=>False
noncomputable def KV {κ:Type}:List (κ×V)→List (κ×Value)→Prop:=Paired fun (p:κ×V) (q:κ×Value)=>p.1=q.1∧RelV p.2 q.2
noncomputable def kV:Key→V
 | .inl i=>.int i
 | .inr x=>.str x
inductive HO where
 | lst (xs:List V)
 | tup (xs:List V)
 | dK (kvs:List (Key×V)) | dT (kvs:List (List Key×V))
 | set (S:Int→Bool) (n:Nat)
 | ins (C dx:Addr) (fs:List (Str×V))
 | own (x:Addr)
 | xd (fs:List (Str×V))
 | met (f x:Addr)
 | rng (lo hi:Int)
 | frz (o:Obj) (u:HO)
 | tbl (ps:Array Value)
 | ext (φ:Heap→Prop)
noncomputable abbrev Hp:=Addr→Option HO
noncomputable def upd (H:Hp) (a:Addr) (o:HO):Hp:=fun b=>if b=a then some o else H b
theorem upd_same {H:Hp} {a:Addr} {o:HO}:upd H a o a=some o:=by unfold upd;rw[if_pos rfl]
theorem upd_ne {H:Hp} {a b:Addr} {o:HO} (h:b≠a):upd H a o b=H b:=by unfold upd;rw[if_neg h]
theorem ne_of_none {H:Hp} {a b:Addr} {o:HO} (h:H a=some o) (h':H b=none):a≠b:=by
 intro e;subst e;rw[h] at h';cases h'
section
variable (P:Program) (w:World)
noncomputable def ObjOk (H:Hp) (h:Heap) (a:Addr):HO→Prop
 | .lst xs=>xs.length≤sizeLine∧∃ (its:List Value) (n:Nat),Vals xs its∧h.get? a=some {cls:=.type "list",data:=.seq its.toArray n}
 | .tup xs=>xs.length≤sizeLine∧∃ its:List Value,Vals xs its∧IsTup h a its.toArray
 | .dK kvs=>kvs.length≤sizeLine∧(a == sysModules)=false∧∃ vs,KV kvs vs∧h.DictOf (mixKind P w) a vs
 | .dT kvs=>kvs.length≤sizeLine∧(a == sysModules)=false∧∃ xs:List (List Key×Addr×Value),
   Paired (fun (p:List Key×V) (q:List Key×Addr×Value)=>p.1=q.1∧H q.2.1=some (.tup (p.1.map kV))∧RelV p.2 q.2.2) kvs xs∧
   ∃ o es ep,h.get? a=some o∧o.ExactDict∧o.data=.dict es ep∧es.toList=xs.map (entryOfKey (tupleKind (mixKind P w)))∧(xs.map (·.1)).Nodup
 | .set S n=>h.SetOf (intKind P w) a S n
 | .ins C dx fs=>H dx=some (.own a)∧fs.length≤1000∧dx≠a∧h.get? a=some (PySem.W.instObj C dx)∧
   ∃ mA,h.Ns1 dx mA∧(∀ f,RelO (fs.lookup f) (mA f))∧PySem.Within mA (fs.map (·.1))
 | .own _=>∃ o,h.get? a=some o
 | .xd fs=>∃ mA,h.Ns1 a mA∧∀ f,RelO (fs.lookup f) (mA f)
 | .rng lo hi=>∃ t u v,h.get? a=some {cls:=.type "range",data:=.fields #[.int lo t,.int hi u,.int 1 v]}
 | .frz o u=>h.get? a=some o∧ObjOk H h a u
 | .tbl ps=>h.get? a=some {cls:=.none,data:=.fields ps}
 | .met f x=>h.get? a=some (PySem.W.methodObj (.ref f) (.ref x))
 | .ext φ=>φ h∧(∃ o,h.get? a=some o)∧∀ h1 h2:Heap,φ h1→(∀ o,h1.get? a=some o→h2.get? a=some o)→φ h2
noncomputable def HOk (H:Hp) (h:Heap):Prop:=∀ a o,H a=some o→ObjOk P w H h a o
end
section
variable {P:Program} {w:World} {H H':Hp} {h h':Heap} {a:Addr} {o:HO}
theorem ObjOk.lt (x:ObjOk P w H h a o):a < h.objs.size:=by
 cases o with
 | lst xs=>obtain⟨_,_,_,_,e⟩:=x;exact Heap.lt_size e
 | tup xs=>obtain⟨_,_,_,p⟩:=x;exact p.lt
 | dK kvs=>obtain⟨_,_,_,_,o,_,_,e,_⟩:=x;exact Heap.lt_size e
 | dT kvs=>obtain⟨_,_,_,_,o,_,_,e,_⟩:=x;exact Heap.lt_size e
 | set S n=>obtain⟨o,_,_,_,e,_⟩:=x;exact Heap.lt_size e
 | ins C dx fs=>obtain⟨_,_,_,e,_⟩:=x;exact Heap.lt_size e
 | own y=>obtain⟨_,e⟩:=x;exact Heap.lt_size e
 | xd fs=>obtain⟨_,⟨_,_,_,e,_⟩,_⟩:=x;exact Heap.lt_size e
 | rng lo hi=>obtain⟨_,_,_,e⟩:=x;exact Heap.lt_size e
 | frz ob u=>obtain⟨e,_⟩:=x;exact Heap.lt_size e
 | tbl ps=>exact Heap.lt_size (show h.get? a=some _ from x)
 | met f y=>exact Heap.lt_size (show h.get? a=some _ from x)
 | ext φ=>obtain⟨_,⟨_,e⟩,_⟩:=x;exact Heap.lt_size e
theorem Paired.mapP {α β:Type} {F G:α→β→Prop}:∀ {l₁:List α} {l₂:List β},Paired F l₁ l₂→(∀ a b,F a b→G a b)→Paired G l₁ l₂
 | _,_,.nil,_=>.nil
 | _,_,.cons r t,f=>.cons (f _ _ r) (Paired.mapP t f)
theorem ObjOk.stay (x:ObjOk P w H h a o) (k:∀ b u,(b=a∨H b=some (.own a))→h.get? b=some u→h'.get? b=some u)
  (ho:∀ b,H b=some (.own a)→H' b=some (.own a)) (ht:∀ b xs,H b=some (.tup xs)→H' b=some (.tup xs)):ObjOk P w H' h' a o:=by
 induction o with
 | lst xs=>obtain⟨z,its,n,r,e⟩:=x;exact⟨z,its,n,r,k _ _ (.inl rfl) e⟩
 | tup xs=>obtain⟨z,its,r,ob,e,c⟩:=x;exact⟨z,its,r,ob,k _ _ (.inl rfl) e,c⟩
 | dK kvs=>obtain⟨z,y,vs,r,ob,es,ep,e,c⟩:=x;exact⟨z,y,vs,r,ob,es,ep,k _ _ (.inl rfl) e,c⟩
 | dT kvs=>
  obtain⟨z,y,xs,r,ob,es,ep,e,c⟩:=x
  exact⟨z,y,xs,Paired.mapP r fun p q z=>⟨z.1,ht _ _ z.2.1,z.2.2⟩,ob,es,ep,k _ _ (.inl rfl) e,c⟩
 | set S n=>obtain⟨ob,es,ep,t,e,c⟩:=x;exact⟨ob,es,ep,t,k _ _ (.inl rfl) e,c⟩
 | ins C dx fs=>
  obtain⟨d,z,ne,e,mA,⟨od,es,ep,e2,c⟩,r⟩:=x
  exact⟨ho _ d,z,ne,k _ _ (.inl rfl) e,mA,⟨od,es,ep,k _ _ (.inr d) e2,c⟩,r⟩
 | own y=>obtain⟨ob,e⟩:=x;exact⟨ob,k _ _ (.inl rfl) e⟩
 | xd fs=>obtain⟨mA,⟨od,es,ep,e,c⟩,r⟩:=x;exact⟨mA,⟨od,es,ep,k _ _ (.inl rfl) e,c⟩,r⟩
 | rng lo hi=>obtain⟨t,u,v,e⟩:=x;exact⟨t,u,v,k _ _ (.inl rfl) e⟩
 | frz ob u ih=>obtain⟨e,q⟩:=x;exact⟨k _ _ (.inl rfl) e,ih q⟩
 | tbl ps=>
  have e:h.get? a=some {cls:=.none,data:=.fields ps}:=x
  show h'.get? a=some {cls:=.none,data:=.fields ps}
  exact k a _ (.inl rfl) e
 | met f y=>
  have e:h.get? a=some (PySem.W.methodObj (.ref f) (.ref y)):=x
  show h'.get? a=some (PySem.W.methodObj (.ref f) (.ref y))
  exact k a _ (.inl rfl) e
 | ext φ=>obtain⟨p,⟨o,e⟩,st⟩:=x;exact⟨st _ _ p fun o q=>k _ _ (.inl rfl) q,⟨o,k _ _ (.inl rfl) e⟩,st⟩
theorem HOk.lt (x:HOk P w H h) (e:H a=some o):a < h.objs.size:=(x a o e).lt
theorem HOk.fresh (x:HOk P w H h) (e:h.objs.size≤a):H a=none:=by
 cases q:H a with
 | none=>rfl
 | some u=>exact absurd (Nat.lt_of_lt_of_le (x.lt q) e) (Nat.lt_irrefl _)
theorem HOk.kept (x:HOk P w H h) (k:∀ b u,h.get? b=some u→h'.get? b=some u):HOk P w H h':=fun a o e=>
 (x a o e).stay (fun b u _ q=>k b u q) (fun _ q=>q) fun _ _ q=>q
theorem HOk.laid (x:HOk P w H h) (k:∀ b u,h.get? b=some u→h'.get? b=some u) (hp:h.objs.size≤a) (new:ObjOk P w (upd H a o) h' a o):HOk P w (upd H a o) h':=fun b u e=>by
 have hn:=x.fresh hp
 by_cases hb:b=a
 ·subst hb;rw[upd_same] at e;cases e;exact new
 ·rw[upd_ne hb] at e
  exact(x b u e).stay (fun c v _ q=>k c v q) (fun c q=>by rw[upd_ne (ne_of_none q hn)];exact q) fun c xs q=>by rw[upd_ne (ne_of_none q hn)];exact q
end
noncomputable def Rd (H:Hp) (a:Addr) (u:HO):Prop:=H a=some u∨∃ o,H a=some (.frz o u)
theorem Rd.ok {P:Program} {w:World} {H:Hp} {h:Heap} {a:Addr} {u:HO} (r:Rd H a u) (x:HOk P w H h):ObjOk P w H h a u:=by
 rcases r with r | ⟨o,r⟩
 ·exact x a u r
 ·obtain⟨_,q⟩:=x a _ r
  exact q
noncomputable def Mut:Option HO→Prop
 | some (.lst _)=>True
 | some (.dK _)=>True
 | some (.dT _)=>True
 | some (.set _ _)=>True
 | some (.ins _ _ _)=>True
 | some (.ext _)=>True
 | _=>False
section
variable {P:Program} {w:World} {H:Hp} {h h':Heap} {x e:Addr} {o':HO}
theorem HOk.write (ok:HOk P w H h) (mu:Mut (H x)) (he:e=x∨H e=some (.own x)) (k:∀ b u,b≠e→h.get? b=some u→h'.get? b=some u) (heo:∃ u,h'.get? e=some u)
  (new:ObjOk P w (upd H x o') h' x o'):HOk P w (upd H x o') h':=fun b u q=>by
 have nown:∀ c y,H c=some (.own y)→c≠x:=fun c y r z=>by subst z;rw[r] at mu;exact mu
 have ntup:∀ c xs,H c=some (.tup xs)→c≠x:=fun c xs r z=>by subst z;rw[r] at mu;exact mu
 by_cases hb:b=x
 ·subst hb;rw[upd_same] at q;cases q;exact new
 ·rw[upd_ne hb] at q
  by_cases hbe:b=e
  ·have q':H b=some (.own x):=by
    rcases he with z | z
    ·exact absurd (hbe.trans z) hb
    ·rw[hbe];exact z
   rw[q] at q';cases q'
   obtain⟨v,hv⟩:=heo
   exact⟨v,by rw[hbe];exact hv⟩
  ·refine(ok b u q).stay (fun c v hc r=>k c v ?_ r) (fun c r=>by rw[upd_ne (nown c b r)];exact r) fun c xs r=>by rw[upd_ne (ntup c xs r)];exact r
   rcases hc with rfl | hc
   ·exact hbe
   ·rintro rfl
    rcases he with z | z
    ·exact nown c b hc z
    ·rw[hc] at z;cases z;exact hb rfl
end
structure Un (fs ex:List Addr) (H H':Hp) (h h':Heap):Prop where
 keep:∀ b o,h.get? b=some o→H b=none→b ∉ fs→b ∉ ex→h'.get? b=some o
 slot:∀ b o,h.get? b=some o→H b=none→b ∈ fs→b ∉ ex→∃ sl,h'.get? b=some {o with slots:=sl}
 free:∀ b o,h.get? b=some o→H b=none→b ∉ ex→H' b=none
 there:∀ b o,h.get? b=some o→b ∉ ex→∃ o',h'.get? b=some o'
 tups:∀ b xs,H b=some (.tup xs)→H' b=some (.tup xs)
 frzs:∀ b o u,H b=some (.frz o u)→H' b=some (.frz o u)
 tbls:∀ b ps,H b=some (.tbl ps)→∃ more,H' b=some (.tbl (ps++more))
section
variable {fs fs' ex ex':List Addr} {H H1 H2:Hp} {h h1 h2 h':Heap} {a x e:Addr} {o:HO}
theorem Un.any (u:Un fs ex H H1 h h1) {b:Addr} {ob:Obj} (q:h.get? b=some ob) (n:H b=none) (hx:b ∉ ex):∃ sl,h1.get? b=some {ob with slots:=sl}:=by
 by_cases hb:b ∈ fs
 ·exact u.slot b ob q n hb hx
 ·exact⟨ob.slots,u.keep b ob q n hb hx⟩
theorem Un.kept (k:∀ b u,h.get? b=some u→h'.get? b=some u):Un fs ex H H h h':=
 ⟨fun b ob q _ _ _=>k b ob q,fun b ob q _ _ _=>⟨ob.slots,k b ob q⟩,fun _ _ _ n _=>n,fun b ob q _=>⟨ob,k b ob q⟩,fun _ _ q=>q,fun _ _ _ q=>q,fun _ ps q=>⟨#[],by rw[q];simp⟩⟩
theorem Un.refl:Un fs ex H H h h:=Un.kept fun _ _ q=>q
theorem Un.laid (k:∀ b u,h.get? b=some u→h'.get? b=some u) (hp:h.objs.size≤a) (hn:H a=none):Un fs ex H (upd H a o) h h' where
 keep:=fun b u q _ _ _=>k b u q
 slot:=fun b u q _ _ _=>⟨u.slots,k b u q⟩
 free:=fun b u q n _=>by rw[upd_ne (Nat.ne_of_lt (Nat.lt_of_lt_of_le (Heap.lt_size q) hp))];exact n
 there:=fun b u q _=>⟨u,k b u q⟩
 tups:=fun b xs q=>by rw[upd_ne (ne_of_none q hn)];exact q
 frzs:=fun b u xs q=>by rw[upd_ne (ne_of_none q hn)];exact q
 tbls:=fun b ps q=>⟨#[],by rw[upd_ne (ne_of_none q hn),q];simp⟩
theorem Un.write (mu:Mut (H x)) (he:e=x∨H e=some (.own x)) (k:∀ b u,b≠e→h.get? b=some u→h'.get? b=some u) (heo:∃ u,h'.get? e=some u):Un fs ex H (upd H x o) h h':=by
 have hx:∀ b,H b=none→b≠x:=fun b n z=>by subst z;rw[n] at mu;exact mu
 have hb:∀ b,H b=none→b≠e:=fun b n z=>by
  subst z
  rcases he with r | r
  ·exact hx b n r
  ·rw[n] at r;cases r
 have hm:∀ b u,H b=some u→¬ Mut (some u)→b≠x:=fun b u q nm z=>by subst z;rw[q] at mu;exact nm mu
 refine⟨fun b u q n _ _=>k b u (hb b n) q,fun b u q n _ _=>⟨u.slots,k b u (hb b n) q⟩,fun b u q n _=>by rw[upd_ne (hx b n)];exact n,fun b u q _=>?_,
  fun b xs q=>by rw[upd_ne (hm b _ q fun z=>z)];exact q,fun b u xs q=>by rw[upd_ne (hm b _ q fun z=>z)];exact q,fun b ps q=>⟨#[],by rw[upd_ne (hm b _ q fun z=>z),q];simp⟩⟩
 by_cases hbe:b=e
 ·subst hbe;exact heo
 ·exact⟨u,k b u hbe q⟩
end
noncomputable def trk (h:Heap) (H:Hp):List Addr:=(List.range h.objs.size).filter fun a=>(H a).isSome
noncomputable def hidT (h:Heap) (H:Hp):Heap:=PySem.W.hideAll h (trk h H)
theorem hidT_size (h:Heap) (H:Hp):(hidT h H).objs.size=h.objs.size:=PySem.W.hideAll_size _ _
theorem hidT_get {h:Heap} {H:Hp} {b:Addr} {o:Obj} (e:h.get? b=some o) (n:H b=none):(hidT h H).get? b=some o:=
 PySem.W.hideAll_get _ e fun hm=>by
  have q:(H b).isSome=true:=(List.mem_filter.mp hm).2
  rw[n] at q;simp at q
theorem of_hidT {h:Heap} {H:Hp} {b:Addr} {o:Obj} (e:(hidT h H).get? b=some o):h.get? b=some o∧H b=none:=by
 have e':h.get? b=some o:=PySem.W.of_hideAll (trk h H) e
 refine⟨e',?_⟩
 cases q:H b with
 | none=>rfl
 | some x=>
  have hm:b ∈ trk h H:=List.mem_filter.mpr ⟨List.mem_range.mpr (Heap.lt_size e'),by simp[q]⟩
  have z:(hidT h H).get? b=none:=PySem.W.hideAll_none (trk h H) hm
  rw[z] at e;cases e
end L2
namespace L2
open PySem PySem.Spec PyProof.Rows
structure Mod (K:PySem.W.Frag) (mg:Str→Option Value) (base:Heap):Prop where
 kin:K.In base
 glob:base.Ns mainGlobals mg
 blt:∃ mb,base.Ns builtinsNs mb∧∀ x:Str,x≠"__name__"→mb x=bootBuiltins x
 nolimit:base.NoLimit
structure Cx where
 prog:Program
 w:World
 K:PySem.W.Frag
 mg:Str→Option Value
 base:Heap
 A:Around
 N:List Str
 s₀:Shared
 H₀:Hp
 env:Env
 outer:List Env
 stack:List Env
 ex:List Addr
 fn:Str→Bool
 calm:Bool
 pn:List (Addr×Obj)
 xe:Value→Shared→Prop
noncomputable def frs (l:List Env):List Addr:=l.filterMap (·.frame)
noncomputable abbrev Cx.fs (X:Cx):List Addr:=frs X.outer
noncomputable def Vis (sc:Scope) (x:Str):Prop:=sc.names.lookup x=some .local∨sc.names.lookup x=some .cell∨sc.names.lookup x=some .free
noncomputable def Loc (sc:Scope) (x:Str):Prop:=sc.names.lookup x=some .local∨sc.names.lookup x=some .cell
noncomputable def Look (env:Env) (h:Heap) (m:Str→Option Value) (x:Str) (u:Value):Prop:=
 (env.kindOf x=some .local∧m x=some u)∨((env.kindOf x=some .cell∨env.kindOf x=some .free)∧∃ c,env.cells.lookup x=some c∧h.IsCell c (some u))
structure Cx.Ok (X:Cx):Prop where
 mod:Mod X.K X.mg X.base
 kind:X.env.scope.kind=.function
 glob:X.env.globals=mainGlobals
 blt:X.env.builtins=builtinsNs
 above:X.s₀.heap.objs.size≤X.env.locals
 inj:∀ x y c,X.env.cells.lookup x=some c→X.env.cells.lookup y=some c→x=y
 has:∀ x,(X.env.kindOf x=some .cell∨X.env.kindOf x=some .free)→∃ c,X.env.cells.lookup x=some c
 cab:∀ x c,X.fn x=true→X.env.cells.lookup x=some c→X.s₀.heap.objs.size≤c
 hd:X.calm=true→X.A.handled=none
 frames:X.A.frames=some X.stack
 stk:X.stack=X.outer∨(X.stack=X.env::X.outer∧X.env.frame=some X.env.locals)
 exf:∀ b ∈ X.ex,b≠X.env.locals∧∀ x c,X.env.cells.lookup x=some c→c≠b
 bs:∀ b o,X.base.get? b=some o→X.s₀.heap.get? b=some o∧X.H₀ b=none
 bsz:X.base.objs.size≤X.s₀.heap.objs.size
 noex:∀ b o,X.base.get? b=some o→b ∉ X.ex
 exfs:∀ b ∈ X.ex,b ∉ X.fs
 funs:X.s₀.heap.FunFrames X.base X.outer
 frf:∀ b ∈ X.fs,X.H₀ b=none
structure Inv (X:Cx) (pins:List (Addr×Obj)) (σ:List (Option V)) (H:Hp) (s:Shared):Prop where
 ok:X.Ok
 os:s.os=X.s₀.os
 bare:AllBare s.gens
 base:Un X.fs X.ex X.H₀ H X.s₀.heap s.heap
 loc:∃ m,s.heap.Ns X.env.locals m∧∀ (i:Nat) (x:Str) (v:V),X.N[i]? = some x→σ[i]? = some (some v)→Vis X.env.scope x→∃ u,RelV v u∧Look X.env s.heap m x u
 cell:∀ x c,X.env.cells.lookup x=some c→∃ v,s.heap.IsCell c v
 free:H X.env.locals=none
 freeC:∀ x c,X.env.cells.lookup x=some c→H c=none
 pin:∀ p ∈ X.pn++pins,s.heap.get? p.1=some p.2∧H p.1=none∧p.1≠X.env.locals∧p.1 ∉ X.fs∧∀ v,p.2.data≠.cell v
 hok:HOk X.prog X.w H s.heap
 len:σ.length=X.N.length
section
variable {X:Cx} {pins:List (Addr×Obj)} {σ:List (Option V)} {H H':Hp} {s:Shared} {h':Heap}
theorem Cx.Ok.nofr (ok:X.Ok) {b:Addr} {o:Obj} (e:X.base.get? b=some o):b ∉ X.fs:=fun hb=>by
 have:=(ok.funs.mem hb).1
 rw[e] at this;cases this
theorem Inv.bs (I:Inv X pins σ H s):∀ b o,X.base.get? b=some o→s.heap.get? b=some o∧H b=none:=fun b o e=>
 ⟨I.base.keep b o (I.ok.bs b o e).1 (I.ok.bs b o e).2 (I.ok.nofr e) (I.ok.noex b o e),I.base.free b o (I.ok.bs b o e).1 (I.ok.bs b o e).2 (I.ok.noex b o e)⟩
theorem Inv.bk (I:Inv X pins σ H s):∀ b o,X.base.get? b=some o→s.heap.get? b=some o:=fun b o e=>(I.bs b o e).1
theorem Inv.mod (I:Inv X pins σ H s):Mod X.K X.mg X.base:=I.ok.mod
theorem Inv.kIn (I:Inv X pins σ H s):X.K.In s.heap:=I.ok.mod.kin.keeps I.bk
theorem Inv.lt (I:Inv X pins σ H s):X.env.locals < s.heap.objs.size:=let ⟨_,hn,_⟩:=I.loc;hn.lt
theorem Inv.sz (I:Inv X pins σ H s):X.s₀.heap.objs.size≤s.heap.objs.size:=Nat.le_trans I.ok.above (Nat.le_of_lt I.lt)
theorem Inv.nofs (I:Inv X pins σ H s) {a:Addr} (h:s.heap.objs.size≤a):a ∉ X.fs:=fun hb=>by
 obtain⟨_,o,ho,_⟩:=I.ok.funs.mem hb
 exact absurd (Nat.lt_of_lt_of_le (Heap.lt_size ho) (Nat.le_trans I.sz h)) (Nat.lt_irrefl _)
theorem Inv.cne (I:Inv X pins σ H s):∀ x c,X.env.cells.lookup x=some c→c≠X.env.locals:=fun x c e z=>by
 obtain⟨v,o,ho,hd⟩:=I.cell x c e
 obtain⟨m,⟨o',es,ep,ho',hd',_⟩,_⟩:=I.loc
 rw[z,ho'] at ho;cases ho;rw[hd'] at hd;cases hd
theorem Inv.funs (I:Inv X pins σ H s):s.heap.FunFrames X.base X.outer:=by
 have all:∀ (l:List Env),(∀ b ∈ frs l,b ∈ X.fs)→X.s₀.heap.FunFrames X.base l→s.heap.FunFrames X.base l:=by
  intro l
  induction l with
  | nil=>intro _ _;trivial
  | cons env r ih=>
   intro hs hl
   obtain⟨hk,⟨L,o,hf,hn,ho,hd⟩,hr⟩:=hl
   have hL:L ∈ X.fs:=hs L (by unfold frs;rw[List.filterMap_cons,hf];exact List.mem_cons_self)
   obtain⟨sl,e⟩:=I.base.slot L o ho (I.ok.frf L hL) hL fun z=>I.ok.exfs L z hL
   exact⟨hk,⟨L,_,hf,hn,e,hd⟩,ih (fun b hb=>hs b (by unfold frs;rw[List.filterMap_cons,hf];exact List.mem_cons_of_mem _ hb)) hr⟩
 exact all X.outer (fun _ hb=>hb) I.ok.funs
theorem Inv.stack (I:Inv X pins σ H s):s.heap.FunFrames X.base X.stack:=by
 rcases I.ok.stk with e | ⟨e,hf⟩
 ·rw[e];exact I.funs
 ·rw[e]
  obtain⟨m,hn,_⟩:=I.loc
  refine .cons (by rw[I.ok.kind];decide) hf hn ?_ I.funs
  exact Heap.get?_none_of_le (Nat.le_trans I.ok.bsz I.ok.above)
theorem Inv.stkSub (I:Inv X pins σ H s):∀ b ∈ frs X.stack,b ∈ X.env.locals::X.fs:=fun b hb=>by
 rcases I.ok.stk with e | ⟨e,hf⟩
 ·rw[e] at hb;exact List.mem_cons_of_mem _ hb
 ·rw[e] at hb
  unfold frs at hb
  rw[List.filterMap_cons,hf] at hb
  exact hb
theorem Inv.stkFree (I:Inv X pins σ H s):∀ b ∈ frs X.stack,H b=none:=fun b hb=>by
 rcases List.mem_cons.mp (I.stkSub b hb) with e | hb
 ·rw[e];exact I.free
 ·obtain⟨_,o,ho,_⟩:=I.ok.funs.mem hb
  exact I.base.free b o ho (I.ok.frf b hb) fun z=>I.ok.exfs b z hb
theorem Inv.step {g':Array GenState} {t':Nat} {d':Drawn} {ch:List Addr} (I:Inv X pins σ H s)
  (hch:∀ b ∈ ch,(b ∈ X.ex∨X.s₀.heap.objs.size≤b)∧b≠X.env.locals∧(∀ x c,X.env.cells.lookup x=some c→c≠b)∧∀ p ∈ X.pn++pins,p.1≠b)
  (keep:∀ b o,b≠X.env.locals→b ∉ X.fs→b ∉ ch→s.heap.get? b=some o→H b=none→h'.get? b=some o)
  (slot:∀ b o,b≠X.env.locals→b ∈ X.fs→b ∉ ch→s.heap.get? b=some o→H b=none→∃ sl,h'.get? b=some {o with slots:=sl}) (free:∀ b o,b ∉ ch→s.heap.get? b=some o→H b=none→H' b=none)
  (there:∀ b o,b ∉ ch→s.heap.get? b=some o→∃ o',h'.get? b=some o')
  (tups:∀ b xs,H b=some (.tup xs)→H' b=some (.tup xs)) (frzs:∀ b o u,H b=some (.frz o u)→H' b=some (.frz o u)) (tbls:∀ b ps,H b=some (.tbl ps)→∃ more,H' b=some (.tbl (ps++more)))
  (ns:∀ m,s.heap.Ns X.env.locals m→h'.Ns X.env.locals m) (hok:HOk X.prog X.w H' h') (hg:AllBare g') :
  Inv X pins σ H' {s with heap:=h',gens:=g',drawn:=d',toks:=t'}:=by
 have neL:∀ b o,X.s₀.heap.get? b=some o→b≠X.env.locals:=fun b o e=>Nat.ne_of_lt (Nat.lt_of_lt_of_le (Heap.lt_size e) I.ok.above)
 have neC:∀ b o,X.s₀.heap.get? b=some o→b ∉ X.ex→b ∉ ch:=fun b o e hx hb=>by
  rcases (hch b hb).1 with z | z
  ·exact hx z
  ·exact absurd (Nat.lt_of_lt_of_le (Heap.lt_size e) z) (Nat.lt_irrefl _)
 have cellK:∀ x c,X.env.cells.lookup x=some c→∀ v,s.heap.IsCell c v→h'.IsCell c v:=fun x c e v ⟨o,ho,hd⟩=>by
  have nch:c ∉ ch:=fun z=>(hch c z).2.2.1 x c e rfl
  by_cases hc:c ∈ X.fs
  ·obtain⟨sl,q⟩:=slot c o (I.cne x c e) hc nch ho (I.freeC x c e)
   exact⟨_,q,hd⟩
  ·exact⟨o,keep c o (I.cne x c e) hc nch ho (I.freeC x c e),hd⟩
 refine⟨I.ok,I.os,hg,⟨fun b o e n hb hx=>?_,fun b o e n hb hx=>?_,fun b o e n hx=>?_,fun b o e hx=>?_,fun b xs e=>tups b xs (I.base.tups b xs e),fun b o xs e=>frzs b o xs (I.base.frzs b o xs e),fun b ps e=>?_⟩,?_,fun x c e=>?_,?_,fun x c e=>?_,fun p hp=>?_,hok,I.len⟩
 ·exact keep b o (neL b o e) hb (neC b o e hx) (I.base.keep b o e n hb hx) (I.base.free b o e n hx)
 ·obtain⟨sl,e1⟩:=I.base.slot b o e n hb hx
  obtain⟨sl',e2⟩:=slot b _ (neL b o e) hb (neC b o e hx) e1 (I.base.free b o e n hx)
  exact⟨sl',e2⟩
 ·obtain⟨o',e1⟩:=I.base.there b o e hx
  exact free b o' (neC b o e hx) e1 (I.base.free b o e n hx)
 ·obtain⟨o',e1⟩:=I.base.there b o e hx
  exact there b o' (neC b o e hx) e1
 ·obtain⟨m1,e1⟩:=I.base.tbls b ps e
  obtain⟨m2,e2⟩:=tbls b _ e1
  exact⟨m1++m2,by rw[e2,Array.append_assoc]⟩
 ·obtain⟨m,hn,hl⟩:=I.loc
  refine⟨m,ns m hn,fun i x v e1 e2 e3=>?_⟩
  obtain⟨u,r,l⟩:=hl i x v e1 e2 e3
  refine⟨u,r,?_⟩
  rcases l with l | ⟨k,c,e,z⟩
  ·exact .inl l
  ·exact .inr ⟨k,c,e,cellK x c e _ z⟩
 ·obtain⟨v,z⟩:=I.cell x c e
  exact⟨v,cellK x c e v z⟩
 ·obtain⟨m,⟨o,_,_,ho,_⟩,_⟩:=I.loc
  exact free _ o (fun z=>(hch _ z).2.1 rfl) ho I.free
 ·obtain⟨v,o,ho,hd⟩:=I.cell x c e
  exact free c o (fun z=>(hch c z).2.2.1 x c e rfl) ho (I.freeC x c e)
 ·obtain⟨e,n,ne,nf,d⟩:=I.pin p hp
  have nch:p.1 ∉ ch:=fun z=>(hch p.1 z).2.2.2 p hp rfl
  exact⟨keep p.1 p.2 ne nf nch e n,free p.1 p.2 nch e n,ne,nf,d⟩
theorem Inv.un {t':Nat} (I:Inv X pins σ H s) (u:Un X.fs [] H H' s.heap h') (hok:HOk X.prog X.w H' h'):Inv X pins σ H' {s with heap:=h',toks:=t'}:=by
 obtain⟨m,⟨o,es,ep,ho,r⟩,_⟩:=id I.loc
 obtain⟨sl,hL⟩:=u.any ho I.free (by simp)
 exact I.step (g':=s.gens) (d':=s.drawn) (ch:=[]) (fun _ z=>nomatch z) (fun b o _ hb _ e n=>u.keep b o e n hb (by simp)) (fun b o _ hb _ e n=>u.slot b o e n hb (by simp)) (fun b o _ e n=>u.free b o e n (by simp)) (fun b o _ e=>u.there b o e (by simp)) u.tups u.frzs u.tbls (fun m' hm=>by
  obtain⟨o',es',ep',ho',r'⟩:=hm
  rw[ho] at ho';cases ho'
  exact⟨_,es',ep',hL,r'⟩) hok I.bare
theorem Inv.call {g':Array GenState} {t':Nat} {d':Drawn} {ch:List Addr} (I:Inv X pins σ H s) (u:Un (frs X.stack) ch H H' s.heap h') (hok:HOk X.prog X.w H' h') (hg:AllBare g')
  (hch:∀ b ∈ ch,(b ∈ X.ex∨X.s₀.heap.objs.size≤b)∧b≠X.env.locals∧(∀ x c,X.env.cells.lookup x=some c→c≠b)∧∀ p ∈ X.pn++pins,p.1≠b) :
  Inv X pins σ H' {s with heap:=h',gens:=g',drawn:=d',toks:=t'}:=by
 obtain⟨m,⟨o,es,ep,ho,r⟩,_⟩:=id I.loc
 obtain⟨sl,hL⟩:=u.any ho I.free fun z=>(hch _ z).2.1 rfl
 exact I.step (ch:=ch) hch (fun b o hL hb hc e n=>u.keep b o e n (fun z=>(List.mem_cons.mp (I.stkSub b z)).elim hL hb) hc) (fun b o _ _ hc e n=>u.any e n hc) (fun b o hc e n=>u.free b o e n hc) (fun b o hc e=>u.there b o e hc) u.tups u.frzs u.tbls (fun m' hm=>by
  obtain⟨o',es',ep',ho',r'⟩:=hm
  rw[ho] at ho';cases ho'
  exact⟨_,es',ep',hL,r'⟩) hok hg
theorem Inv.turned {t':Nat} {it:Addr} (I:Inv X pins σ H s) (k:∀ b o,b≠it→s.heap.get? b=some o→h'.get? b=some o) (hn:H it=none) (hL:it≠X.env.locals)
  (h1:it ∈ X.ex∨X.s₀.heap.objs.size≤it) (h2:∀ x c,X.env.cells.lookup x=some c→c≠it) (h3:∀ p ∈ X.pn++pins,p.1≠it):Inv X pins σ H {s with heap:=h',toks:=t'}:=by
 have nit:∀ b u,H b=some u→b≠it:=fun b u e z=>by rw[z,hn] at e;cases e
 refine I.step (g':=s.gens) (d':=s.drawn) (ch:=[it]) (fun b hb=>?_) (fun b o _ _ hc e _=>k b o (fun z=>hc (by simp[z])) e) (fun b o _ _ hc e _=>⟨o.slots,k b o (fun z=>hc (by simp[z])) e⟩) (fun _ _ _ _ n=>n)
  (fun b o hc e=>⟨o,k b o (fun z=>hc (by simp[z])) e⟩) (fun _ _ e=>e) (fun _ _ _ e=>e) (fun b ps e=>⟨#[],by rw[e];simp⟩) (fun m hm=>?_) (fun b u e=>?_) I.bare
 ·have e:b=it:=by simpa using hb
  subst e
  exact⟨h1,hL,h2,h3⟩
 ·obtain⟨o,es,ep,ho,r⟩:=hm
  exact⟨o,es,ep,k _ o (Ne.symm hL) ho,r⟩
 ·refine(I.hok b u e).stay (fun c v hc q=>k c v ?_ q) (fun _ q=>q) fun _ _ q=>q
  rcases hc with z | z
  ·rw[z];exact nit b u e
  ·exact nit c _ z
theorem Inv.tok (I:Inv X pins σ H s) (t:Nat):Inv X pins σ H {s with toks:=t}:=I.un (h':=s.heap) (t':=t) Un.refl I.hok
theorem Inv.kept {t':Nat} (I:Inv X pins σ H s) (k:∀ b u,s.heap.get? b=some u→h'.get? b=some u):Inv X pins σ H {s with heap:=h',toks:=t'}:=I.un (Un.kept k) (I.hok.kept k)
theorem Inv.laid {a:Addr} {o:HO} {t':Nat} (I:Inv X pins σ H s) (k:∀ b u,s.heap.get? b=some u→h'.get? b=some u) (hp:s.heap.objs.size≤a) (new:ObjOk X.prog X.w (upd H a o) h' a o) :
  Inv X pins σ (upd H a o) {s with heap:=h',toks:=t'}:=I.un (Un.laid k hp (I.hok.fresh hp)) (I.hok.laid k hp new)
theorem Inv.write {x e:Addr} {o:HO} {t':Nat} (I:Inv X pins σ H s) (mu:Mut (H x)) (he:e=x∨H e=some (.own x)) (k:∀ b u,b≠e→s.heap.get? b=some u→h'.get? b=some u) (heo:∃ u,h'.get? e=some u)
  (new:ObjOk X.prog X.w (upd H x o) h' x o):Inv X pins σ (upd H x o) {s with heap:=h',toks:=t'}:=I.un (Un.write mu he k heo) (I.hok.write mu he k heo new)
theorem Inv.pins_of {pins':List (Addr×Obj)} (I:Inv X pins σ H s) (h:∀ p ∈ pins',s.heap.get? p.1=some p.2∧H p.1=none∧p.1≠X.env.locals∧p.1 ∉ X.fs∧∀ v,p.2.data≠.cell v):Inv X pins' σ H s:=
 ⟨I.ok,I.os,I.bare,I.base,I.loc,I.cell,I.free,I.freeC,fun p hp=>(List.mem_append.mp hp).elim (fun z=>I.pin p (List.mem_append_left _ z)) (h p),I.hok,I.len⟩
theorem nodup_ix {N:List Str} (hN:N.Nodup) {i j:Nat} {x:Str} (a:N[i]? = some x) (b:N[j]? = some x):i=j:=by
 obtain⟨h1,e1⟩:=List.getElem?_eq_some_iff.mp a
 obtain⟨h2,e2⟩:=List.getElem?_eq_some_iff.mp b
 exact(List.getElem_inj hN).mp (e1.trans e2.symm)
theorem store_ok2 {M:Model} {A:Around} {E:Value→Shared→Prop} {i:Nat} {x:Str} {v:V} {u:Value} {Q:Unit→Shared→Prop} (I:Inv X pins σ H s) (hN:X.N.Nodup) (hi:X.N[i]? = some x) (hx:Loc X.env.scope x) (r:RelV v u)
  (h:∀ s',Inv X pins (σ.set i (some v)) H s'→(∃ a,Heap.SameBut a s.heap s'.heap∧(a=X.env.locals∨X.env.cells.lookup x=some a))→Q () s') (hf:X.fn x=true∨X.env.scope.names.lookup x=some .local:=by first | exact .inl rfl | exact .inr rfl | assumption):wpAny M A (storeName X.env x u) Q E s:=by
 obtain⟨m,hn,hl⟩:=id I.loc
 have hcls:(X.env.scope.kind == .class || (X.env.scope.kind == .module && X.env.locals != X.env.globals))=false:=by rw[I.ok.kind];rfl
 have hiσ:i < σ.length:=by rw[I.len];exact(List.getElem?_eq_some_iff.mp hi).1
 have cne:=I.cne
 have tracked:∀ {a:Addr} {h':Heap},(∃ o,s.heap.get? a=some o∧H a=none)→Heap.SameBut a s.heap h'→HOk X.prog X.w H h':=fun {a h'} ha hs b ob e=>by
  obtain⟨_,_,hfree⟩:=ha
  refine(I.hok b ob e).stay (fun c w' hc q=>(hs.2 c ?_).trans q) (fun _ q=>q) fun _ _ q=>q
  rintro rfl
  rcases hc with rfl | hc
  ·rw[hfree] at e;cases e
  ·rw[hfree] at hc;cases hc
 rcases hx with hk | hk
 ·refine wpAny_storeName_local hk hn (fun h' hn' hs=>?_) hcls
  obtain⟨oL,_,_,hoL,_⟩:=id hn
  refine h _ ⟨I.ok,I.os,I.bare,⟨fun b o e n hb hx=>?_,fun b o e n hb hx=>?_,I.base.free,fun b o e hx=>?_,I.base.tups,I.base.frzs,I.base.tbls⟩,⟨_,hn',fun j y v' e1 e2 e3=>?_⟩,fun y c e=>?_,I.free,I.freeC,fun p hp=>?_,tracked ⟨oL,hoL,I.free⟩ hs,by simpa using I.len⟩ ⟨_,hs,.inl rfl⟩
  ·exact(hs.2 b (Nat.ne_of_lt (Nat.lt_of_lt_of_le (Heap.lt_size e) I.ok.above))).trans (I.base.keep b o e n hb hx)
  ·obtain⟨sl,e1⟩:=I.base.slot b o e n hb hx
   exact⟨sl,(hs.2 b (Nat.ne_of_lt (Nat.lt_of_lt_of_le (Heap.lt_size e) I.ok.above))).trans e1⟩
  ·obtain⟨o',e1⟩:=I.base.there b o e hx
   exact⟨o',(hs.2 b (Nat.ne_of_lt (Nat.lt_of_lt_of_le (Heap.lt_size e) I.ok.above))).trans e1⟩
  ·by_cases hj:j=i
   ·subst hj
    rw[hi] at e1;cases e1
    rw[List.getElem?_set_self hiσ] at e2
    cases e2
    exact⟨u,r,.inl ⟨hk,by simp⟩⟩
   ·rw[List.getElem?_set_ne (Ne.symm hj)] at e2
    obtain⟨u',r',q⟩:=hl j y v' e1 e2 e3
    refine⟨u',r',?_⟩
    rcases q with ⟨k,e⟩ | ⟨k,c,e,z⟩
    ·refine .inl ⟨k,?_⟩
     have:y≠x:=fun e=>hj (nodup_ix hN e1 (e ▸ hi))
     simp[this,e]
    ·exact .inr ⟨k,c,e,z.sameBut hs (cne y c e)⟩
  ·obtain⟨w',z⟩:=I.cell y c e
   exact⟨w',z.sameBut hs (cne y c e)⟩
  ·obtain⟨e,n,ne,nf,d⟩:=I.pin p hp
   exact⟨(hs.2 p.1 ne).trans e,n,ne,nf,d⟩
 ·have hfn:X.fn x=true:=by
   rcases hf with z | z
   ·exact z
   ·rw[z] at hk;cases hk
  obtain⟨c,hc⟩:=I.ok.has x (.inl hk)
  obtain⟨w',z⟩:=I.cell x c hc
  refine wpAny_storeName_cell I.ok.kind hk hc z (fun h' hc' hs=>?_)
  obtain⟨oc,hoc,hocd⟩:=id z
  refine h {s with heap:=h'} ⟨I.ok,I.os,I.bare,⟨fun b o e n hb hx=>?_,fun b o e n hb hx=>?_,I.base.free,fun b o e hx=>?_,I.base.tups,I.base.frzs,I.base.tbls⟩,⟨m,hn.sameBut hs (Ne.symm (cne x c hc)),fun j y v' e1 e2 e3=>?_⟩,fun y c' e=>?_,I.free,I.freeC,fun p hp=>?_,tracked ⟨oc,hoc,I.freeC x c hc⟩ hs,by simpa using I.len⟩ ⟨c,hs,.inr hc⟩
  ·exact(hs.2 b (Nat.ne_of_lt (Nat.lt_of_lt_of_le (Heap.lt_size e) (I.ok.cab x c hfn hc)))).trans (I.base.keep b o e n hb hx)
  ·obtain⟨sl,e1⟩:=I.base.slot b o e n hb hx
   exact⟨sl,(hs.2 b (Nat.ne_of_lt (Nat.lt_of_lt_of_le (Heap.lt_size e) (I.ok.cab x c hfn hc)))).trans e1⟩
  ·obtain⟨o',e1⟩:=I.base.there b o e hx
   exact⟨o',(hs.2 b (Nat.ne_of_lt (Nat.lt_of_lt_of_le (Heap.lt_size e) (I.ok.cab x c hfn hc)))).trans e1⟩
  ·by_cases hj:j=i
   ·subst hj
    rw[hi] at e1;cases e1
    rw[List.getElem?_set_self hiσ] at e2
    cases e2
    exact⟨u,r,.inr ⟨.inl hk,c,hc,hc'⟩⟩
   ·rw[List.getElem?_set_ne (Ne.symm hj)] at e2
    obtain⟨u',r',q⟩:=hl j y v' e1 e2 e3
    refine⟨u',r',?_⟩
    rcases q with q | ⟨k,c',e,z'⟩
    ·exact .inl q
    ·refine .inr ⟨k,c',e,z'.sameBut hs ?_⟩
     rintro rfl
     exact hj (nodup_ix hN e1 (I.ok.inj _ _ _ e hc ▸ hi))
  ·by_cases hcc:c'=c
   ·subst hcc;exact⟨_,hc'⟩
   ·obtain⟨w2,z2⟩:=I.cell y c' e
    exact⟨w2,z2.sameBut hs hcc⟩
  ·obtain⟨e,n,ne,nf,d⟩:=I.pin p hp
   refine⟨(hs.2 p.1 ?_).trans e,n,ne,nf,d⟩
   intro q
   rw[q,hoc] at e
   have q':oc=p.2:=Option.some.inj e
   exact d w' (by rw[← q'];exact hocd)
theorem store_ok {M:Model} {A:Around} {E:Value→Shared→Prop} {i:Nat} {x:Str} {v:V} {u:Value} {Q:Unit→Shared→Prop} (I:Inv X pins σ H s) (hN:X.N.Nodup) (hi:X.N[i]? = some x) (hx:Loc X.env.scope x) (r:RelV v u)
  (h:∀ s',Inv X pins (σ.set i (some v)) H s'→Q () s') (hf:X.fn x=true∨X.env.scope.names.lookup x=some .local:=by first | exact .inl rfl | exact .inr rfl | assumption):wpAny M A (storeName X.env x u) Q E s:=
 store_ok2 I hN hi hx r (fun s' I' _=>h s' I') hf
theorem Inv.call' {s':Shared} {ch:List Addr} (I:Inv X pins σ H s) (ho:s'.os=s.os) (u:Un (frs X.stack) ch H H' s.heap s'.heap) (hok:HOk X.prog X.w H' s'.heap) (hg:AllBare s'.gens)
  (hch:∀ b ∈ ch,(b ∈ X.ex∨X.s₀.heap.objs.size≤b)∧b≠X.env.locals∧(∀ x c,X.env.cells.lookup x=some c→c≠b)∧∀ p ∈ X.pn++pins,p.1≠b):Inv X pins σ H' s':=by
 obtain⟨h',g',d',t',o'⟩:=s'
 have e:o'=s.os:=ho
 subst e
 exact I.call (g':=g') (t':=t') (d':=d') u hok hg hch
end
noncomputable abbrev XK:=Value→Option Addr→Hp→Prop
noncomputable abbrev St:=List (Option V)
noncomputable abbrev VK:=V→Hp→Prop
noncomputable abbrev TE:=St→Hp→VK→Prop
noncomputable abbrev TT:=St→Hp→(Bool→Hp→Prop)→Prop
noncomputable abbrev TA:=St→Hp→(List V→Hp→Prop)→Prop
structure Ends where
 nx:St→Hp→Prop
 rt:VK
 bk:St→Hp→Prop:=fun _ _=>False
 ct:St→Hp→Prop:=fun _ _=>False
noncomputable abbrev TS:=Ends→St→Hp→Prop
noncomputable def EP (X:Cx) (pins:List (Addr×Obj)) (σ:St) (Q:VK) (u:Value) (s':Shared):Prop:=∃ v H',Inv X pins σ H' s'∧RelV v u∧Q v H'
noncomputable def TP (X:Cx) (pins:List (Addr×Obj)) (σ:St) (Q:Bool→Hp→Prop) (b:Bool) (s':Shared):Prop:=∃ H',Inv X pins σ H' s'∧Q b H'
noncomputable def AP (X:Cx) (pins:List (Addr×Obj)) (σ:St) (Q:List V→Hp→Prop) (us:List Value) (s':Shared):Prop:=∃ vs H',Inv X pins σ H' s'∧Vals vs us∧Q vs H'
noncomputable def SP (X:Cx) (pins:List (Addr×Obj)) (D:Ends) (f:Flow) (s':Shared):Prop:=
 match f with
 | .next=>∃ σ' H',Inv X pins σ' H' s'∧D.nx σ' H'
 | .brk=>∃ σ' H',Inv X pins σ' H' s'∧D.bk σ' H'
 | .cont=>∃ σ' H',Inv X pins σ' H' s'∧D.ct σ' H'
 | .ret u=>∃ v σ' H',Inv X pins σ' H' s'∧RelV v u∧D.rt v H'
noncomputable def PE (X:Cx) (e:Expr) (t:TE):Prop:=
 ∀ (pins:List (Addr×Obj)) (s:Shared) (σ:St) (H:Hp) (Q:VK),Inv X pins σ H s→t σ H Q→wpAny (model X.prog X.w) X.A (eval e X.env) (EP X pins σ Q) X.xe s
noncomputable def PT (X:Cx) (e:Expr) (t:TT):Prop:=
 ∀ (pins:List (Addr×Obj)) (s:Shared) (σ:St) (H:Hp) (Q:Bool→Hp→Prop),Inv X pins σ H s→t σ H Q→wpAny (model X.prog X.w) X.A (isTrue e X.env (eval e X.env)) (TP X pins σ Q) X.xe s
noncomputable def PW (X:Cx) (e:Expr) (t:TT):Prop:=
 ∀ (whole:Sem Value) (pins:List (Addr×Obj)) (s:Shared) (σ:St) (H:Hp) (Q:Bool→Hp→Prop),Inv X pins σ H s→t σ H Q→wpAny (model X.prog X.w) X.A (isTrue e X.env whole) (TP X pins σ Q) X.xe s
theorem PW.pt {X:Cx} {e:Expr} {t:TT} (h:PW X e t):PT X e t:=h _
noncomputable def PA (X:Cx) (es:List Expr) (t:TA):Prop:=
 ∀ (pos:Pos) (pins:List (Addr×Obj)) (s:Shared) (σ:St) (H:Hp) (Q:List V→Hp→Prop),Inv X pins σ H s→t σ H Q→wpAny (model X.prog X.w) X.A (spliced (backTo pos (starEach es X.env))) (AP X pins σ Q) X.xe s
noncomputable def PS (X:Cx) (st:Stmt) (t:TS):Prop:=
 ∀ (pins:List (Addr×Obj)) (s:Shared) (σ:St) (H:Hp) (D:Ends),Inv X pins σ H s→t D σ H→wpAny (model X.prog X.w) X.A (exec st X.env) (SP X pins D) X.xe s
noncomputable def PSs (X:Cx) (st:List Stmt) (t:TS):Prop:=
 ∀ (pins:List (Addr×Obj)) (s:Shared) (σ:St) (H:Hp) (D:Ends),Inv X pins σ H s→t D σ H→wpAny (model X.prog X.w) X.A (execs st X.env) (SP X pins D) X.xe s
theorem thn {α:Type} {t:Sem α} {Q Q':α→Shared→Prop} {M:Model} {A:Around} {E:Value→Shared→Prop} {s:Shared} (h:wpAny M A t Q E s) (hQ:∀ a s,Q a s→Q' a s):wpAny M A t Q' E s:=wpAny_mono h hQ fun _ _ x=>x
end L2
namespace L2
open PySem PySem.Spec PyProof.Rows
section
variable {X:Cx}
noncomputable def tVar (i:Nat):TE:=fun σ H Q=>∃ v,σ[i]? = some (some v)∧Q v H
noncomputable def tC (v:V):TE:=fun _ H Q=>Q v H
theorem pe_var {i:Nat} {x:Str} {pos:Pos} (hN:X.N[i]? = some x) (hv:Vis X.env.scope x) (hd:(x == ("__debug__" : Str))=false:=by decide) (hcd:(x == ("__classdict__" : Str))=false:=by decide):PE X (.Name x pos) (tVar i):=by
 intro pins s σ H Q I h
 obtain⟨v,e,h⟩:=h
 obtain⟨m,hn,hl⟩:=I.loc
 obtain⟨u,r,l⟩:=hl i x v hN e hv
 have fin:EP X pins σ Q u s:=⟨v,H,I,r,h⟩
 rcases l with ⟨hk,hm⟩ | ⟨hk,c,hc,hcell⟩
 ·exact wpAny_Name (wpAny_loadName_local I.ok.kind hk hn hm fin) hd
 ·rcases hk with hk | hk
  ·exact wpAny_Name (wpAny_loadName_cell I.ok.kind hk hc hcell fin) hd
  ·exact wpAny_Name (wpAny_loadName_free I.ok.kind hk hc hcell fin hcd) hd
theorem pe_int {i j pos}:PE X (.Constant (.int i) j pos) (tC (.int i)):=fun _ _ _ H _ I h=>wpAny_Constant_int ⟨.int i,H,I.tok _,⟨_,rfl⟩,h⟩
theorem pe_bl {b j pos}:PE X (.Constant (.bool b) j pos) (tC (.bl b)):=fun _ _ _ H _ I h=>Constant_bool ⟨.bl b,H,I,rfl,h⟩
theorem pe_non {j pos}:PE X (.Constant .none j pos) (tC .non):=fun _ _ _ H _ I h=>Constant_none ⟨.non,H,I,rfl,h⟩
theorem pe_str {x j pos}:PE X (.Constant (.str x) j pos) (tC (.str x)):=fun _ _ _ H _ I h=>Calls.Constant_str ⟨.str x,H,I.tok _,⟨_,rfl⟩,h⟩
noncomputable def Gl (X:Cx) (x:Str):Prop:=X.env.kindOf x=some .globalImplicit
theorem ld_glob {E:Value→Shared→Prop} {pins:List (Addr×Obj)} {s:Shared} {σ:St} {H:Hp} {x:Str} {u:Value} {pos:Pos} {Q:Value→Shared→Prop} (I:Inv X pins σ H s) (hg:Gl X x) (hm:X.mg x=some u) (h:Q u s)
  (hd:(x == ("__debug__" : Str))=false:=by decide):wpAny (model X.prog X.w) X.A (eval (.Name x pos) X.env) Q E s:=
 Calls.Name_function_global I.ok.kind hg (Calls.loadGlobal_global (by rw[I.ok.glob];exact I.mod.glob.keeps I.bk) hm h) hd
theorem ld_blt {E:Value→Shared→Prop} {pins:List (Addr×Obj)} {s:Shared} {σ:St} {H:Hp} {x:Str} {u:Value} {pos:Pos} {Q:Value→Shared→Prop} (I:Inv X pins σ H s) (hg:Gl X x) (hm:X.mg x=none) (hv:bootBuiltins x=some u) (h:Q u s)
  (hn:x≠"__name__":=by decide) (hd:(x == ("__debug__" : Str))=false:=by decide):wpAny (model X.prog X.w) X.A (eval (.Name x pos) X.env) Q E s:=by
 obtain⟨mb,h1,h2⟩:=I.mod.blt
 exact Calls.Name_function_global I.ok.kind hg (Calls.loadGlobal_builtin (by rw[I.ok.glob];exact I.mod.glob.keeps I.bk) hm (by rw[I.ok.blt];exact h1.keeps I.bk) ((h2 x hn).trans hv) h) hd
theorem pe_glob {x:Str} {v:V} {u:Value} {pos:Pos} (hg:Gl X x) (hm:X.mg x=some u) (r:RelV v u) (hd:(x == ("__debug__" : Str))=false:=by decide):PE X (.Name x pos) (tC v):=
 fun _ _ _ H _ I h=>ld_glob I hg hm ⟨v,H,I,r,h⟩ hd
theorem pe_bltn {x:Str} {v:V} {u:Value} {pos:Pos} (hg:Gl X x) (hm:X.mg x=none) (hv:bootBuiltins x=some u) (r:RelV v u) (hn:x≠"__name__":=by decide) (hd:(x == ("__debug__" : Str))=false:=by decide):PE X (.Name x pos) (tC v):=
 fun _ _ _ H _ I h=>ld_blt I hg hm hv ⟨v,H,I,r,h⟩ hn hd
variable {a b:Expr} {ta tb:TE} {pos:Pos}
variable {tA tB':TT} {rest:List Expr}
noncomputable def tAnd (t u:TT):TT:=fun σ H Q=>t σ H fun c H1=>if c=true then u σ H1 Q else Q false H1
noncomputable def tOr (t u:TT):TT:=fun σ H Q=>t σ H fun c H1=>if c=true then Q true H1 else u σ H1 Q
noncomputable def tNot (t:TT):TT:=fun σ H Q=>t σ H fun c H1=>Q (!c) H1
theorem pw_and1 (ha:PT X a tA):PW X (.BoolOp .And [a] pos) tA:=by
 intro wh pins s σ H Q I h
 refine isTrue_and (thn (ha pins s σ H Q I h) fun c s1 e=>?_)
 cases c with
 | true=>exact isTrue_and_nil e
 | false=>exact e
theorem pw_or1 (ha:PT X a tA):PW X (.BoolOp .Or [a] pos) tA:=by
 intro wh pins s σ H Q I h
 refine isTrue_or (thn (ha pins s σ H Q I h) fun c s1 e=>?_)
 cases c with
 | false=>exact isTrue_or_nil e
 | true=>exact e
theorem pw_and (ha:PT X a tA) (hb:PW X (.BoolOp .And (b::rest) pos) tB'):PW X (.BoolOp .And (a::b::rest) pos) (tAnd tA tB'):=by
 intro wh pins s σ H Q I h
 refine isTrue_and (thn (ha pins s σ H _ I h) fun c s1 ⟨H1,I1,q1⟩=>?_)
 cases c with
 | true=>exact hb wh pins s1 σ H1 Q I1 q1
 | false=>exact⟨H1,I1,q1⟩
theorem pw_or (ha:PT X a tA) (hb:PW X (.BoolOp .Or (b::rest) pos) tB'):PW X (.BoolOp .Or (a::b::rest) pos) (tOr tA tB'):=by
 intro wh pins s σ H Q I h
 refine isTrue_or (thn (ha pins s σ H _ I h) fun c s1 ⟨H1,I1,q1⟩=>?_)
 cases c with
 | true=>exact⟨H1,I1,q1⟩
 | false=>exact hb wh pins s1 σ H1 Q I1 q1
theorem pt_not (ha:PT X a tA):PT X (.UnaryOp .Not a pos) (tNot tA):=by
 intro pins s σ H Q I h
 exact isTrue_not (ha pins s σ H (fun c H1=>Q (!c) H1) I h)
theorem pe_one {op} {t:TE} (h:PE X a t):PE X (.BoolOp op [a] pos) t:=fun pins s σ H Q I hw=>BoolOp_one (h pins s σ H Q I hw)
noncomputable def tIf (t:TT) (ta tb:TE):TE:=fun σ H Q=>t σ H fun c H1=>if c=true then ta σ H1 Q else tb σ H1 Q
theorem pe_ifExp {c:Expr} (hc:PT X c tA) (ha:PE X a ta) (hb:PE X b tb):PE X (.IfExp c a b pos) (tIf tA ta tb):=by
 intro pins s σ H Q I h
 refine wpAny_IfExp (thn (hc pins s σ H _ I h) fun d s1 ⟨H1,I1,q1⟩=>?_)
 cases d with
 | true=>exact ha pins s1 σ H1 Q I1 q1
 | false=>exact hb pins s1 σ H1 Q I1 q1
end
end L2
namespace L2
open PySem PySem.Spec PyProof.Rows
noncomputable def SqL (K:PySem.W.Frag) (H:Hp) (a:Addr) (xs:List V):Prop:=
 Rd H a (.lst xs)∨
  ∃ (o:Obj) (its:Array Value) (n:Nat),K.lookup a=some o∧o.cls=.type "list"∧o.dict=none∧o.data=.seq its n∧its.size≤sizeLine∧Vals xs its.toList
noncomputable def SqT (K:PySem.W.Frag) (H:Hp) (a:Addr) (xs:List V):Prop:=
 Rd H a (.tup xs)∨
  ∃ (o:Obj) (its:Array Value) (n:Nat),K.lookup a=some o∧o.cls=.type "tuple"∧o.data=.seq its n∧its.size≤sizeLine∧Vals xs its.toList
noncomputable def absV:Value→Option V
 | .none=>some .non
 | .bool b=>some (.bl b)
 | .int i _=>some (.int i)
 | .str x _=>some (.str x)
 | .bytes b _=>some (.byt b)
 | .float b _=>some (.flt b)
 | .ref a=>some (.ref a)
 | .type n=>some (.ty n)
 | _=>none
theorem RelV.abs {x:V} {u:Value} (r:RelV x u):absV u=some x:=by
 cases x with
 | non=>cases r;rfl
 | bl _=>cases r;rfl
 | int _=>obtain⟨t,rfl⟩:=r;rfl
 | str _=>obtain⟨t,rfl⟩:=r;rfl
 | byt _=>obtain⟨t,rfl⟩:=r;rfl
 | flt _=>obtain⟨t,rfl⟩:=r;rfl
 | ref _=>cases r;rfl
 | ty _=>cases r;rfl
theorem RelV.inj {x y:V} {u:Value} (r:RelV x u) (q:RelV y u):x=y:=Option.some.inj (r.abs.symm.trans q.abs)
theorem Vals.inj:∀ {xs ys:List V} {us:List Value},Vals xs us→Vals ys us→xs=ys
 | _,_,_,.nil,.nil=>rfl
 | _,_,_,.cons r t,.cons r' t'=>by rw[r.inj r',Vals.inj t t']
section
variable {X:Cx} {pins:List (Addr×Obj)} {σ:St} {H:Hp} {s:Shared} {a:Addr} {xs ys:List V}
theorem SqT.of {K:PySem.W.Frag} (h:H a=some (.tup xs)):SqT K H a xs:=.inl (.inl h)
theorem Inv.list (I:Inv X pins σ H s) (h:SqL X.K H a xs):∃ its:List Value,Vals xs its∧PlainL s.heap a its.toArray∧xs.length≤sizeLine:=by
 rcases h with h | ⟨o,its,n,hk,hc,hd,hs,hz,r⟩
 ·obtain⟨z,its,n,r,e⟩:=h.ok I.hok
  exact⟨its,r,⟨_,n,e,rfl,rfl,rfl⟩,z⟩
 ·refine⟨its.toList,r,⟨o,n,I.kIn a o hk,hc,hd,by simpa using hs⟩,?_⟩
  have e:=r.length
  simp only[Array.length_toList] at e
  omega
theorem Inv.tuple (I:Inv X pins σ H s) (h:SqT X.K H a xs):∃ its:List Value,Vals xs its∧IsTup s.heap a its.toArray∧xs.length≤sizeLine:=by
 rcases h with h | ⟨o,its,n,hk,hc,hs,hz,r⟩
 ·obtain⟨z,its,r,p⟩:=h.ok I.hok
  exact⟨its,r,p,z⟩
 ·refine⟨its.toList,r,⟨o,I.kIn a o hk,hc,n,by simpa using hs⟩,?_⟩
  have e:=r.length
  simp only[Array.length_toList] at e
  omega
theorem Inv.list_inj (I:Inv X pins σ H s) (h:SqL X.K H a xs) (h':SqL X.K H a ys):xs=ys:=by
 obtain⟨its,r,⟨o,n,e,_,_,d⟩,_⟩:=I.list h
 obtain⟨its',r',⟨o',n',e',_,_,d'⟩,_⟩:=I.list h'
 rw[e] at e';cases e'
 rw[d] at d'
 injection d' with d1 _
 have:its=its':=by simpa using congrArg Array.toList d1
 subst this
 exact r.inj r'
theorem Inv.tuple_inj (I:Inv X pins σ H s) (h:SqT X.K H a xs) (h':SqT X.K H a ys):xs=ys:=by
 obtain⟨its,r,⟨o,e,_,n,d⟩,_⟩:=I.tuple h
 obtain⟨its',r',⟨o',e',_,n',d'⟩,_⟩:=I.tuple h'
 rw[e] at e';cases e'
 rw[d] at d'
 injection d' with d1 _
 have:its=its':=by simpa using congrArg Array.toList d1
 subst this
 exact r.inj r'
end
noncomputable abbrev Cx.wish (X:Cx) (E:Value→Shared→Prop):Cx:={X with xe:=E}
noncomputable abbrev Cx.nox (X:Cx):Cx:=X.wish fun _ _=>False
theorem Cx.Ok.wish {X:Cx} (ok:X.Ok) (E:Value→Shared→Prop):(X.wish E).Ok:=
 ⟨ok.mod,ok.kind,ok.glob,ok.blt,ok.above,ok.inj,ok.has,ok.cab,ok.hd,ok.frames,ok.stk,ok.exf,ok.bs,ok.bsz,ok.noex,ok.exfs,ok.funs,ok.frf⟩
theorem Cx.Ok.unwish {X:Cx} {E:Value→Shared→Prop} (ok:(X.wish E).Ok):X.Ok:=
 ⟨ok.mod,ok.kind,ok.glob,ok.blt,ok.above,ok.inj,ok.has,ok.cab,ok.hd,ok.frames,ok.stk,ok.exf,ok.bs,ok.bsz,ok.noex,ok.exfs,ok.funs,ok.frf⟩
section
variable {X:Cx} {pins:List (Addr×Obj)} {σ:St} {H:Hp} {s:Shared} {E:Value→Shared→Prop}
theorem Inv.wish (I:Inv X pins σ H s) (E:Value→Shared→Prop):Inv (X.wish E) pins σ H s:=⟨I.ok.wish E,I.os,I.bare,I.base,I.loc,I.cell,I.free,I.freeC,I.pin,I.hok,I.len⟩
theorem Inv.unwish (I:Inv (X.wish E) pins σ H s):Inv X pins σ H s:=⟨I.ok.unwish,I.os,I.bare,I.base,I.loc,I.cell,I.free,I.freeC,I.pin,I.hok,I.len⟩
theorem SP.unwish {D:Ends} {f:Flow} {s':Shared} (h:SP (X.wish E) pins D f s'):SP X pins D f s':=by
 cases f with
 | next=>obtain⟨σ',H',I,q⟩:=h;exact⟨σ',H',I.unwish,q⟩
 | brk=>obtain⟨σ',H',I,q⟩:=h;exact⟨σ',H',I.unwish,q⟩
 | cont=>obtain⟨σ',H',I,q⟩:=h;exact⟨σ',H',I.unwish,q⟩
 | ret u=>obtain⟨v,σ',H',I,r,q⟩:=h;exact⟨v,σ',H',I.unwish,r,q⟩
end
section
variable {X:Cx} {st:Stmt} {rest:List Stmt} {t u:TS} {e:Expr} {te:TE} {pos:Pos}
noncomputable def tNext:TS:=fun D σ H=>D.nx σ H
noncomputable def tSeq (t u:TS):TS:=fun D σ H=>t {D with nx:=u D} σ H
theorem pss_nil:PSs X [] tNext:=fun _ _ σ H _ I h=>wpAny_execs_nil ⟨σ,H,I,h⟩
theorem pss_cons (h1:PS X st t) (h2:PSs X rest u):PSs X (st::rest) (tSeq t u):=by
 intro pins s σ H D I h
 refine wpAny_execs_cons (thn (h1 pins s σ H {D with nx:=u D} I h) fun f s1 q=>?_)
 cases f with
 | next=>
  obtain⟨σ',H',I',q⟩:=q
  exact h2 pins s1 σ' H' D I' q
 | ret v=>exact q
 | brk=>exact q
 | cont=>exact q
noncomputable def tBreak:TS:=fun D σ H=>D.bk σ H
noncomputable def tCont:TS:=fun D σ H=>D.ct σ H
theorem ps_pass:PS X (.Pass pos) tNext:=fun _ _ σ H _ I h=>wpAny_Pass ⟨σ,H,I,h⟩
theorem ps_break:PS X (.Break pos) tBreak:=fun _ _ σ H _ I h=>wpAny_Break ⟨σ,H,I,h⟩
theorem ps_continue:PS X (.Continue pos) tCont:=fun _ _ σ H _ I h=>wpAny_Continue ⟨σ,H,I,h⟩
theorem Inv.quiet {pins:List (Addr×Obj)} {σ:St} {H:Hp} {s:Shared} (I:Inv X pins σ H s):interactive X.env=false:=by simp[interactive,I.ok.kind]
theorem ps_doc {x j pos pos'}:PS X (.Expr (.Constant (.str x) j pos) pos') tNext:=fun _ s σ H _ I h=>wpAny_Expr (Calls.Constant_str (show SP X _ _ .next {s with toks:=s.toks + 1} from ⟨σ,H,I.tok _,h⟩)) I.quiet
noncomputable def tDrop (te:TE):TS:=fun D σ H=>te σ H fun _ H1=>D.nx σ H1
theorem ps_expr (he:PE X e te) (hs:swapsWith e none pos.line X.env=pure false:=by rfl):PS X (.Expr e pos) (tDrop te):=by
 intro pins s σ H D I h
 exact wpAny_Expr_any (thn (he pins s σ H _ I h) fun v s1 ⟨x,H1,I1,r1,q1⟩=>⟨σ,H1,I1,q1⟩) I.quiet hs
noncomputable def tRet (te:TE):TS:=fun D σ H=>te σ H D.rt
theorem ps_ret (he:PE X e te):PS X (.Return (some e) pos) (tRet te):=by
 intro pins s σ H D I h
 exact wpAny_Return_some (thn (he pins s σ H _ I h) fun v s1 ⟨x,H1,I1,r1,q1⟩=>⟨x,σ,H1,I1,r1,q1⟩)
noncomputable def tRetN:TS:=fun D _ H=>D.rt .non H
theorem ps_retN:PS X (.Return none pos) tRetN:=fun _ _ σ H _ I h=>wpAny_Return_none ⟨.non,σ,H,I,rfl,h⟩
noncomputable def tIfS (c:TT) (t u:TS):TS:=fun D σ H=>c σ H fun b H1=>if b=true then t D σ H1 else u D σ H1
theorem ps_if {c:Expr} {a b:List Stmt} {tc:TT} (hc:PT X c tc) (ha:PSs X a t) (hb:PSs X b u):PS X (.If c a b pos) (tIfS tc t u):=by
 intro pins s σ H D I h
 refine wpAny_If (thn (hc pins s σ H _ I h) fun d s1 ⟨H1,I1,q1⟩=>?_)
 cases d with
 | true=>exact ha pins s1 σ H1 D I1 q1
 | false=>exact hb pins s1 σ H1 D I1 q1
noncomputable def tNever:TS:=fun _ _ _=>False
theorem ps_never:PS X st tNever:=fun _ _ _ _ _ _ h=>h.elim
end
noncomputable abbrev TG:=V→St→Hp→(St→Hp→Prop)→Prop
noncomputable abbrev TGs:=List V→St→Hp→(St→Hp→Prop)→Prop
noncomputable def PG (X:Cx) (target:Expr) (t:TG):Prop:=
 ∀ (pins:List (Addr×Obj)) (s:Shared) (σ:St) (H:Hp) (v:V) (u:Value) (Q:St→Hp→Prop),Inv X pins σ H s→RelV v u→t v σ H Q→
  wpAny (model X.prog X.w) X.A (assign target X.env u) (fun _ s'=>∃ σ' H',Inv X pins σ' H' s'∧Q σ' H') X.xe s
noncomputable def PGs (X:Cx) (ts:List Expr) (t:TGs):Prop:=
 ∀ (pins:List (Addr×Obj)) (s:Shared) (σ:St) (H:Hp) (vs:List V) (us:List Value) (Q:St→Hp→Prop),Inv X pins σ H s→Vals vs us→t vs σ H Q→
  wpAny (model X.prog X.w) X.A (assignInOrder ((assignEach ts X.env).map (·.2)) us) (fun _ s'=>∃ σ' H',Inv X pins σ' H' s'∧Q σ' H') X.xe s
noncomputable abbrev TSet:=V→V→V→Hp→(Hp→Prop)→Prop
noncomputable def PSet (X:Cx) (t:TSet):Prop:=
 ∀ (pins:List (Addr×Obj)) (s:Shared) (σ:St) (H:Hp) (o i v:V) (ov iv u:Value) (Q:Hp→Prop),Inv X pins σ H s→RelV o ov→RelV i iv→RelV v u→t o i v H Q→
  wpAny (model X.prog X.w) X.A (setItem ov iv u) (fun _ s'=>∃ H',Inv X pins σ H' s'∧Q H') X.xe s
section
variable {X:Cx} {pos:Pos}
noncomputable def gName (i:Nat):TG:=fun v σ H Q=>Q (σ.set i (some v)) H
theorem pg_name {i:Nat} {x:Str} (hN:X.N.Nodup) (hi:X.N[i]? = some x) (hx:Loc X.env.scope x) (hf:X.fn x=true∨X.env.scope.names.lookup x=some .local:=by first | exact .inl rfl | exact .inr rfl | assumption):PG X (.Name x pos) (gName i):=by
 intro pins s σ H v u Q I r h
 exact wpAny_assign_Name (store_ok I hN hi hx r (fun s' I'=>⟨_,H,I',h⟩) hf)
noncomputable def gNil:TGs:=fun vs σ H Q=>vs=[]∧Q σ H
noncomputable def gCons (t:TG) (u:TGs):TGs:=fun vs σ H Q=>∃ v r,vs=v::r∧t v σ H fun σ' H'=>u r σ' H' Q
theorem pgs_nil:PGs X [] gNil:=by
 intro pins s σ H vs us Q I r h
 obtain⟨e,h⟩:=h
 subst e
 cases r
 exact assignInOrder_nil ⟨σ,H,I,h⟩
theorem pgs_cons {e:Expr} {es:List Expr} {t:TG} {u:TGs} (h1:PG X e t) (h2:PGs X es u)
  (hs:(assignEach (e::es) X.env).map (·.2)=assign e X.env::(assignEach es X.env).map (·.2):=by rfl):PGs X (e::es) (gCons t u):=by
 intro pins s σ H vs us Q I r h
 obtain⟨v,vr,e1,h⟩:=h
 subst e1
 cases r with
 | cons r rr=>
  rw[hs]
  refine assignInOrder_cons (thn (h1 pins s σ H _ _ _ I r h) fun _ s1 ⟨σ1,H1,I1,q1⟩=>?_)
  exact h2 pins s1 σ1 H1 _ _ Q I1 rr q1
noncomputable def gSub (to ti:TE) (t:TSet):TG:=fun v σ H Q=>to σ H fun o H1=>ti σ H1 fun i H2=>t o i v H2 fun H3=>Q σ H3
theorem pg_sub {o i:Expr} {to ti:TE} {t:TSet} (ho:PE X o to) (hi:PE X i ti) (hs:PSet X t)
  (ha:∀ v,assign (.Subscript o i pos) X.env v=(do
   let ov ← holding [v] (eval o X.env)
   let iv ← holding [v,ov] (eval i X.env)
   standAt pos
   holding [v,ov,iv] (setItem ov iv v)
   release [v,ov,iv] []):=by intro _;rfl):PG X (.Subscript o i pos) (gSub to ti t):=by
 intro pins s σ H v u Q I r h
 rw[ha]
 refine wpAny_bind (wpAny_holding (thn (ho pins s σ H _ I h) fun ov s1 ⟨x,H1,I1,r1,q1⟩=>?_))
 refine wpAny_bind (wpAny_holding (thn (hi pins s1 σ H1 _ I1 q1) fun iv s2 ⟨y,H2,I2,r2,q2⟩=>?_))
 refine wpAny_bind (wpAny_standAt (wpAny_bind (wpAny_holding (thn (hs pins s2 σ H2 x y v ov iv u _ I2 r1 r2 r q2) fun _ s3 ⟨H3,I3,q3⟩=>?_))))
 exact wpAny_release ⟨σ,H3,I3,q3⟩
noncomputable def tAsg (te:TE) (g:TG):TS:=fun D σ H=>te σ H fun x H1=>g x σ H1 D.nx
theorem ps_asg {tg e:Expr} {te:TE} {g:TG} (he:PE X e te) (hg:PG X tg g) (hs:swapsWithSole [tg] e pos.line X.env=pure false:=by rfl) (hw:swappedStores [tg] e X.env=pure none:=by rfl)
  (h1:(assignEach [tg] X.env).map (·.2)=[assign tg X.env]:=by rfl):PS X (.Assign [tg] e pos) (tAsg te g):=by
 intro pins s σ H D I h
 refine wpAny_Assign_stores (thn (he pins s σ H _ I h) fun v s1 ⟨x,H1,I1,r1,q1⟩=>?_) hs hw
 rw[h1]
 exact thn (hg pins s1 σ H1 x v _ I1 r1 q1) fun _ s2 q=>q
theorem ps_set {i:Nat} {x:Str} {e:Expr} {te:TE} {pos':Pos} (hN:X.N.Nodup) (hi:X.N[i]? = some x) (hx:Loc X.env.scope x) (he:PE X e te) (hs:swapsWith e (some (.Name x pos')) pos.line X.env=pure false:=by rfl) (hf:X.fn x=true∨X.env.scope.names.lookup x=some .local:=by first | exact .inl rfl | exact .inr rfl | assumption) :
  PS X (.Assign [.Name x pos'] e pos) (tAsg te (gName i)):=by
 intro pins s σ H D I h
 refine wpAny_Assign_Name (thn (he pins s σ H _ I h) fun v s1 ⟨y,H1,I1,r1,q1⟩=>?_) hs
 exact store_ok I1 hN hi hx r1 (fun s2 I2=>⟨_,H1,I2,q1⟩) hf
end
section
variable {X:Cx} {pos:Pos}
noncomputable def tWhile (c:TT) (tb:TS):TS:=fun D σ H=>∃ W:Nat→St→Hp→Prop,(∃ m,W m σ H)∧∀ m σ H,W m σ H→
 c σ H fun b H1=>if b=true then ∃ N:St→Hp→Prop,(∀ σ' H',N σ' H'→∃ m',m' < m∧W m' σ' H')∧tb {D with nx:=N,ct:=N,bk:=D.nx} σ H1 else D.nx σ H1
theorem ps_while {c:Expr} {body:List Stmt} {tc:TT} {tb:TS} (hp:PassesOwn (model X.prog X.w) X.A X.env X.xe) (hc:PT X c tc) (hb:PSs X body tb):PS X (.While c body [] pos) (tWhile tc tb):=by
 intro pins s σ H D I h
 obtain⟨W,⟨m0,w0⟩,turn⟩:=h
 refine wpAny_While (codeAny_whileLoop (fun n s'=>∃ σ' H',Inv X pins σ' H' s'∧W n σ' H') ?_ m0 ⟨σ,H,I,w0⟩)
 rintro n s1 ⟨σ1,H1,I1,w1⟩
 refine wpAny_passesOwn hp (thn (hc pins s1 σ1 H1 _ I1 (turn n σ1 H1 w1)) fun b s2 ⟨H2,I2,q2⟩=>?_)
 cases b with
 | true=>
  obtain⟨N,hN,q2⟩:=q2
  rw[if_pos rfl]
  refine wpAny_passesOwn hp (thn (hb pins s2 σ1 H2 _ I2 q2) fun f s3 q3=>?_)
  cases f with
  | next=>
   obtain⟨σ3,H3,I3,n3⟩:=q3
   obtain⟨m',hm,w3⟩:=hN σ3 H3 n3
   exact⟨m',hm,σ3,H3,I3,w3⟩
  | cont=>
   obtain⟨σ3,H3,I3,n3⟩:=q3
   obtain⟨m',hm,w3⟩:=hN σ3 H3 n3
   exact⟨m',hm,σ3,H3,I3,w3⟩
  | brk=>exact q3
  | ret v=>exact q3
 | false=>
  rw[if_neg Bool.false_ne_true]
  exact wpAny_execs_nil ⟨σ1,H2,I2,q2⟩
end
structure It where
 go:Nat→Hp→Prop
 yld:Nat→Hp→V→Hp→Prop
 stop:Nat→Hp→Prop
noncomputable def FpOk (X:Cx) (pins:List (Addr×Obj)) (H:Hp) (b:Addr):Prop:=
 H b=none∧b≠X.env.locals∧b ∉ X.fs∧(b ∈ X.ex∨X.s₀.heap.objs.size≤b)∧(∀ x c,X.env.cells.lookup x=some c→c≠b)∧∀ p ∈ X.pn++pins,p.1≠b
theorem Inv.fpOk {X:Cx} {pins:List (Addr×Obj)} {σ:St} {H H':Hp} {s:Shared} {b:Addr} (I:Inv X pins σ H s) (hb:s.heap.objs.size≤b) (hn:H' b=none):FpOk X pins H' b:=by
 refine⟨hn,Nat.ne_of_gt (Nat.lt_of_lt_of_le I.lt hb),I.nofs hb,.inr (Nat.le_trans I.sz hb),fun x c e z=>?_,fun p hp z=>?_⟩
 ·obtain⟨v,q⟩:=I.cell x c e
  exact absurd (Nat.lt_of_lt_of_le q.lt (by rw[z];exact hb)) (Nat.lt_irrefl _)
 ·exact absurd (Nat.lt_of_lt_of_le (Heap.lt_size (I.pin p hp).1) (by rw[z];exact hb)) (Nat.lt_irrefl _)
structure Turn (P:Program) (w:World) (K:PySem.W.Frag) (tg:Expr) (J:It) (fp:List Addr) (it:Addr) (tn:Nat→Heap→Prop):Prop where
 mem:it ∈ fp
 obj:∀ i h,tn i h→∀ b ∈ fp,∃ o,h.get? b=some o∧∀ v,o.data≠.cell v
 keep:∀ i h h',tn i h→(∀ b ∈ fp,∀ o,h.get? b=some o→h'.get? b=some o)→tn i h'
 item:∀ (X:Cx),X.prog=P→X.w=w→X.K=K→X.calm=true→∀ (i:Nat) (pins:List (Addr×Obj)) (s:Shared) (σ:St) (H:Hp) (E:Value→Shared→Prop),Inv X pins σ H s→(∀ b ∈ fp,FpOk X pins H b)→tn i s.heap→J.go i H→
  wpAny (model P w) X.A (pyNext (.ref it)) (fun r s1=>∃ u,r=some u∧
   wpAny (model P w) X.A (letOwnedTupleGo tg (.ref it) u) (fun _ s2=>∃ x H',Inv X pins σ H' s2∧RelV x u∧J.yld i H x H'∧tn (i + 1) s2.heap∧∀ b ∈ fp,H' b=none) E s1) E s
 done:∀ (X:Cx),X.prog=P→X.w=w→X.K=K→X.calm=true→∀ (i:Nat) (pins:List (Addr×Obj)) (s:Shared) (σ:St) (H:Hp) (E:Value→Shared→Prop),Inv X pins σ H s→(∀ b ∈ fp,FpOk X pins H b)→tn i s.heap→J.stop i H→
  wpAny (model P w) X.A (pyNext (.ref it)) (fun r s1=>r=none∧Inv X pins σ H s1) E s
 self:∀ (A:Around) (i:Nat) (s:Shared) (Q:Value→Shared→Prop) (E:Value→Shared→Prop),tn i s.heap→Q (.ref it) s→wpAny (model P w) A (pyIter (.ref it)) Q E s
noncomputable abbrev TI:=St→Hp→(It→Hp→Prop)→Prop
noncomputable def PIE (X:Cx) (pins:List (Addr×Obj)) (σ:St) (tg:Expr) (R:It→Hp→Prop) (itv:Value) (s2:Shared):Prop:=
 ∃ (it:Addr) (fp:List Addr) (tn:Nat→Heap→Prop) (J:It) (H':Hp),itv=.ref it∧Inv X pins σ H' s2∧Turn X.prog X.w X.K tg J fp it tn∧tn 0 s2.heap∧(∀ b ∈ fp,FpOk X pins H' b)∧R J H'
noncomputable def PI (X:Cx) (tg iter:Expr) (wi:TI):Prop:=
 ∀ (pins:List (Addr×Obj)) (s:Shared) (σ:St) (H:Hp) (R:It→Hp→Prop),Inv X pins σ H s→wi σ H R→
  wpAny (model X.prog X.w) X.A (eval iter X.env) (fun v s1=>wpAny (model X.prog X.w) X.A (pyIter v) (PIE X pins σ tg R) X.xe s1) X.xe s
theorem go_of {M : Model} {A : Around} {E : Value → Shared → Prop} {s : Shared} {tg : Expr} {it : Addr} {u : Value} {o : Obj} {n : String} {vs : Array Value} {Q : Unit → Shared → Prop} (ho : s.heap.get? it = some o) (hc : o.cls = .type n) (hd : o.data = .fields vs)
    (hn : ["enumerate", "zip", "dict_itemiterator", "dict_reverseitemiterator", "odict_iterator", "itertools.zip_longest", "itertools.pairwise"].contains n = false) (hQ : Q () s) : wpAny M A (letOwnedTupleGo tg (.ref it) u) Q E s := by
  unfold letOwnedTupleGo
  cases tg <;> first
    | exact wpAny_pure hQ
    | (cases u <;> first
        | exact wpAny_pure hQ
        | (refine wpAny_bind (wpAny_load ho ?_)
           rw [hc, hd]
           show wpAny M A (if (["enumerate", "zip", "dict_itemiterator", "dict_reverseitemiterator", "odict_iterator", "itertools.zip_longest", "itertools.pairwise"].contains n && vs[0]? == some (rawInt _)) = true then _ else _) Q E s
           rw [if_neg (by intro h; rw [hn, Bool.false_and] at h; cases h)]
           exact wpAny_pure hQ))
noncomputable def Itl (K:PySem.W.Frag) (a:Addr):It:=
 ⟨fun i H=>∃ xs x,SqL K H a xs∧xs[i]? = some x,fun i H x H'=>H'=H∧∀ xs,SqL K H a xs→xs[i]? = some x,fun i H=>∃ xs,SqL K H a xs∧xs.length≤i⟩
noncomputable def Itt (K:PySem.W.Frag) (a:Addr):It:=
 ⟨fun i H=>∃ xs x,SqT K H a xs∧xs[i]? = some x,fun i H x H'=>H'=H∧∀ xs,SqT K H a xs→xs[i]? = some x,fun i H=>∃ xs,SqT K H a xs∧xs.length≤i⟩
noncomputable def Itr (lo:Int) (n:Nat):It:=⟨fun i _=>i < n,fun i H x H'=>H'=H∧x=.int (lo + i),fun i _=>n≤i⟩
theorem turn_list {P:Program} {w:World} {K:PySem.W.Frag} {tg:Expr} (a it:Addr):Turn P w K tg (Itl K a) [it] it (fun i h=>h.IsListIter it a i) where
 mem:=by simp
 obj:=fun i h st b hb=>by
  have e:b=it:=by simpa using hb
  subst e
  obtain⟨o,e,c,d⟩:=st
  exact⟨o,e,fun v z=>by rw[d] at z;cases z⟩
 keep:=fun i h h' st k=>st.at fun o e=>k it (by simp) o e
 item:=by
  intro X hP hw hK hc i pins s σ H E I hf st hg
  subst hP hw hK
  obtain⟨xs,x,hq,hx⟩:=hg
  obtain⟨its,rv,p,hz⟩:=I.list hq
  obtain⟨u,hu,ru⟩:=rv.get hx
  obtain⟨f0,f1,f2,f3,f4,f5⟩:=hf it (by simp)
  refine wpAny_pyNext_list_item st p.isList (x:=u) (by simpa using hu) fun h' st' sb=>?_
  have I1:Inv X pins σ H {s with heap:=h'}:=I.turned (t':=s.toks) (fun b o hb e=>(sb.2 b hb).trans e) f0 f1 f3 f4 f5
  obtain⟨o,e,c,d⟩:=id st'
  exact⟨u,rfl,go_of (s:={s with heap:=h'}) e c d (by decide) ⟨x,H,I1,ru,⟨rfl,fun ys hy=>by rw[I.list_inj hy hq];exact hx⟩,st',fun b hb=>(hf b hb).1⟩⟩
 done:=by
  intro X hP hw hK hc i pins s σ H E I hf st hg
  subst hP hw hK
  obtain⟨xs,hq,hx⟩:=hg
  obtain⟨its,rv,p,hz⟩:=I.list hq
  obtain⟨f0,f1,f2,f3,f4,f5⟩:=hf it (by simp)
  have hl:=rv.length
  exact wpAny_pyNext_list_end (I.ok.hd hc) st p.isList (by simp;omega) fun h' eb=>⟨rfl,I.turned (t':=s.toks) (fun b o hb e=>eb b o hb e) f0 f1 f3 f4 f5⟩
 self:=fun _ _ _ _ _ st h=>wpAny_pyIter_listiter st h
theorem turn_tuple {P:Program} {w:World} {K:PySem.W.Frag} {tg:Expr} (a it:Addr):Turn P w K tg (Itt K a) [it] it (fun i h=>h.IsTupleIter it a i) where
 mem:=by simp
 obj:=fun i h st b hb=>by
  have e:b=it:=by simpa using hb
  subst e
  obtain⟨o,e,c,d⟩:=st
  exact⟨o,e,fun v z=>by rw[d] at z;cases z⟩
 keep:=fun i h h' st k=>st.at fun o e=>k it (by simp) o e
 item:=by
  intro X hP hw hK hc i pins s σ H E I hf st hg
  subst hP hw hK
  obtain⟨xs,x,hq,hx⟩:=hg
  obtain⟨its,rv,p,hz⟩:=I.tuple hq
  obtain⟨u,hu,ru⟩:=rv.get hx
  obtain⟨f0,f1,f2,f3,f4,f5⟩:=hf it (by simp)
  refine wpAny_pyNext_tuple_item st (show s.heap.IsTuple a its.toArray from p) (x:=u) (by simpa using hu) fun h' st' sb=>?_
  have I1:Inv X pins σ H {s with heap:=h'}:=I.turned (t':=s.toks) (fun b o hb e=>(sb.2 b hb).trans e) f0 f1 f3 f4 f5
  obtain⟨o,e,c,d⟩:=id st'
  exact⟨u,rfl,go_of (s:={s with heap:=h'}) e c d (by decide) ⟨x,H,I1,ru,⟨rfl,fun ys hy=>by rw[I.tuple_inj hy hq];exact hx⟩,st',fun b hb=>(hf b hb).1⟩⟩
 done:=by
  intro X hP hw hK hc i pins s σ H E I hf st hg
  subst hP hw hK
  obtain⟨xs,hq,hx⟩:=hg
  obtain⟨its,rv,p,hz⟩:=I.tuple hq
  obtain⟨f0,f1,f2,f3,f4,f5⟩:=hf it (by simp)
  have hl:=rv.length
  exact wpAny_pyNext_tuple_end (I.ok.hd hc) st (show s.heap.IsTuple a its.toArray from p) (by simp;omega) fun h' eb=>⟨rfl,I.turned (t':=s.toks) (fun b o hb e=>eb b o hb e) f0 f1 f3 f4 f5⟩
 self:=fun _ _ _ _ _ st h=>wpAny_pyIter_tupleiter st h
theorem turn_range {P:Program} {w:World} {K:PySem.W.Frag} {tg:Expr} (it:Addr) (lo:Int) (n:Nat):Turn P w K tg (Itr lo n) [it] it (fun i h=>IsRangeIter h it (lo + (i:Nat) * 1) ((n:Int) - (i:Nat)) 1) where
 mem:=by simp
 obj:=fun i h st b hb=>by
  have e:b=it:=by simpa using hb
  subst e
  exact⟨_,st,fun v z=>by
   have z':Data.fields _=Data.cell v:=z
   cases z'⟩
 keep:=fun i h h' st k=>k it (by simp) _ st
 item:=by
  intro X hP hw hK hc i pins s σ H E I hf st hg
  subst hP hw hK
  obtain⟨f0,f1,f2,f3,f4,f5⟩:=hf it (by simp)
  have W:=Walks.range (prog:=X.prog) (w:=X.w) (I.ok.hd hc) it lo 1 n
  refine W.item i s _ _ hg st fun v h' tk hv st' kk=>?_
  obtain⟨t,rfl⟩:=hv
  have I1:Inv X pins σ H {s with heap:=h',toks:=tk}:=I.turned (fun b o hb e=>kk b o (by simpa using hb) e) f0 f1 f3 f4 f5
  refine⟨_,rfl,go_of (s:={s with heap:=h',toks:=tk}) (n:="range_iterator") st' rfl rfl (by decide) ⟨.int (lo + i),H,I1,⟨t,?_⟩,⟨rfl,rfl⟩,st',fun b hb=>(hf b hb).1⟩⟩
  rw[Int.mul_one]
 done:=by
  intro X hP hw hK hc i pins s σ H E I hf st hg
  subst hP hw hK
  obtain⟨f0,f1,f2,f3,f4,f5⟩:=hf it (by simp)
  exact wpAny_pyNext_range_end (I.ok.hd hc) st (by have:n≤i:=hg;omega) fun h' eb=>⟨rfl,I.turned (t':=s.toks) (fun b o hb e=>eb b o hb e) f0 f1 f3 f4 f5⟩
 self:=fun _ _ _ _ _ st h=>wpAny_pyIter_rangeiter st h
end L2
namespace L2
open PySem PySem.Spec PyProof.Rows
section
variable {X:Cx} {tg:Expr}
theorem range_it {pins:List (Addr×Obj)} {σ:St} {H:Hp} {s:Shared} {R:It→Hp→Prop} {E:Value→Shared→Prop} {lo hi:Int} {t u v:Tok} {tk:Nat} (I:Inv X pins σ H s) (h1 : -(2 ^ 62)≤lo) (h2:lo < 2 ^ 62) (h3 : -(2 ^ 62)≤hi) (h4:hi < 2 ^ 62)
  (q:R (Itr lo (hi - lo).toNat) H):wpAny (model X.prog X.w) X.A (pyIter (.ref s.heap.objs.size)) (PIE X pins σ tg R) E {s with heap:=s.heap.push {cls:=.type "range",data:=.fields #[.int lo t,.int hi u,.int 1 v]},toks:=tk}:=by
 refine wpAny_pyIter_range (IsRange.new ..) (small_one h1 h2 h3 h4) ?_
 have I1:Inv X pins σ H {s with heap:=s.heap.push {cls:=.type "range",data:=.fields #[.int lo t,.int hi u,.int 1 v]},toks:=tk}:=I.kept fun b o e=>Heap.get?_push_of_some _ e
 refine⟨(s.heap.push {cls:=.type "range",data:=.fields #[.int lo t,.int hi u,.int 1 v]}).objs.size,[(s.heap.push {cls:=.type "range",data:=.fields #[.int lo t,.int hi u,.int 1 v]}).objs.size],_,_,H,rfl,
  I1.kept (t':=tk) fun b o e=>Heap.get?_push_of_some _ e,turn_range _ lo (hi - lo).toNat,?_,fun b hb=>?_,q⟩
 ·have e1:lo + ((0:Nat):Int) * 1=lo:=by simp
  have e2:(((hi - lo).toNat:Nat):Int) - ((0:Nat):Int)=Builtin.Range.rangeSize lo hi 1:=by rw[rangeSize_one];split<;>omega
  show IsRangeIter _ _ (lo + ((0:Nat):Int) * 1) ((((hi - lo).toNat:Nat):Int) - ((0:Nat):Int)) 1
  rw[e1,e2]
  exact Heap.get?_push_size _ rfl
 ·have e:b=(s.heap.push {cls:=.type "range",data:=.fields #[.int lo t,.int hi u,.int 1 v]}).objs.size:=by simpa using hb
  subst e
  exact I1.fpOk (Nat.le_refl _) (I1.hok.fresh (Nat.le_refl _))
noncomputable def iRng1 (ta:TA):TI:=fun σ H R=>ta σ H fun vs H1=>∃ j:Int,vs=[.int j]∧-(2 ^ 62)≤j∧j < 2 ^ 62∧R (Itr 0 j.toNat) H1
noncomputable def iRng2 (ta:TA):TI:=fun σ H R=>ta σ H fun vs H1=>∃ i j:Int,vs=[.int i,.int j]∧(-(2 ^ 62)≤i∧i < 2 ^ 62∧-(2 ^ 62)≤j∧j < 2 ^ 62)∧R (Itr i (j - i).toNat) H1
theorem pi_range1 {a:Expr} {ta:TA} {p pos:Pos} (hg:Gl X "range") (hm:X.mg "range" = none) (ha:PA X [a] ta) (hs:starEach [a] X.env=[(false,eval a X.env)]:=by rfl):PI X tg (.Call (.Name "range" p) [a] [] pos) (iRng1 ta):=by
 intro pins s σ H R I h
 refine Call_ (ld_blt I hg hm boot_range (PyProof.Rows.callWith_type1 (thn (ha pos pins s σ H _ I h) fun us s1 ⟨vs,H1,I1,r1,q1⟩=>?_) hs rfl))
 obtain⟨j,e,q1,q2,q⟩:=q1
 subst e
 cases r1 with
 | cons r rr=>
  cases rr
  obtain⟨t,rfl⟩:=r
  exact call_range_1 (range_it I1 (by omega) (by omega) q1 q2 (by simpa using q))
theorem pi_range2 {a b:Expr} {ta:TA} {p pos:Pos} (hg:Gl X "range") (hm:X.mg "range" = none) (ha:PA X [a,b] ta) (hs:starEach [a,b] X.env=[(false,eval a X.env),(false,eval b X.env)]:=by rfl) (hs2:starEach [b] X.env=[(false,eval b X.env)]:=by rfl) :
  PI X tg (.Call (.Name "range" p) [a,b] [] pos) (iRng2 ta):=by
 intro pins s σ H R I h
 refine Call_ (ld_blt I hg hm boot_range (PyProof.Rows.callWith_type1 (thn (ha pos pins s σ H _ I h) fun us s1 ⟨vs,H1,I1,r1,q1⟩=>?_) (by rw[hs,hs2]) (by rw[hs2];rfl)))
 obtain⟨i,j,e,⟨q1,q2,q3,q4⟩,q⟩:=q1
 subst e
 cases r1 with
 | cons r rr=>
  cases rr with
  | cons r' rr=>
   cases rr
   obtain⟨t,rfl⟩:=r
   obtain⟨t',rfl⟩:=r'
   exact call_range_2 (range_it I1 q1 q2 q3 q4 q)
noncomputable def tFor (wi:TI) (g:TG) (tb:TS):TS:=fun D σ H=>wi σ H fun J H1=>∃ W:Nat→Nat→St→Hp→Prop,(∃ m,W 0 m σ H1)∧∀ i m σ H,W i m σ H→
 (J.stop i H∧D.nx σ H)∨(J.go i H∧∃ N:St→Hp→Prop,(∀ σ' H',N σ' H'→∃ m',m' < m∧W (i + 1) m' σ' H')∧∀ x H',J.yld i H x H'→g x σ H' fun σ2 H2=>tb {D with nx:=N,ct:=N,bk:=D.nx} σ2 H2)
noncomputable def pinsAt (fp:List Addr) (h:Heap):List (Addr×Obj):=fp.filterMap fun b=>(h.get? b).map fun o=>(b,o)
theorem mem_pinsAt {fp:List Addr} {h:Heap} {b:Addr} {o:Obj} (hb:b ∈ fp) (e:h.get? b=some o):(b,o) ∈ pinsAt fp h:=List.mem_filterMap.mpr ⟨b,hb,by rw[e];rfl⟩
theorem of_pinsAt {fp:List Addr} {h:Heap} {p:Addr×Obj} (hp:p ∈ pinsAt fp h):p.1 ∈ fp∧h.get? p.1=some p.2:=by
 obtain⟨b,hb,e⟩:=List.mem_filterMap.mp hp
 cases q:h.get? b with
 | none=>rw[q] at e;cases e
 | some o=>
  rw[q] at e
  have e':(b,o)=p:=Option.some.inj e
  subst e'
  exact⟨hb,q⟩
theorem Inv.pinned {pins:List (Addr×Obj)} {σ:St} {H:Hp} {s:Shared} {fp:List Addr} (I:Inv X pins σ H s) (hf:∀ b ∈ fp,FpOk X pins H b) (ho:∀ b ∈ fp,∃ o,s.heap.get? b=some o∧∀ v,o.data≠.cell v):Inv X (pins++pinsAt fp s.heap) σ H s:=
 I.pins_of fun p hp=>(List.mem_append.mp hp).elim (fun z=>I.pin p (List.mem_append_right _ z)) fun z=>by
  obtain⟨hb,e⟩:=of_pinsAt z
  obtain⟨f0,f1,f2,_⟩:=hf p.1 hb
  obtain⟨o,e',d⟩:=ho p.1 hb
  rw[e] at e';cases e'
  exact⟨e,f0,f1,f2,d⟩
theorem Inv.unpinned {pins pl:List (Addr×Obj)} {σ:St} {H:Hp} {s:Shared} (I:Inv X (pins++pl) σ H s):Inv X pins σ H s:=I.pins_of fun p hp=>I.pin p (List.mem_append_right _ (List.mem_append_left _ hp))
theorem ps_for {iter:Expr} {body:List Stmt} {wi:TI} {g:TG} {tb:TS} {pos:Pos} (hp:PassesOwn (model X.prog X.w) X.A X.env X.xe) (hc:X.calm=true) (hi:PI X tg iter wi) (hg:PG X tg g) (hb:PSs X body tb)
  (hs:∀ x,foldedSetIterable iter X.env x=pure x:=by intro _;rfl):PS X (.For tg iter body [] pos) (tFor wi g tb):=by
 intro pins s σ H D I h
 refine wpAny_For (thn (hi pins s σ H _ I h) fun v s1 h1=>thn h1 fun itv s2 h2=>?_) hs
 obtain⟨it,fp,tn,J,H2,e,I2,T,st2,f2,W,⟨m0,w0⟩,turn⟩:=h2
 subst e
 -- what stays true of the iterator's objects through the loop
 have stat:∀ {H':Hp},(∀ b ∈ fp,H' b=none)→∀ b ∈ fp,FpOk X pins H' b:=fun hn b hb=>⟨hn b hb,(f2 b hb).2⟩
 refine codeAny_forLoop_any (fun n s'=>∃ i σ' H',Inv X pins σ' H' s'∧tn i s'.heap∧(∀ b ∈ fp,H' b=none)∧W i n σ' H') ?_ m0 ⟨0,σ,H2,I2,st2,fun b hb=>(f2 b hb).1,w0⟩
 rintro n s3 ⟨i,σ3,H3,I3,st3,fr3,w3⟩
 rcases turn i n σ3 H3 w3 with ⟨stop,qn⟩ | ⟨go,N,hN,step⟩
 ·refine wpAny_passesOwn hp (thn (T.done X rfl rfl rfl hc i pins s3 σ3 H3 X.xe I3 (stat fr3) st3 stop) fun r s4 ⟨hr,I4⟩=>?_)
  subst hr
  exact wpAny_execs_nil ⟨σ3,H3,I4,qn⟩
 ·refine wpAny_passesOwn hp (thn (T.item X rfl rfl rfl hc i pins s3 σ3 H3 X.xe I3 (stat fr3) st3 go) fun r s4 ⟨u,hr,h4⟩=>?_)
  subst hr
  refine wpAny_passesOwn hp (thn h4 fun _ s5 ⟨x,H5,I5,r5,y5,st5,fr5⟩=>?_)
  have I5':=I5.pinned (stat fr5) (T.obj _ _ st5)
  refine wpAny_passesOwn hp (thn (hg _ s5 σ3 H5 x u _ I5' r5 (step x H5 y5)) fun _ s6 ⟨σ6,H6,I6,q6⟩=>?_)
  refine wpAny_passesOwn hp (thn (hb _ s6 σ6 H6 _ I6 q6) fun f s7 q7=>?_)
  have again:∀ {σ7:St} {H7:Hp},Inv X (pins++pinsAt fp s5.heap) σ7 H7 s7→N σ7 H7→∃ m,m < n∧∃ i σ' H',Inv X pins σ' H' s7∧tn i s7.heap∧(∀ b ∈ fp,H' b=none)∧W i m σ' H':=fun {σ7 H7} I7 n7=>by
   obtain⟨m',hm,w7⟩:=hN σ7 H7 n7
   refine⟨m',hm,i + 1,σ7,H7,I7.unpinned,T.keep _ _ _ st5 fun b hb o e=>(I7.pin (b,o) (List.mem_append_right _ (List.mem_append_right _ (mem_pinsAt hb e)))).1,fun b hb=>?_,w7⟩
   obtain⟨o,e,d⟩:=T.obj _ _ st5 b hb
   exact(I7.pin (b,o) (List.mem_append_right _ (List.mem_append_right _ (mem_pinsAt hb e)))).2.1
  cases f with
  | next=>obtain⟨σ7,H7,I7,n7⟩:=q7;exact again I7 n7
  | cont=>obtain⟨σ7,H7,I7,n7⟩:=q7;exact again I7 n7
  | brk=>obtain⟨σ7,H7,I7,q7⟩:=q7;exact⟨σ7,H7,I7.unpinned,q7⟩
  | ret v=>obtain⟨x7,σ7,H7,I7,r7,q7⟩:=q7;exact⟨x7,σ7,H7,I7.unpinned,r7,q7⟩
end
end L2
namespace L2
open PySem PySem.Spec PyProof.Rows
noncomputable abbrev R2:=V→V→Hp→VK→Prop
noncomputable def OpR (X:Cx) (f:Value→Value→Sem Value) (r:R2):Prop:=
 ∀ (pins:List (Addr×Obj)) (s:Shared) (σ:St) (H:Hp) (x y:V) (v u:Value) (Q:VK),Inv X pins σ H s→RelV x v→RelV y u→r x y H Q→
  wpAny (model X.prog X.w) X.A (f v u) (EP X pins σ Q) X.xe s
noncomputable def UnR (X:Cx) (f:Value→Sem Value) (r:V→Hp→VK→Prop):Prop:=
 ∀ (pins:List (Addr×Obj)) (s:Shared) (σ:St) (H:Hp) (x:V) (v:Value) (Q:VK),Inv X pins σ H s→RelV x v→r x H Q→
  wpAny (model X.prog X.w) X.A (f v) (EP X pins σ Q) X.xe s
noncomputable def CallR (X:Cx) (f:Value) (r:List V→Hp→VK→Prop):Prop:=
 ∀ (pins:List (Addr×Obj)) (s:Shared) (σ:St) (H:Hp) (xs:List V) (us:List Value) (Q:VK),Inv X pins σ H s→Vals xs us→r xs H Q→
  wpAny (model X.prog X.w) X.A (call f us) (EP X pins σ Q) X.xe s
noncomputable def TruR (X:Cx) (r:V→Hp→(Bool→Hp→Prop)→Prop):Prop:=
 ∀ (pins:List (Addr×Obj)) (s:Shared) (σ:St) (H:Hp) (x:V) (v:Value) (Q:Bool→Hp→Prop),Inv X pins σ H s→RelV x v→r x H Q→
  wpAny (model X.prog X.w) X.A (truthy v) (TP X pins σ Q) X.xe s
noncomputable def tOp (r:R2) (ta tb:TE):TE:=fun σ H Q=>ta σ H fun x H1=>tb σ H1 fun y H2=>r x y H2 Q
noncomputable def tUn (r:V→Hp→VK→Prop) (ta:TE):TE:=fun σ H Q=>ta σ H fun x H1=>r x H1 Q
noncomputable def rI (C:Int→Int→Prop) (g:Int→Int→V):R2:=fun x y H Q=>∃ i j,x=.int i∧y=.int j∧C i j∧Q (g i j) H
noncomputable def rI0 (g:Int→Int→V):R2:=fun x y H Q=>∃ i j,x=.int i∧y=.int j∧Q (g i j) H
noncomputable def rU (g:Int→V):V→Hp→VK→Prop:=fun x H Q=>∃ i,x=.int i∧Q (g i) H
section
variable {X:Cx} {a b c:Expr} {ta tb tc:TE} {pos:Pos}
theorem binT (ha:PE X a ta) (hb:PE X b tb) {pins:List (Addr×Obj)} {s:Shared} {σ:St} {H:Hp} {R:V→V→Hp→Prop} (I:Inv X pins σ H s)
  (h:ta σ H fun x H1=>tb σ H1 fun y H2=>R x y H2) {Q:Value→Shared→Prop} {f:Value→Value→Sem Value}
  (hf:∀ v u s2 x y H2,Inv X pins σ H2 s2→RelV x v→RelV y u→R x y H2→wpAny (model X.prog X.w) X.A (f v u) Q X.xe s2) :
  wpAny (model X.prog X.w) X.A (eval a X.env) (fun v s₁=>wpAny (model X.prog X.w) X.A (eval b X.env) (fun u s₂=>wpAny (model X.prog X.w) X.A (f v u) Q X.xe s₂) X.xe s₁) X.xe s:=by
 refine thn (ha pins s σ H _ I h) fun v s1 ⟨x,H1,I1,r1,q1⟩=>?_
 refine thn (hb pins s1 σ H1 _ I1 q1) fun u s2 ⟨y,H2,I2,r2,q2⟩=>?_
 exact hf v u s2 x y H2 I2 r1 r2 q2
theorem pe_op {op:Operator} {r:R2} (ho:OpR X (binaryOp op) r) (ha:PE X a ta) (hb:PE X b tb):PE X (.BinOp a op b pos) (tOp r ta tb):=by
 intro pins s σ H Q I h
 exact wpAny_BinOp (binT ha hb I h fun v u s2 x y H2 I2 rx ry q=>ho pins s2 σ H2 x y v u Q I2 rx ry q)
theorem pe_un {op:UnaryOp} {r:V→Hp→VK→Prop} (ho:UnR X (unaryOp op) r) (ha:PE X a ta):PE X (.UnaryOp op a pos) (tUn r ta):=by
 intro pins s σ H Q I h
 exact UnaryOp_ (thn (ha pins s σ H _ I h) fun v s1 ⟨x,H1,I1,r1,q1⟩=>ho pins s1 σ H1 x v Q I1 r1 q1)
theorem opI {f:Value→Value→Sem Value} {C:Int→Int→Prop} {g:Int→Int→Int}
  (rule:∀ (i j:Int) (t u:Tok) (s:Shared) (Q:Value→Shared→Prop) (E:Value→Shared→Prop),C i j→Q (.int (g i j) s.toks) {s with toks:=s.toks + 1}→wpAny (model X.prog X.w) X.A (f (.int i t) (.int j u)) Q E s) :
  OpR X f (rI C fun i j=>.int (g i j)):=by
 intro pins s σ H x y v u Q I rx ry h
 obtain⟨i,j,rfl,rfl,hc,q⟩:=h
 obtain⟨t,rfl⟩:=rx
 obtain⟨t',rfl⟩:=ry
 exact rule i j t t' s _ _ hc ⟨.int (g i j),H,I.tok _,⟨_,rfl⟩,q⟩
theorem opI0 {f:Value→Value→Sem Value} {g:Int→Int→Int}
  (rule:∀ (i j:Int) (t u:Tok) (s:Shared) (Q:Value→Shared→Prop) (E:Value→Shared→Prop),Q (.int (g i j) s.toks) {s with toks:=s.toks + 1}→wpAny (model X.prog X.w) X.A (f (.int i t) (.int j u)) Q E s) :
  OpR X f (rI0 fun i j=>.int (g i j)):=by
 intro pins s σ H x y v u Q I rx ry h
 obtain⟨i,j,rfl,rfl,q⟩:=h
 obtain⟨t,rfl⟩:=rx
 obtain⟨t',rfl⟩:=ry
 exact rule i j t t' s _ _ ⟨.int (g i j),H,I.tok _,⟨_,rfl⟩,q⟩
noncomputable def CDiv (i j:Int):Prop:=0 < j∧j < 1073741824
noncomputable def CPow (i j:Int):Prop:=0≤j∧j≤1000000∧i.natAbs < 2 ^ 64
noncomputable def CMul (i j:Int):Prop:=(-(2 ^ 64) < i∧i < 2 ^ 64)∨(-(2 ^ 64) < j∧j < 2 ^ 64)
theorem CMul.ok {i j:Int} (h:CMul i j):IntMulOk i j:=by
 rcases h with ⟨h1,h2⟩ | ⟨h1,h2⟩
 ·exact .of_left (intBits_le_64 h1 h2)
 ·exact .of_right (intBits_le_64 h1 h2)
theorem op_add:OpR X (binaryOp .Add) (rI0 fun i j=>.int (i + j)):=opI0 fun _ _ _ _ _ _ _ q=>add_int q
theorem op_sub:OpR X (binaryOp .Sub) (rI0 fun i j=>.int (i - j)):=opI0 fun _ _ _ _ _ _ _ q=>sub_int q
theorem op_mul:OpR X (binaryOp .Mult) (rI CMul fun i j=>.int (i * j)):=opI fun _ _ _ _ _ _ _ hc q=>mul_int q hc.ok
theorem op_fdiv:OpR X (binaryOp .FloorDiv) (rI CDiv fun i j=>.int (i / j)):=opI fun i j _ _ _ _ _ hc q=>by
 have h1:(0:Int) < j:=hc.1
 have h2:j < 1073741824:=hc.2
 exact floordiv_int (by omega) (by rw[Int.fdiv_eq_ediv_of_nonneg i (by omega)];exact q) (.inl (PyProof.noPylong_small (by omega)))
theorem op_mod:OpR X (binaryOp .Mod) (rI (fun _ j=>0 < j) fun i j=>.int (i % j)):=opI fun i j _ _ _ _ _ hc q=>by
 have h1:(0:Int) < j:=hc
 exact mod_int' (by omega) (by rw[Int.fmod_eq_emod_of_nonneg i (by omega)];exact q)
theorem op_pow:OpR X (binaryOp .Pow) (rI CPow fun i j=>.int (i ^ j.toNat)):=opI fun _ _ _ _ _ _ _ hc q=>pow_int_small hc.1 hc.2.1 hc.2.2 q
theorem unI {f:Value→Sem Value} {g:Int→Int}
  (rule:∀ (i:Int) (t:Tok) (s:Shared) (Q:Value→Shared→Prop) (E:Value→Shared→Prop),Q (.int (g i) s.toks) {s with toks:=s.toks + 1}→wpAny (model X.prog X.w) X.A (f (.int i t)) Q E s) :
  UnR X f (rU fun i=>.int (g i)):=by
 intro pins s σ H x v Q I rx h
 obtain⟨i,rfl,q⟩:=h
 obtain⟨t,rfl⟩:=rx
 exact rule i t s _ _ ⟨.int (g i),H,I.tok _,⟨_,rfl⟩,q⟩
theorem un_neg:UnR X (unaryOp .USub) (rU fun i=>.int (-i)):=unI fun _ _ _ _ _ q=>neg_int q
end
section
variable {X:Cx} {a b c:Expr} {ta tb tc:TE} {pos:Pos}
theorem pe_cmpR {op:CmpOp} {r:R2} (ho:OpR X (compareOp op) r) (ha:PE X a ta) (hb:PE X b tb) (hm:behindInMarks op b=false):PE X (.Compare a [op] [b] pos) (tOp r ta tb):=by
 intro pins s σ H Q I h
 exact wpAny_Compare1 (binT ha hb I h fun v u s2 x y H2 I2 rx ry q=>ho pins s2 σ H2 x y v u Q I2 rx ry q) hm
noncomputable def tTest (t:TE):TT:=fun σ H Q=>t σ H fun x H'=>∃ k,x=.bl k∧Q k H'
theorem pt_cmpR {op:CmpOp} {r:R2} (ho:OpR X (compareOp op) r) (ha:PE X a ta) (hb:PE X b tb) (hm:behindInMarks op b=false):PT X (.Compare a [op] [b] pos) (tTest (tOp r ta tb)):=by
 intro pins s σ H Q I h
 refine wpAny_isTrue_Compare1 (thn (ha pins s σ H _ I h) fun v s1 ⟨x,H1,I1,r1,q1⟩=>thn (hb pins s1 σ H1 _ I1 q1) fun u s2 ⟨y,H2,I2,r2,q2⟩=>
  thn (ho pins s2 σ H2 x y v u _ I2 r1 r2 q2) fun c s3 ⟨z,H3,I3,r3,k,e,q3⟩=>?_) hm
 subst e
 cases r3
 exact wpAny_truthy_bool ⟨H3,I3,q3⟩
noncomputable def tChain (r r':R2) (ta tb tc:TE):TE:=fun σ H Q=>ta σ H fun x H1=>tb σ H1 fun y H2=>r x y H2 fun z H3=>∃ k,z=.bl k∧
 (if k=true then tc σ H3 fun w' H4=>r' y w' H4 Q else Q (.bl false) H3)
theorem pe_chain {op op':CmpOp} {r r':R2} (ho:OpR X (compareOp op) r) (ho':OpR X (compareOp op') r') (ha:PE X a ta) (hb:PE X b tb) (hc:PE X c tc)
  (hm:lastMarks [op,op'] [b,c]=false:=by with_unfolding_all rfl):PE X (.Compare a [op,op'] [b,c] pos) (tChain r r' ta tb tc):=by
 intro pins s σ H Q I h
 refine Compare_chain (thn (ha pins s σ H _ I h) fun v s1 ⟨x,H1,I1,r1,q1⟩=>chain_link (thn (hb pins s1 σ H1 _ I1 q1) fun u s2 ⟨y,H2,I2,r2,q2⟩=>
  thn (ho pins s2 σ H2 x y v u _ I2 r1 r2 q2) fun d s3 ⟨z,H3,I3,r3,k,e,q3⟩=>?_)) hm
 subst e
 cases r3
 refine wpAny_truthy_bool ?_
 cases k with
 | false=>exact ite_ff ⟨.bl false,H3,I3,rfl,q3⟩
 | true=>exact ite_tt (chain_last (thn (hc pins s3 σ H3 _ I3 q3) fun w' s4 ⟨z',H4,I4,r4,q4⟩=>ho' pins s4 σ H4 y z' u w' Q I4 r2 r4 q4))
theorem pt_chain {op op':CmpOp} {r r':R2} (ho:OpR X (compareOp op) r) (ho':OpR X (compareOp op') r') (ha:PE X a ta) (hb:PE X b tb) (hc:PE X c tc)
  (hm:lastMarks [op,op'] [b,c]=false:=by with_unfolding_all rfl):PT X (.Compare a [op,op'] [b,c] pos) (tTest (tChain r r' ta tb tc)):=by
 intro pins s σ H Q I h
 refine isTrue_chain (thn (ha pins s σ H _ I h) fun v s1 ⟨x,H1,I1,r1,q1⟩=>test_link (thn (hb pins s1 σ H1 _ I1 q1) fun u s2 ⟨y,H2,I2,r2,q2⟩=>
  thn (ho pins s2 σ H2 x y v u _ I2 r1 r2 q2) fun d s3 ⟨z,H3,I3,r3,k,e,q3⟩=>?_)) hm
 subst e
 cases r3
 refine wpAny_truthy_bool ?_
 cases k with
 | false=>
  obtain⟨k',e',q'⟩:=q3
  cases e'
  exact ite_ff ⟨H3,I3,q'⟩
 | true=>
  refine ite_tt (test_last (thn (hc pins s3 σ H3 _ I3 q3) fun w' s4 ⟨z',H4,I4,r4,q4⟩=>thn (ho' pins s4 σ H4 y z' u w' _ I4 r2 r4 q4) fun d' s5 ⟨z2,H5,I5,r5,k2,e2,q5⟩=>?_))
  subst e2
  cases r5
  exact wpAny_truthy_bool ⟨H5,I5,q5⟩
noncomputable def TruV (K:PySem.W.Frag) (x:V) (H:Hp) (k:Bool):Prop:=
 match x with
 | .non=>k=false
 | .bl b=>k=b
 | .int i=>k=(i != 0)
 | .str y=>y.length≤sizeLine∧k=((y.length:Int) != 0)
 | .byt y=>y.size≤sizeLine∧k=((y.size:Int) != 0)
 | .ref p=>(∃ xs,SqL K H p xs∧k = !xs.isEmpty)∨(∃ xs,SqT K H p xs∧k = !xs.isEmpty)∨∃ kvs,H p=some (.dK kvs)∧k = !kvs.isEmpty
 | _=>False
theorem isEmpty_kv {κ:Type} {kvs:List (κ×V)} {vs:List (κ×Value)} (r:KV kvs vs):(!vs.isEmpty) = !kvs.isEmpty:=by
 cases r<;>rfl
theorem isEmpty_of {xs:List V} {its:List Value} (r:Vals xs its):(!its.toArray.isEmpty) = !xs.isEmpty:=by
 cases r<;>simp
theorem line63:(sizeLine:Nat) < 2 ^ 63:=by rw[sizeLine_eq];decide
theorem tru_ok:TruR X (fun x H Q=>∃ k,TruV X.K x H k∧Q k H):=by
 intro pins s σ H x v Q I rx h
 obtain⟨k,e,q⟩:=h
 have hl:=line63
 have hs:sizeLine=16777216:=sizeLine_eq
 cases x with
 | non=>
  cases rx
  have e':k=false:=e
  subst e'
  exact truthy_none ⟨H,I,q⟩
 | bl b=>
  cases rx
  have e':k=b:=e
  subst e'
  exact wpAny_truthy_bool ⟨H,I,q⟩
 | int i=>
  obtain⟨t,rfl⟩:=rx
  have e':k=(i != 0):=e
  subst e'
  exact PySem.P.truthy_int ⟨H,I,q⟩
 | str y=>
  obtain⟨t,rfl⟩:=rx
  obtain⟨hy,e'⟩:y.length≤sizeLine∧k=((y.length:Int) != 0):=e
  subst e'
  exact PySem.P.truthy_str (by omega) ⟨H,I.tok _,q⟩
 | byt y=>
  obtain⟨t,rfl⟩:=rx
  obtain⟨hy,e'⟩:y.size≤sizeLine∧k=((y.size:Int) != 0):=e
  subst e'
  exact PySem.W.truthy_bytes (by omega) ⟨H,I.tok _,q⟩
 | ref p=>
  cases rx
  have e':(∃ xs,SqL X.K H p xs∧k = !xs.isEmpty)∨(∃ xs,SqT X.K H p xs∧k = !xs.isEmpty)∨∃ kvs,H p=some (.dK kvs)∧k = !kvs.isEmpty:=e
  rcases e' with ⟨xs,hx,e'⟩ | ⟨xs,hx,e'⟩ | ⟨kvs,hx,e'⟩
  ·subst e'
   obtain⟨its,r,pl,hz⟩:=I.list hx
   have hlen:=r.length
   exact wpAny_truthy_list pl.isList (by simp only[List.size_toArray];omega) ⟨H,I.tok _,by rw[isEmpty_of r];exact q⟩
  ·subst e'
   obtain⟨its,r,pl,hz⟩:=I.tuple hx
   have hlen:=r.length
   exact truthy_tuple pl (by simp only[List.size_toArray];omega) ⟨H,I.tok _,by rw[isEmpty_of r];exact q⟩
  ·subst e'
   obtain⟨hz,hS,vs,r,m⟩:kvs.length≤sizeLine∧(p == sysModules)=false∧∃ vs,KV kvs vs∧s.heap.DictOf (mixKind X.prog X.w) p vs:=I.hok p _ hx
   have hlen:kvs.length=vs.length:=Paired.length r
   exact wpAny_truthy_dict hS m (by omega) ⟨H,I.tok _,by rw[isEmpty_kv r];exact q⟩
 | _=>exact(show False from e).elim
theorem op_add_str:OpR X (binaryOp .Add) (fun x y H Q=>∃ i j,x=.str i∧y=.str j∧i.length + j.length≤sizeLine∧Q (.str (i++j)) H):=by
 intro pins s σ H x y v u Q I rx ry h
 obtain⟨i,j,rfl,rfl,hz,q⟩:=h
 obtain⟨t,rfl⟩:=rx
 obtain⟨t',rfl⟩:=ry
 exact add_str (fun t' tk=>⟨.str (i++j),H,I.tok _,⟨_,rfl⟩,q⟩) hz
theorem vals1 {x:V} {us:List Value} (r:Vals [x] us):∃ u,us=[u]∧RelV x u:=by
 cases r with
 | cons r1 r2=>cases r2;exact⟨_,rfl,r1⟩
theorem vals2 {x y:V} {us:List Value} (r:Vals [x,y] us):∃ u w',us=[u,w']∧RelV x u∧RelV y w':=by
 cases r with
 | cons r1 r2=>
  cases r2 with
  | cons r3 r4=>cases r4;exact⟨_,_,rfl,r1,r3⟩
theorem call_abs:CallR X (.builtin "abs") (fun xs H Q=>∃ i,xs=[.int i]∧Q (.int (if i < 0 then -i else i)) H):=by
 intro pins s σ H xs us Q I r h
 obtain⟨i,rfl,q⟩:=h
 obtain⟨u,rfl,t,rfl⟩:=vals1 r
 exact call_abs_int fun u tk=>⟨.int (if i < 0 then -i else i),H,I.tok _,⟨_,rfl⟩,q⟩
theorem call_max2 (hc:X.calm=true):CallR X (.builtin "max") (fun xs H Q=>∃ i j,xs=[.int i,.int j]∧Q (.int (if j > i then j else i)) H):=by
 intro pins s σ H xs us Q I r h
 obtain⟨i,j,rfl,q⟩:=h
 obtain⟨u,w',rfl,⟨t,rfl⟩,⟨t',rfl⟩⟩:=vals2 r
 refine max_two_ints (I.ok.hd hc) fun h' tk k=>⟨_,H,I.kept k,?_,q⟩
 by_cases hj:j > i
 ·rw[if_pos hj,if_pos hj];exact⟨_,rfl⟩
 ·rw[if_neg hj,if_neg hj];exact⟨_,rfl⟩
theorem call_min2 (hc:X.calm=true):CallR X (.builtin "min") (fun xs H Q=>∃ i j,xs=[.int i,.int j]∧Q (.int (if j < i then j else i)) H):=by
 intro pins s σ H xs us Q I r h
 obtain⟨i,j,rfl,q⟩:=h
 obtain⟨u,w',rfl,⟨t,rfl⟩,⟨t',rfl⟩⟩:=vals2 r
 refine min_two_ints (I.ok.hd hc) fun h' tk k=>⟨_,H,I.kept k,?_,q⟩
 by_cases hj:j < i
 ·rw[if_pos hj,if_pos hj];exact⟨_,rfl⟩
 ·rw[if_neg hj,if_neg hj];exact⟨_,rfl⟩
theorem call_int1:CallR X (.type "int") (fun xs H Q=>(∃ i,xs=[.int i]∧Q (.int i) H)∨∃ k,xs=[.bl k]∧Q (.int (if k then 1 else 0)) H):=by
 intro pins s σ H xs us Q I r h
 rcases h with ⟨i,rfl,q⟩ | ⟨k,rfl,q⟩
 ·obtain⟨u,rfl,t,rfl⟩:=vals1 r
  exact call_int_int ⟨.int i,H,I,⟨_,rfl⟩,q⟩
 ·obtain⟨u,rfl,r1⟩:=vals1 r
  cases r1
  exact call_int_bool ⟨.int (if k then 1 else 0),H,I.tok _,⟨_,rfl⟩,q⟩
theorem call_ord:CallR X (.builtin "ord") (fun xs H Q=>∃ x,xs=[.str x]∧x.length=1∧Q (.int (x.cps.getD 0 0:Nat)) H):=by
 intro pins s σ H xs us Q I r h
 obtain⟨x,rfl,hz,q⟩:=h
 obtain⟨u,rfl,t,rfl⟩:=vals1 r
 exact ord_of_one hz ⟨.int _,H,I.tok _,⟨_,rfl⟩,q⟩
noncomputable def LenV (K:PySem.W.Frag) (x:V) (H:Hp) (n:Nat):Prop:=
 match x with
 | .str y=>y.length≤sizeLine∧n=y.length
 | .byt y=>y.size≤sizeLine∧n=y.size
 | .ref p=>(∃ xs,SqL K H p xs∧n=xs.length)∨∃ xs,SqT K H p xs∧n=xs.length
 | _=>False
theorem call_len:CallR X (.builtin "len") (fun xs H Q=>∃ x n,xs=[x]∧LenV X.K x H n∧Q (.int n) H):=by
 intro pins s σ H xs us Q I r h
 obtain⟨x,n,rfl,e,q⟩:=h
 obtain⟨u,rfl,rx⟩:=vals1 r
 have hl:=line63
 have hs:sizeLine=16777216:=sizeLine_eq
 cases x with
 | str y=>
  obtain⟨t,rfl⟩:=rx
  obtain⟨hy,e'⟩:y.length≤sizeLine∧n=y.length:=e
  subst e'
  exact len_str (by omega) ⟨.int _,H,I.tok _,⟨_,rfl⟩,q⟩
 | byt y=>
  obtain⟨t,rfl⟩:=rx
  obtain⟨hy,e'⟩:y.size≤sizeLine∧n=y.size:=e
  subst e'
  exact PySem.W.len_bytes (by omega) ⟨.int _,H,I.tok _,⟨_,rfl⟩,q⟩
 | ref p=>
  cases rx
  have e':(∃ xs,SqL X.K H p xs∧n=xs.length)∨∃ xs,SqT X.K H p xs∧n=xs.length:=e
  rcases e' with ⟨xs,hx,e'⟩ | ⟨xs,hx,e'⟩
  ·subst e'
   obtain⟨its,r',pl,hz⟩:=I.list hx
   have hlen:=r'.length
   exact Calls.call_len_list pl.isList (by simp only[List.size_toArray];omega) ⟨.int xs.length,H,I.tok _,⟨_,by simp only[List.size_toArray];rw[hlen]⟩,q⟩
  ·subst e'
   obtain⟨its,r',pl,hz⟩:=I.tuple hx
   have hlen:=r'.length
   exact len_tuple pl (by simp only[List.size_toArray];omega) ⟨.int xs.length,H,I.tok _,⟨_,by simp only[List.size_toArray];rw[hlen]⟩,q⟩
 | _=>exact(show False from e).elim
end
end L2
namespace L2
open PySem PySem.Spec PyProof.Rows
structure ObjM (h:Heap) (x dx C:Addr) (mA:Str→Option Value):Prop where
 obj:h.get? x=some (PySem.W.instObj C dx)
 ns:h.Ns1 dx mA
 ne:dx≠x
section
variable {prog:Program} {w:World} {A:Around} {E:Value→Shared→Prop} {s:Shared} {K:PySem.W.Frag} {x dx C f:Addr} {mA:Str→Option Value} {name:Str} {v:Value}
end
section
variable {P:Program} {w:World} {H H':Hp} {h h':Heap} {a C dx:Addr} {fs fs':List (Str×V)}
end
structure Cls (K:PySem.W.Frag) (C:Addr):Prop where
 pg:PySem.W.plainGet K C Str.empty=true
 hd:PySem.W.hasDictIn K C=true
 po:PySem.W.plainOver K C=true
 sa:PySem.W.findIn K (.ref C) "__setattr__" = some (some (.builtin "object.__setattr__"))
structure Con (K:PySem.W.Frag) (C:Addr) (f:Str) (v:V) (u:Value):Prop where
 at_:PySem.W.findIn K (.ref C) f=some (some u)
 rel:RelV v u
 get:PySem.W.specialIn K u "__get__" = some none
 cp:PySem.W.copiedNames.contains f=false
structure Meth (K:PySem.W.Frag) (C:Addr) (m:Str) (f:Addr):Prop where
 at_:PySem.W.findIn K (.ref C) m=some (some (.ref f))
 fn:PySem.W.isFn K (.ref f)=true
 kp:PySem.W.keepIn K (.ref f)=true
section
variable {X:Cx} {pins:List (Addr×Obj)} {σ:St} {H:Hp} {s:Shared} {a C dx:Addr} {fs:List (Str×V)} {f:Str} {v:V} {A:Around} {E:Value→Shared→Prop}
end
section
variable {X:Cx} {o e value:Expr} {f:Str} {pos pos' tpos:Pos} {ta tv:TE}
end
section
variable {X:Cx} {pins:List (Addr×Obj)} {σ:St} {H:Hp} {s:Shared} {A:Around} {E:Value→Shared→Prop} {Q:Value→Shared→Prop} {c:Value} {b:Bool}
inductive TyOf (K:PySem.W.Frag) (H:Hp):V→Value→Prop where
 | non:TyOf K H .non (.type "NoneType")
 | bl (x:Bool):TyOf K H (.bl x) (.type "bool")
 | int (i:Int):TyOf K H (.int i) (.type "int")
 | str (x:Str):TyOf K H (.str x) (.type "str")
 | flt (x:UInt64):TyOf K H (.flt x) (.type "float")
 | lst {a:Addr} {xs:List V} (e:H a=some (.lst xs)):TyOf K H (.ref a) (.type "list")
 | frz {a:Addr} {o:Obj} {xs:List V} (e:H a=some (.frz o (.lst xs))):TyOf K H (.ref a) (.type "list")
 | tup {a:Addr} {xs:List V} (e:H a=some (.tup xs)):TyOf K H (.ref a) (.type "tuple")
 | dK {a:Addr} {kvs:List (Key×V)} (e:H a=some (.dK kvs)):TyOf K H (.ref a) (.type "dict")
 | dT {a:Addr} {kvs:List (List Key×V)} (e:H a=some (.dT kvs)):TyOf K H (.ref a) (.type "dict")
 | ins {a C dx:Addr} {fs:List (Str×V)} (e:H a=some (.ins C dx fs)) (cl:Cls K C) (ha:PySem.W.findIn K (.ref C) "__class__" = some (some (.builtin "object.__class__")))
   (hn:PySem.W.specialIn K (.builtin "object.__class__") "__get__" = some (some (.builtin "getset_descriptor.__get__"))) (htk:PySem.W.takesIn K (.builtin "object.__class__")=some true)
   (hm:PySem.W.mroIn K C (.type "object")=some true):TyOf K H (.ref a) (.ref C)
end
end L2
namespace L2
open PySem PySem.Spec PyProof.Rows
structure Room (k:Nat) (A:Around):Prop where
 hd:k < 1000→A.handled=none
 dp:A.depth + 3 * (k % 1000) + 5 < recursionLimit
 un:A.units + 16 * (k % 1000) + 200 < cLine
theorem Room.deeper {k:Nat} {A:Around} (r:Room (k + 1) A) (env:Env) (hk:k % 1000≠999):Room k (A.deeper env):=
 ⟨fun z=>r.hd (by omega),by have:=r.dp;show A.depth + 1 + 3 * (k % 1000) + 5 < _;omega,by have:=r.un;show A.units + 3 + 16 * (k % 1000) + 200 < _;omega⟩
theorem Room.depth {k:Nat} {A:Around} (r:Room k A):A.depth < recursionLimit:=by have:=r.dp;omega
noncomputable def tNil:TA:=fun _ H Q=>Q [] H
noncomputable def tCons (ta:TE) (tr:TA):TA:=fun σ H Q=>ta σ H fun x H1=>tr σ H1 fun xs H2=>Q (x::xs) H2
section
variable {X:Cx} {e:Expr} {es:List Expr} {te:TE} {t:TA} {pos:Pos}
theorem pa_nil:PA X [] tNil:=fun _ _ _ _ H Q I h=>Calls.spliced_nil ⟨[],H,I,.nil,h⟩
theorem pa_cons (ha:PE X e te) (hr:PA X es t) (hs:starEach (e::es) X.env=(false,eval e X.env)::starEach es X.env:=by rfl):PA X (e::es) (tCons te t):=by
 intro pos pins s σ H Q I h
 rw[hs]
 show wpAny _ _ (spliced ((false,eval e X.env)::backTo pos (starEach es X.env))) _ _ s
 refine Calls.spliced_cons (thn (ha pins s σ H _ I h) fun u s1 ⟨x,H1,I1,r1,q1⟩=>?_)
 exact thn (hr pos pins s1 σ H1 _ I1 q1) fun us s2 ⟨xs,H2,I2,r2,q2⟩=>⟨x::xs,H2,I2,.cons r1 r2,q2⟩
noncomputable def tTup (t:TA):TE:=fun σ H Q=>t σ H fun xs H1=>xs.length≤sizeLine∧∀ p,H1 p=none→Q (.ref p) (upd H1 p (.tup xs))
noncomputable def tLst (t:TA):TE:=fun σ H Q=>t σ H fun xs H1=>xs.length≤sizeLine∧∀ p,H1 p=none→Q (.ref p) (upd H1 p (.lst xs))
theorem pe_tup {x1} (h:PA X es t):PE X (.Tuple es x1 pos) (tTup t):=by
 intro pins s σ H Q I hq
 refine wpAny_Tuple_spliced (thn (h pos pins s σ H _ I hq) fun us s1 ⟨xs,H1,I1,r,z,q⟩=>⟨by rw[← r.length];exact z,?_⟩)
 have hf:H1 s1.heap.objs.size=none:=I1.hok.fresh (Nat.le_refl _)
 refine⟨.ref s1.heap.objs.size,upd H1 s1.heap.objs.size (.tup xs),I1.laid (t':=s1.toks) (fun b u e=>Heap.get?_push_of_some _ e) (Nat.le_refl _) ?_,rfl,q _ hf⟩
 exact⟨z,us,r,⟨_,Heap.get?_push_size _ rfl,rfl,_,rfl⟩⟩
theorem pe_lst (h:PA X es t):PE X (.List es pos) (tLst t):=by
 intro pins s σ H Q I hq
 refine wpAny_List_spliced (thn (h pos pins s σ H _ I hq) fun us s1 ⟨xs,H1,I1,r,z,q⟩=>⟨by rw[← r.length];exact z,?_⟩)
 have hf:H1 s1.heap.objs.size=none:=I1.hok.fresh (Nat.le_refl _)
 refine⟨.ref s1.heap.objs.size,upd H1 s1.heap.objs.size (.lst xs),I1.laid (t':=s1.toks) (fun b u e=>Heap.get?_push_of_some _ e) (Nat.le_refl _) ?_,rfl,q _ hf⟩
 exact⟨z,us,0,r,Heap.get?_push_size _ rfl⟩
end
noncomputable abbrev Sp:=List V→Hp→VK→XK→Prop
noncomputable abbrev CXT:=List Env→Hp→Shared→XK→Value→Shared→Prop
structure Env0 (P:Program) (w:World) (K:PySem.W.Frag) (mg:Str→Option Value) (base:Heap) (A:Around) (outer:List Env) (s:Shared) (H:Hp):Prop where
 frames:A.frames=some outer
 mod:Mod K mg base
 bs:∀ b o,base.get? b=some o→s.heap.get? b=some o∧H b=none
 bsz:base.objs.size≤s.heap.objs.size
 funs:s.heap.FunFrames base outer
 frf:∀ b ∈ frs outer,H b=none
 hok:HOk P w H s.heap
 bare:AllBare s.gens
noncomputable def CE (outer:List Env) (P:Program) (w:World) (H:Hp) (s:Shared) (Q:VK) (u:Value) (s':Shared):Prop:=
 ∃ v H',s'.os=s.os∧AllBare s'.gens∧Un (frs outer) [] H H' s.heap s'.heap∧HOk P w H' s'.heap∧RelV v u∧Q v H'
noncomputable def CR (CX:CXT) (outer:List Env) (P:Program) (w:World) (H:Hp) (s:Shared) (Q:VK) (E:XK) (r:Result) (s':Shared):Prop:=
 match r with
 | .ok (.ret u)=>CE outer P w H s Q u s'
 | .ok _=>False
 | .error e=>CX outer H s E e s'
structure FnOk (P:Program) (w:World) (K:PySem.W.Frag) (mg:Str→Option Value) (base:Heap) (CX:CXT) (k:Nat) (f:Addr) (fd:FuncData) (ps:List Str) (sp:Sp):Prop where
 len:∀ vs H Q E,sp vs H Q E→vs.length=ps.length
 run:∀ (A:Around) (outer:List Env) (s:Shared) (H:Hp) (args:Args) (us:List Value) (vs:List V) (Q:VK) (E:XK),Room k A→Env0 P w K mg base A outer s H→BindsTo s fd args (ps.zip us)→Vals vs us→sp vs H Q E→
  codeAny (model P w) A (.call (.ref f) args) (CR CX outer P w H s Q E) s
section
variable {X:Cx} {pins:List (Addr×Obj)} {σ:St} {H:Hp} {s s':Shared}
theorem Inv.env0 (I:Inv X pins σ H s):Env0 X.prog X.w X.K X.mg X.base X.A X.stack s H:=
 ⟨I.ok.frames,I.ok.mod,I.bs,Nat.le_trans I.ok.bsz I.sz,I.stack,I.stkFree,I.hok,I.bare⟩
theorem Inv.after {Q:VK} {u:Value} (I:Inv X pins σ H s) (h:CE X.stack X.prog X.w H s Q u s'):EP X pins σ Q u s':=by
 obtain⟨v,H',os,bare,un,hok,r,q⟩:=h
 obtain⟨hh,g,d,t,os'⟩:=s'
 obtain rfl:os'=s.os:=os
 exact⟨v,H',I.call (h':=hh) (g':=g) (d':=d) (t':=t) (ch:=[]) un hok bare (fun b z=>absurd z (by simp)),r,q⟩
end
noncomputable def Binds (K:PySem.W.Frag) (fd:FuncData) (ps:List Str) (ds:List Value):Prop:=
 ∀ (s:Shared) (us:List Value),K.In s.heap→(us++ds).length=ps.length→BindsTo s fd ⟨us,[]⟩ (ps.zip (us++ds))
theorem Binds.all {K:PySem.W.Frag} {fd:FuncData} {ps:List Str} (h:∀ us:List Value,us.length=ps.length→bindArgs fd ⟨us,[]⟩=pure (ps.zip us)):Binds K fd ps []:=fun s us _ hl=>by
 rw[List.append_nil] at hl ⊢
 exact .of_eq (h us hl)
noncomputable def Passes (CX:CXT) (X:Cx) (E:XK):Prop:=∀ (pins:List (Addr×Obj)) (σ:St) (H:Hp) (s:Shared) (e:Value) (s':Shared),Inv X pins σ H s→CX X.stack H s E e s'→X.xe e s'
section
variable {X:Cx} {CX:CXT} {k:Nat} {f C:Addr} {fd:FuncData} {ps:List Str} {sp:Sp} {dvs:List V} {ds:List Value} {E:XK} {x m:Str} {p pos apos:Pos} {e o:Expr} {es:List Expr} {ta:TE} {t:TA}
structure Mk (K:PySem.W.Frag) (C f:Addr):Prop where
 makes:PySem.W.makesIn K C=true
 init:PySem.W.findIn K (.ref C) "__init__" = some (some (.ref f))
 fn:PySem.W.isFn K (.ref f)=true
 kp:PySem.W.keepIn K (.ref C)=true
end
section
variable {X:Cx} {CX:CXT} {k:Nat} {f C:Addr} {fd:FuncData} {ps ks:List Str} {sp:Sp} {E:XK} {x m:Str} {p pos apos kpos:Pos} {e o:Expr} {es:List Expr} {kws:List Keyword} {te ta:TE} {t tk:TA} {nm:Option Str}
structure KBinds (K:PySem.W.Frag) (fd:FuncData) (ps ks:List Str) (g:List Value→List Value→List Value) (gV:List V→List V→List V):Prop where
 to:∀ (s:Shared) (us ws:List Value),K.In s.heap→(g us ws).length=ps.length→BindsTo s fd ⟨us,ks.zip ws⟩ (ps.zip (g us ws))
 rel:∀ {vs:List V} {us:List Value} {zs:List V} {ws:List Value},Vals vs us→Vals zs ws→Vals (gV vs zs) (g us ws)
variable {g:List Value→List Value→List Value} {gV:List V→List V→List V}
end
structure FnScope (N P:List Str) (sc:Scope):Prop where
 kind:sc.kind=.function
 co:sc.isCoroutine=false
 gen:sc.isGenerator=false
 nd:N.Nodup
 pre:N.take P.length=P
 par:∀ x ∈ P,sc.names.lookup x=some .local∨sc.names.lookup x=some .cell
 nofree:∀ y ∈ sc.names,y.2≠.free
theorem bindL_out {kindOf:Str→Option NameKind} {x:Str}:∀ {binds:List (Str×Value)} {m:Str→Option Value},(∀ v,(x,v) ∉ binds)→bindL kindOf binds m x=m x
 | [],_,_=>rfl
 | (n,v)::r,m,h=>by
  unfold bindL
  rw[bindL_out fun w hw=>h w (List.mem_cons_of_mem _ hw)]
  split
  ·have:x≠n:=by rintro rfl;exact h v List.mem_cons_self
   simp[this]
  ·rfl
theorem bindC_out {kindOf:Str→Option NameKind} {x:Str}:∀ {binds:List (Str×Value)} {m:Str→Option Value},(∀ v,(x,v) ∉ binds)→bindC kindOf binds m x=m x
 | [],_,_=>rfl
 | (n,v)::r,m,h=>by
  unfold bindC
  rw[bindC_out fun w hw=>h w (List.mem_cons_of_mem _ hw)]
  split
  ·rfl
  ·have:x≠n:=by rintro rfl;exact h v List.mem_cons_self
   simp[this]
theorem bindL_get {kindOf:Str→Option NameKind} {x:Str} {v:Value}:∀ {P:List Str} {vs:List Value} {i:Nat} {m:Str→Option Value},P.Nodup→P[i]? = some x→vs[i]? = some v→kindOf x=some .local→
  bindL kindOf (P.zip vs) m x=some v
 | [],_,_,_,_,h,_,_=>by simp at h
 | _::_,[],_,_,_,_,h,_=>by simp at h
 | p::P,w::vs,0,m,nd,h1,h2,hk=>by
  simp at h1 h2;subst h1;subst h2
  show bindL kindOf ((p,w)::P.zip vs) m p=_
  unfold bindL
  rw[bindL_out fun v hv=>(List.nodup_cons.mp nd).1 (List.of_mem_zip hv).1,if_pos hk]
  simp
 | p::P,w::vs,i + 1,m,nd,h1,h2,hk=>by
  show bindL kindOf ((p,w)::P.zip vs) m x=_
  unfold bindL
  exact bindL_get (i:=i) (List.nodup_cons.mp nd).2 (by simpa using h1) (by simpa using h2) hk
theorem bindC_get {kindOf:Str→Option NameKind} {x:Str} {v:Value}:∀ {P:List Str} {vs:List Value} {i:Nat} {m:Str→Option Value},P.Nodup→P[i]? = some x→vs[i]? = some v→kindOf x≠some .local→
  bindC kindOf (P.zip vs) m x=some v
 | [],_,_,_,_,h,_,_=>by simp at h
 | _::_,[],_,_,_,_,h,_=>by simp at h
 | p::P,w::vs,0,m,nd,h1,h2,hk=>by
  simp at h1 h2;subst h1;subst h2
  show bindC kindOf ((p,w)::P.zip vs) m p=_
  unfold bindC
  rw[bindC_out fun v hv=>(List.nodup_cons.mp nd).1 (List.of_mem_zip hv).1,if_neg hk]
  simp
 | p::P,w::vs,i + 1,m,nd,h1,h2,hk=>by
  show bindC kindOf ((p,w)::P.zip vs) m x=_
  unfold bindC
  exact bindC_get (i:=i) (List.nodup_cons.mp nd).2 (by simpa using h1) (by simpa using h2) hk
noncomputable def start (N:List Str) (vs:List V):St:=vs.map some++List.replicate (N.length - vs.length) none
noncomputable def cxOf (CX:CXT) (P:Program) (w:World) (K:PySem.W.Frag) (mg:Str→Option Value) (base:Heap) (N:List Str) (qual:Str) (scope:Scope) (f:Addr) (cd:Value) (A:Around) (outer:List Env) (s:Shared) (H:Hp) (E:XK):Cx where
 prog:=P
 w:=w
 K:=K
 mg:=mg
 base:=base
 A:=A.deeper (envOfC qual scope s.heap.objs.size f cd)
 N:=N
 s₀:=s
 H₀:=H
 env:=envOfC qual scope s.heap.objs.size f cd
 outer:=outer
 stack:=envOfC qual scope s.heap.objs.size f cd::outer
 ex:=[]
 calm:=A.handled.isNone
 fn:=fun _=>true
 pn:=[]
 xe:=fun e s'=>wpAny (model P w) (A.deeper (envOfC qual scope s.heap.objs.size f cd)) (leaving (envOfC qual scope s.heap.objs.size f cd) e) (fun _ s''=>CX outer H s E e s'') (fun e' s''=>CX outer H s E e' s'') s'
theorem cell_has {sc:Scope} {n:Nat} {x:Str} (h:sc.names.lookup x=some .cell):∃ c,(cellsFrom n sc.names []).lookup x=some c:=by
 have q:=PySem.W.cellsFrom_some sc.names n [] (.inl h)
 exact Option.isSome_iff_exists.mp q
theorem inv_start {CX:CXT} {P:Program} {w:World} {K:PySem.W.Frag} {mg:Str→Option Value} {base:Heap} {N ps:List Str} {qual:Str} {scope:Scope} {f:Addr} {cd:Value} {A:Around} {outer:List Env} {s s1:Shared} {H:Hp} {E:XK} {us:List Value} {vs:List V}
  (S:FnScope N ps scope) (e0:Env0 P w K mg base A outer s H) (hl:vs.length=ps.length) (r:Vals vs us)
  (x:InCallC s s.heap.objs.size (bindL (envOfC qual scope s.heap.objs.size f cd).kindOf (ps.zip us) fun _=>none) (cellsFrom (s.heap.objs.size + 1) scope.names []) (bindC (envOfC qual scope s.heap.objs.size f cd).kindOf (ps.zip us) fun _=>none) s1) :
  Inv (cxOf CX P w K mg base N qual scope f cd A outer s H E) [] (start N vs) H s1:=by
 have hpl:ps.length≤N.length:=by have:=congrArg List.length S.pre;rw[List.length_take] at this;omega
 obtain⟨h1,tk,rfl,hk⟩:=x.done
 have noA:∀ b:Addr,b ∉ (cxOf CX P w K mg base N qual scope f cd A outer s H E).ex:=fun b z=>absurd (show b ∈ ([]:List Addr) from z) (by simp)
 refine⟨⟨e0.mod,S.kind,rfl,rfl,Nat.le_refl _,fun y z c h1 h2=>?_,fun y hy=>?_,fun y c _ h=>?_,fun h=>Option.isNone_iff_eq_none.mp h,Around.frames_deeper e0.frames,.inr ⟨rfl,rfl⟩,fun b z=>absurd z (noA b),e0.bs,e0.bsz,fun b _ _=>noA b,fun b z=>absurd z (noA b),e0.funs,e0.frf⟩,
  rfl,e0.bare,Un.kept hk,⟨_,x.toInCall.ns,fun i y v h1 h2 h3=>?_⟩,fun y c h=>⟨_,x.cell y c h⟩,e0.hok.fresh (Nat.le_refl _),fun y c h=>?_,fun p hp=>absurd (show p ∈ ([]:List (Addr×Obj)) from hp) (by simp),e0.hok.kept hk,?_⟩
 ·exact name_of_addr x.apart (PySem.mem_of_lookup h1) (PySem.mem_of_lookup h2)
 ·have hy:scope.names.lookup y=some .cell∨scope.names.lookup y=some .free:=hy
  rcases hy with hy | hy
  ·exact cell_has hy
  ·exact absurd rfl (S.nofree _ (PySem.mem_of_lookup hy))
 ·exact Nat.le_of_lt (x.above y c (PySem.mem_of_lookup h))
 ·have hi:i < vs.length:=by
   unfold start at h2
   by_cases hi:i < vs.length
   ·exact hi
   ·rw[List.getElem?_append_right (by simpa using hi)] at h2
    rw[List.getElem?_replicate] at h2
    split at h2<;>cases h2
  have ha:vs[i]? = some v:=by
   unfold start at h2
   rw[List.getElem?_append_left (by simpa using hi),List.getElem?_map] at h2
   cases e:vs[i]? with
   | none=>rw[e] at h2;cases h2
   | some a=>rw[e] at h2;cases h2;rfl
  obtain⟨u,hu,rv⟩:=r.get ha
  have hp:ps[i]? = some y:=by
   rw[← S.pre,List.getElem?_take_of_lt (by omega)];exact h1
  have ndP:ps.Nodup:=by rw[← S.pre];exact S.nd.sublist (List.take_sublist _ _)
  refine⟨u,rv,?_⟩
  rcases S.par y (List.mem_of_getElem? hp) with k | k
  ·exact .inl ⟨k,bindL_get ndP hp hu k⟩
  ·obtain⟨c,e⟩:=cell_has (n:=s.heap.objs.size + 1) k
   refine .inr ⟨.inl k,c,e,?_⟩
   have q:=x.cell y c e
   rw[bindC_get ndP hp hu (by show scope.names.lookup y≠_;rw[k];decide)] at q
   exact q
 ·exact e0.hok.fresh (Nat.le_of_lt (x.above y c (PySem.mem_of_lookup h)))
 ·unfold start
  show _=N.length
  rw[List.length_append,List.length_map,List.length_replicate]
  omega
theorem fn_of {CX:CXT} {P:Program} {w:World} {K:PySem.W.Frag} {mg:Str→Option Value} {base:Heap} {k:Nat} {f:Addr} {name qual:Str} {params:Arguments} {body:List Stmt} {scope:Scope} {dV kV doc pm cdv ct oc:Value} {an od:Option Addr}
  {osl:Array (Option Value)} {N ps:List Str} {sp:Sp} (lk:K.lookup f=some ⟨oc,od,.func (PySem.W.fnOf name qual params body scope dV kV doc pm an cdv ct),osl⟩) (hcd:PySem.W.codeIn K cdv qual=true) (S:FnScope N ps scope)
  (hk9:k % 1000≠999) (len:∀ vs H Q E,sp vs H Q E→vs.length=ps.length)
  (hbody:∀ (A:Around) (outer:List Env) (s:Shared) (H:Hp) (vs:List V) (Q:VK) (E:XK),Room k (A.deeper (envOfC qual scope s.heap.objs.size f cdv))→sp vs H Q E→
   ∃ t,PSs (cxOf CX P w K mg base N qual scope f cdv A outer s H E) body t∧t {nx:=fun _ H'=>Q .non H',rt:=Q} (start N vs) H) :
  FnOk P w K mg base CX (k + 1) f (PySem.W.fnOf name qual params body scope dV kV doc pm an cdv ct) ps sp:=by
 refine⟨len,fun A outer s H args us vs Q E hr e0 hb r hsp=>?_⟩
 have hl:=len _ _ _ _ hsp
 have KX:K.In s.heap:=e0.mod.kin.keeps fun b o e=>(e0.bs b o e).1
 have lim:s.heap.NoLimit:=e0.mod.nolimit.keeps fun b o e=>(e0.bs b o e).1
 have hkind:∀ y ∈ ps.zip us,scope.names.lookup y.1=some .local∨(scope.names.lookup y.1=some .cell∧((cellsFrom (s.heap.objs.size + 1) scope.names []).lookup y.1).isSome=true):=fun ⟨n,v⟩ hy=>by
  rcases S.par n (List.of_mem_zip hy).1 with q | q
  ·exact .inl q
  ·exact .inr ⟨q,PySem.W.cellsFrom_some _ _ _ (.inl q)⟩
 refine codeAny_call_function hr.depth (KX _ _ lk) rfl S.co S.gen rfl (PySem.W.codeRec_of KX hcd) (hb _ _ _ _ ?_)
 refine wpAny_newFunctionEnv_cells S.kind hkind fun env he s1 x=>?_
 subst he
 refine⟨lim.keeps x.toInCall.keep,codeAny_func ?_⟩
 obtain⟨t,ht,hq⟩:=hbody A outer s H vs Q E (hr.deeper _ hk9) hsp
 have I:Inv (cxOf CX P w K mg base N qual scope f cdv A outer s H E) [] (start N vs) H s1:=inv_start S e0 hl r x
 refine wpAny_mono (ht [] s1 (start N vs) H _ I hq) (fun fl s' hs=>?_) fun e s' hs=>hs
 have fin:∀ {σ':St} {H':Hp} {v:V} {u:Value},Inv (cxOf CX P w K mg base N qual scope f cdv A outer s H E) [] σ' H' s'→RelV v u→Q v H'→CE outer P w H s Q u s':=
  fun {σ' H' v u} J rv q=>⟨v,H',J.os,J.bare,J.base,J.hok,rv,q⟩
 cases fl with
 | ret u=>
  obtain⟨v,σ',H',J,rv,q⟩:=hs
  exact fin J rv q
 | next=>
  obtain⟨σ',H',J,q⟩:=hs
  exact fin (v:=V.non) (u:=Value.none) J rfl q
 | brk=>
  obtain⟨_,_,_,q⟩:=hs
  exact False.elim q
 | cont=>
  obtain⟨_,_,_,q⟩:=hs
  exact False.elim q
end L2
namespace L2
open PySem PySem.Spec PyProof.Rows
section
variable {X:Cx} {x:Str} {p pos:Pos} {e:Expr} {es:List Expr} {t:TA} {id T:String} {r:List V→Hp→VK→Prop}
noncomputable def tCB (r:List V→Hp→VK→Prop) (t:TA):TE:=fun σ H Q=>t σ H fun vs H1=>r vs H1 Q
theorem pe_callB (hc:CallR X (.builtin id) r) (hg:Gl X x) (hm:X.mg x=none) (hv:bootBuiltins x=some (.builtin id)) (ha:PA X (e::es) t) (hn:x≠"__name__":=by decide) (hdb:(x == ("__debug__" : Str))=false:=by decide)
  (he:starEach (e::es) X.env=(false,eval e X.env)::starEach es X.env:=by rfl) (hpl:(backTo pos (starEach es X.env)).any (·.1)=false:=by rfl):PE X (.Call (.Name x p) (e::es) [] pos) (tCB r t):=by
 intro pins s σ H Q I h
 refine wpAny_Call_Name_kw (ld_blt I hg hm hv ?_ hn hdb)
 exact PyProof.Rows.callWith_builtin1 (thn (ha pos pins s σ H _ I h) fun us s1 ⟨vs,H1,I1,r1,q1⟩=>hc pins s1 σ H1 vs us Q I1 r1 q1) he hpl
theorem pe_callTy (hc:CallR X (.type T) r) (hg:Gl X x) (hm:X.mg x=none) (hv:bootBuiltins x=some (.type T)) (ha:PA X (e::es) t) (hn:x≠"__name__":=by decide) (hdb:(x == ("__debug__" : Str))=false:=by decide)
  (he:starEach (e::es) X.env=(false,eval e X.env)::starEach es X.env:=by rfl) (hpl:(backTo pos (starEach es X.env)).any (·.1)=false:=by rfl):PE X (.Call (.Name x p) (e::es) [] pos) (tCB r t):=by
 intro pins s σ H Q I h
 refine wpAny_Call_Name_kw (ld_blt I hg hm hv ?_ hn hdb)
 exact PyProof.Rows.callWith_type1 (thn (ha pos pins s σ H _ I h) fun us s1 ⟨vs,H1,I1,r1,q1⟩=>hc pins s1 σ H1 vs us Q I1 r1 q1) he hpl
end
end L2
namespace HT
open PySem PyProof.Rows
noncomputable def lexLt:List Int→List Int→Bool
 | [],[]=>false
 | [],_::_=>true
 | _::_,[]=>false
 | x::xs,y::ys=>if x=y then lexLt xs ys else decide (x < y)
theorem lexLt_cons (x y:Int) (xs ys:List Int):lexLt (x::xs) (y::ys)=if x=y then lexLt xs ys else decide (x < y):=rfl
section
open PySem.SeqAt
open PySem.AutoSeq1 (wpAny_loadPart')
open PySem.MeetsSeq PySem.MeetsSeq2 PySem.MeetsSeq3
end
section
variable {prog:Program} {w:World} {A:Around} {E:Value→Shared→Prop} {s:Shared}
noncomputable def sIx (n d:Nat):Option Int→Nat
 | none=>d
 | some v=>if v < 0 then (v + (n:Int)).toNat else min v.toNat n
end
end HT
namespace L2
open PySem PySem.Spec PyProof.Rows
noncomputable abbrev TO:=St→Hp→(Option Int→Hp→Prop)→Prop
noncomputable def PO (X:Cx) (e:Option Expr) (t:TO):Prop:=
 ∀ (pins:List (Addr×Obj)) (s:Shared) (σ:St) (H:Hp) (Q:Option Int→Hp→Prop),Inv X pins σ H s→t σ H Q→
  wpAny (model X.prog X.w) X.A (evalPart e X.env) (fun u s'=>∃ o H',Inv X pins σ H' s'∧IsPart u o∧Q o H') X.xe s
noncomputable def tNoPart:TO:=fun _ H Q=>Q none H
noncomputable def tPart (t:TE):TO:=fun σ H Q=>t σ H fun x H1=>∃ i,x=.int i∧Q (some i) H1
theorem intsAre_of {ns:List Int}:∀ {us:List Value},Vals (ns.map V.int) us→IntsAre us ns:=by
 induction ns with
 | nil=>intro us r;rw[List.map_nil] at r;cases r;exact .nil
 | cons n ns ih=>
  intro us r
  rw[List.map_cons] at r
  cases r with
  | cons r1 r2=>
   obtain⟨t,e⟩:=r1
   subst e
   exact .cons n t (ih r2)
section
variable {X:Cx} {e:Expr} {te:TE} {lo hi:Option Expr} {tl th:TO} {pos p2:Pos}
theorem po_none:PO X none tNoPart:=by
 intro pins s σ H Q I h
 rw[evalPart_none]
 exact wpAny_pure ⟨none,H,I,.none,h⟩
theorem po_some (h:PE X e te):PO X (some e) (tPart te):=by
 intro pins s σ H Q I hw
 rw[evalPart_some]
 refine thn (h pins s σ H _ I hw) fun u s1 ⟨x,H1,I1,r1,q1⟩=>?_
 obtain⟨i,rfl,q⟩:=q1
 obtain⟨t,rfl⟩:=r1
 exact⟨some i,H1,I1,.int i t,q⟩
noncomputable def SlR (X:Cx) (r:V→Option Int→Option Int→Hp→VK→Prop):Prop:=
 ∀ (pins:List (Addr×Obj)) (s:Shared) (σ:St) (H:Hp) (x:V) (v vl vu:Value) (lo hi:Option Int) (sl:Addr) (Q:VK),Inv X pins σ H s→RelV x v→s.heap.IsSliceOf sl vl vu .none→IsPart vl lo→IsPart vu hi→r x lo hi H Q→
  ∃ T id,typeLookup (.type T) "__getitem__" = pure (some (.builtin id))∧s.TypeIs v T∧wpAny (model X.prog X.w) X.A (getItem v (.ref sl)) (EP X pins σ Q) X.xe s
noncomputable def tSl (r:V→Option Int→Option Int→Hp→VK→Prop) (te:TE) (tl th:TO):TE:=fun σ H Q=>te σ H fun x H1=>tl σ H1 fun l H2=>th σ H2 fun u H3=>r x l u H3 Q
theorem pe_slice {r:V→Option Int→Option Int→Hp→VK→Prop} (hr:SlR X r) (he:PE X e te) (hl:PO X lo tl) (hu:PO X hi th):PE X (.Subscript e (.Slice lo hi none p2) pos) (tSl r te tl th):=by
 intro pins s σ H Q I h
 refine Subscript_ (thn (he pins s σ H _ I h) fun v s1 ⟨x,H1,I1,r1,q1⟩=>?_)
 refine wpAny_Slice (thn (hl pins s1 σ H1 _ I1 q1) fun vl s2 ⟨l,H2,I2,pl,q2⟩=>thn (hu pins s2 σ H2 _ I2 q2) fun vu s3 ⟨u,H3,I3,pu,q3⟩=>?_)
 rw[evalPart_none]
 refine wpAny_pure ?_
 have I4:Inv X pins σ H3 {s3 with heap:=s3.heap.push {cls:=.type "slice",data:=.fields #[vl,vu,.none]}}:=I3.kept (t':=s3.toks) fun b ob q=>Heap.get?_push_of_some _ q
 obtain⟨T,id,hT,ht,hg⟩:=hr pins {s3 with heap:=s3.heap.push {cls:=.type "slice",data:=.fields #[vl,vu,.none]}} σ H3 x v vl vu l u s3.heap.objs.size Q I4 r1 (Heap.IsSliceOf.new ..) pl pu q3
 show wpAny (model X.prog X.w) X.A (subscriptTail e (.Slice lo hi none p2) v (.ref s3.heap.objs.size)) (EP X pins σ Q) X.xe {s3 with heap:=s3.heap.push {cls:=.type "slice",data:=.fields #[vl,vu,.none]}}
 exact tail_any (ops:=[.ref s3.heap.objs.size,v]) ht hT hg (by with_unfolding_all rfl)
noncomputable def cutV (xs:List V) (lo hi:Option Int):List V:=(xs.drop (HT.sIx xs.length 0 lo)).take (HT.sIx xs.length xs.length hi - HT.sIx xs.length 0 lo)
theorem cutV_length (xs:List V) (lo hi:Option Int):(cutV xs lo hi).length≤xs.length:=by
 unfold cutV
 rw[List.length_take,List.length_drop]
 omega
end
end L2
namespace L2
open PySem PySem.Spec PyProof.Rows
noncomputable def ixN (n:Nat) (i:Int):Option Nat:=if 0≤i then (if i < n then some i.toNat else none) else if -(n:Int)≤i then some (i + n).toNat else none
noncomputable def atI {α:Type} (xs:List α) (i:Int):Option α:=(ixN xs.length i).bind fun j=>xs[j]?
theorem ixN_seq {n:Nat} {i:Int} {j:Nat} (h:ixN n i=some j):seqIndex? i n=some j∧j < n∧-(n:Int)≤i∧i < n:=by
 unfold ixN at h
 by_cases h0:0≤i
 ·rw[if_pos h0] at h
  by_cases h1:i < n
  ·rw[if_pos h1] at h
   have e:i.toNat=j:=Option.some.inj h
   exact⟨by rw[seqIndex_of h0 h1,e],by omega,by omega,h1⟩
  ·rw[if_neg h1] at h;cases h
 ·rw[if_neg h0] at h
  by_cases h1 : -(n:Int)≤i
  ·rw[if_pos h1] at h
   have e:(i + n).toNat=j:=Option.some.inj h
   exact⟨by rw[seqIndex_neg (by omega) h1,e],by omega,h1,by omega⟩
  ·rw[if_neg h1] at h;cases h
theorem atI_get {α:Type} {xs:List α} {i:Int} {v:α} (h:atI xs i=some v):∃ j,seqIndex? i xs.length=some j∧xs[j]? = some v∧j < xs.length∧-(xs.length:Int)≤i∧i < xs.length:=by
 unfold atI at h
 cases e:ixN xs.length i with
 | none=>rw[e] at h;cases h
 | some j=>
  rw[e] at h
  obtain⟨h1,h2,h3,h4⟩:=ixN_seq e
  exact⟨j,h1,h,h2,h3,h4⟩
noncomputable def PlainIx (b:Expr):Prop:=∀ o i,subscripted b false o i=operate [o,i] (getItem o i)
noncomputable def IxR (X:Cx) (r:R2):Prop:=
 ∀ (value slice:Expr) (pins:List (Addr×Obj)) (s:Shared) (σ:St) (H:Hp) (x y:V) (v u:Value) (Q:VK),Inv X pins σ H s→RelV x v→RelV y u→r x y H Q→
  subscripted slice false v u=operate [v,u] (getItem v u)→wpAny (model X.prog X.w) X.A (subscriptTail value slice v u) (EP X pins σ Q) X.xe s
noncomputable def MtR (X:Cx) (id:String) (r:V→List V→Hp→VK→Prop):Prop:=
 ∀ (pins:List (Addr×Obj)) (s:Shared) (σ:St) (H:Hp) (x:V) (xs:List V) (v:Value) (us:List Value) (Q:VK),Inv X pins σ H s→RelV x v→Vals xs us→r x xs H Q→
  wpAny (model X.prog X.w) X.A (call (.builtin id) (v::us)) (EP X pins σ Q) X.xe s
section
variable {X:Cx} {a b:Expr} {ta tb:TE} {pos:Pos}
theorem IxR.or {r r':R2} (h:IxR X r) (h':IxR X r'):IxR X (fun x y H Q=>r x y H Q∨r' x y H Q):=by
 intro value slice pins s σ H x y v u Q I rx ry q hs
 rcases q with q | q
 ·exact h value slice pins s σ H x y v u Q I rx ry q hs
 ·exact h' value slice pins s σ H x y v u Q I rx ry q hs
theorem pe_ix {r:R2} (hr:IxR X r) (ha:PE X a ta) (hb:PE X b tb) (hs:PlainIx b):PE X (.Subscript a b pos) (tOp r ta tb):=by
 intro pins s σ H Q I h
 exact Subscript_ (binT ha hb I h fun v u s2 x y H2 I2 rx ry q=>hr a b pins s2 σ H2 x y v u Q I2 rx ry q (hs _ _))
noncomputable def rIxL (K:PySem.W.Frag):R2:=fun x y H Q=>∃ p xs i v,x=.ref p∧y=.int i∧SqL K H p xs∧atI xs i=some v∧Q v H
noncomputable def rIxT (K:PySem.W.Frag):R2:=fun x y H Q=>∃ p xs i v,x=.ref p∧y=.int i∧SqT K H p xs∧atI xs i=some v∧Q v H
noncomputable def rIxS:R2:=fun x y H Q=>∃ z i c,x=.str z∧y=.int i∧z.length≤sizeLine∧atI z.cps.toList i=some c∧Q (.str ⟨#[c]⟩) H
theorem ix_list:IxR X (rIxL X.K):=by
 intro value slice pins s σ H x y v u Q I rx ry h hs
 obtain⟨p,xs,i,z,rfl,rfl,hq,he,q⟩:=h
 cases rx
 obtain⟨t,rfl⟩:=ry
 obtain⟨its,r,pl,hz⟩:=I.list hq
 obtain⟨j,h1,h2,h3,h4,h5⟩:=atI_get he
 obtain⟨w,ew,rw'⟩:=r.get h2
 have hl:=r.length
 have hn:=line63
 have fin:EP X pins σ Q w s:=⟨z,H,I,rw',q⟩
 by_cases h0:0≤i
 ·have hj:i.toNat=j:=by
   rw[seqIndex_of h0 h5] at h1
   exact Option.some.inj h1
  exact item_listR pl.isList h0 (by omega) (by rw[hj];simpa using ew) fin hs
 ·have hj:(i + (its.toArray.size:Int)).toNat=j:=by
   rw[seqIndex_neg (by omega) h4] at h1
   rw[List.size_toArray,← hl]
   exact Option.some.inj h1
  exact subscriptTail_builtinR (x:=w) pl.isList.typeIs slot_list_getitem.lookup
   (wpAny_getItem_list_neg (Q:=fun r s'=>r=w∧EP X pins σ Q r s') pl.isList (by omega) (by rw[List.size_toArray]<;>omega) (by omega) (by rw[hj];simpa using ew) ⟨rfl,fin⟩) hs
theorem ix_tup:IxR X (rIxT X.K):=by
 intro value slice pins s σ H x y v u Q I rx ry h hs
 obtain⟨p,xs,i,z,rfl,rfl,hq,he,q⟩:=h
 cases rx
 obtain⟨t,rfl⟩:=ry
 obtain⟨its,r,pl,hz⟩:=I.tuple hq
 obtain⟨j,h1,h2,h3,h4,h5⟩:=atI_get he
 obtain⟨w,ew,rw'⟩:=r.get h2
 have hl:=r.length
 have hn:=line63
 have fin:EP X pins σ Q w s:=⟨z,H,I,rw',q⟩
 exact subscriptTail_builtinR (x:=w) pl.typeIs slot_tuple_getitem.lookup
  (getItem_tuple (j:=j) (Q:=fun r s'=>r=w∧EP X pins σ Q r s') pl (by omega) (by omega) (by rw[List.size_toArray,← hl];exact h1) (by simpa using ew) ⟨rfl,fin⟩) hs
theorem ix_str:IxR X rIxS:=by
 intro value slice pins s σ H x y v u Q I rx ry h hs
 obtain⟨z,i,c,rfl,rfl,hz,he,q⟩:=h
 obtain⟨t,rfl⟩:=rx
 obtain⟨t',rfl⟩:=ry
 obtain⟨j,h1,h2,h3,h4,h5⟩:=atI_get he
 have hl:z.cps.toList.length=z.length:=by simp[Str.length]
 rw[hl] at h1 h4 h5
 have hn:=line63
 exact tail_any (typeIs_str s z t) slot_str_getitem.lookup (getItem_str (c:=c) (by
  have e1:decide (i < -(2 ^ 63:Int))=false:=decide_eq_false (by omega)
  have e2:decide (i ≥ 2 ^ 63)=false:=decide_eq_false (by omega)
  rw[e1,e2,Bool.or_false]) (by rw[h1];simpa using h2) ⟨.str ⟨#[c]⟩,H,I.tok _,⟨_,rfl⟩,q⟩) hs
noncomputable def rIx (K:PySem.W.Frag):R2:=fun x y H Q=>rIxL K x y H Q∨rIxT K x y H Q∨rIxS x y H Q
theorem ix_seq:IxR X (rIx X.K):=ix_list.or (ix_tup.or ix_str)
theorem mapSeq_set (its:List Value) (n j:Nat) (u:Value):Obj.mapSeq (·.setIfInBounds j u) {cls:=.type "list",data:=.seq its.toArray n} = {cls:=.type "list",data:=.seq (its.set j u).toArray n}:=by
 simp[Obj.mapSeq]
theorem Inv.lst {pins:List (Addr×Obj)} {σ:St} {H:Hp} {s:Shared} {p:Addr} {xs:List V} (I:Inv X pins σ H s) (h:H p=some (.lst xs)) :
  ∃ (its:List Value) (n:Nat),Vals xs its∧s.heap.get? p=some {cls:=.type "list",data:=.seq its.toArray n}∧xs.length≤sizeLine:=by
 obtain⟨z,its,n,r,e⟩:=I.hok p _ h
 exact⟨its,n,r,e,z⟩
theorem Inv.lstUpd {pins:List (Addr×Obj)} {σ:St} {H:Hp} {s:Shared} {p:Addr} {xs ys:List V} {its its':List Value} {n n':Nat} {f:Obj→Obj} (I:Inv X pins σ H s) (h:H p=some (.lst xs))
  (ho:s.heap.get? p=some {cls:=.type "list",data:=.seq its.toArray n}) (hf:f {cls:=.type "list",data:=.seq its.toArray n} = {cls:=.type "list",data:=.seq its'.toArray n'}) (r:Vals ys its') (hz:ys.length≤sizeLine) (t:Nat) :
  Inv X pins σ (upd H p (.lst ys)) {s with heap:=s.heap.update p f,toks:=t}:=by
 have e:(s.heap.update p f).get? p=some {cls:=.type "list",data:=.seq its'.toArray n'}:=by
  rw[Heap.get?_update_self f ho (by rw[hf]<;>rfl),hf]
 refine I.write (x:=p) (e:=p) (by rw[h];trivial) (.inl rfl) (fun b u hb q=>(Heap.get?_update_other _ _ (Ne.symm hb)).trans q) ⟨_,e⟩ ?_
 exact⟨hz,its',n',r,e⟩
noncomputable def rSetL:V→V→V→Hp→(Hp→Prop)→Prop:=fun o i v H Q=>∃ p xs k j,o=.ref p∧i=.int k∧H p=some (.lst xs)∧ixN xs.length k=some j∧Q (upd H p (.lst (xs.set j v)))
theorem set_list:PSet X rSetL:=by
 intro pins s σ H o i v ov iv u Q I ro ri rv h
 obtain⟨p,xs,k,j,rfl,rfl,hp,hj,q⟩:=h
 cases ro
 obtain⟨t,rfl⟩:=ri
 obtain⟨its,n,r,ho,hz⟩:=I.lst hp
 obtain⟨h1,h2,h3,h4⟩:=ixN_seq hj
 have hl:=r.length
 have hn:=line63
 have I':Inv X pins σ (upd H p (.lst (xs.set j v))) {s with heap:=s.heap.update p (Obj.mapSeq (·.setIfInBounds j u))}:=
  I.lstUpd hp ho (mapSeq_set its n j u) (r.set rv j) (by rw[List.length_set];exact hz) s.toks
 by_cases h0:0≤k
 ·have hk:k.toNat=j:=by
   rw[seqIndex_of h0 h4] at h1
   exact Option.some.inj h1
  exact PySem.W.ki_setAt ho h0 (by omega) (by rw[List.size_toArray,← hl];exact h4) (by rw[hk];exact⟨_,I',q⟩)
 ·have hk:(k + (its.toArray.size:Int)).toNat=j:=by
   rw[seqIndex_neg (by omega) h3] at h1
   rw[List.size_toArray,← hl]
   exact Option.some.inj h1
  exact PySem.W.ki_setBack ho (by omega) (by rw[List.size_toArray,← hl];exact h3) (by omega) (by rw[hk];exact⟨_,I',q⟩)
theorem slice_bounds (lo hi:Option Int) (n:Nat):(sliceBounds lo hi none n).1=((HT.sIx n 0 lo:Nat):Int)∧(sliceBounds lo hi none n).2.1=((HT.sIx n n hi:Nat):Int)∧(sliceBounds lo hi none n).2.2=1:=by
 refine⟨?_,?_,rfl⟩
 ·cases lo with
  | none=>simp[sliceBounds,HT.sIx]
  | some i=>
   simp only[sliceBounds,HT.sIx,Option.getD_none,show (1:Int) > 0 by decide,if_true]
   by_cases h:i < 0
   ·simp only[h,if_true]<;>omega
   ·simp only[h,if_false]<;>omega
 ·cases hi with
  | none=>simp[sliceBounds,HT.sIx]
  | some i=>
   simp only[sliceBounds,HT.sIx,Option.getD_none,show (1:Int) > 0 by decide,if_true]
   by_cases h:i < 0
   ·simp only[h,if_true]<;>omega
   ·simp only[h,if_false]<;>omega
theorem slicePick_cut (its:List Value) (lo hi:Option Int):slicePick its.toArray lo hi none=((its.drop (HT.sIx its.length 0 lo)).take (HT.sIx its.length its.length hi - HT.sIx its.length 0 lo)).toArray:=by
 obtain⟨h1,h2,h3⟩:=slice_bounds lo hi its.toArray.size
 unfold slicePick
 rw[h1,h2,h3]
 simp only[sliceRange_one,pick_run,List.size_toArray]<;>rfl
noncomputable def rSlL (K:PySem.W.Frag):V→Option Int→Option Int→Hp→VK→Prop:=fun x lo hi H Q=>∃ a xs,x=.ref a∧SqL K H a xs∧∀ p,H p=none→Q (.ref p) (upd H p (.lst (cutV xs lo hi)))
theorem sl_list:SlR X (rSlL X.K):=by
 intro pins s σ H x v vl vu lo hi sl Q I rx hs pl pu h
 obtain⟨a,xs,rfl,hx,q⟩:=h
 cases rx
 obtain⟨its,r,ht,hz⟩:=I.list hx
 have hlen:=r.length
 refine⟨"list",_,slot_list_getitem.lookup,ht.isList.typeIs,?_⟩
 refine wpAny_getItem_list_slice ht.isList hs pl pu .none (by simp) ?_ (by rw[List.size_toArray]<;>omega)
 rw[slicePick_cut,← hlen]
 refine⟨.ref s.heap.objs.size,_,I.laid (t':=s.toks) (o:=.lst (cutV xs lo hi)) (fun b ob q=>Heap.get?_push_of_some _ q) (Nat.le_refl _) ?_,rfl,q _ (I.hok.fresh (Nat.le_refl _))⟩
 exact⟨Nat.le_trans (cutV_length xs lo hi) hz,_,0,(r.drop (HT.sIx xs.length 0 lo)).take (HT.sIx xs.length xs.length hi - HT.sIx xs.length 0 lo),Heap.get?_push_size _ rfl⟩
theorem call_list_of:CallR X (.type "list") (fun xs H Q=>∃ p ys,xs=[.ref p]∧(SqL X.K H p ys∨SqT X.K H p ys)∧∀ l,H l=none→Q (.ref l) (upd H l (.lst ys))):=by
 intro pins s σ H xs us Q I r h
 obtain⟨p,ys,rfl,hq,q⟩:=h
 obtain⟨u,rfl,rx⟩:=vals1 r
 cases rx
 have fin:∀ (its:List Value),Vals ys its→ys.length≤sizeLine→∀ (h':Heap) (c':Nat),(∀ b o',s.heap.get? b=some o'→h'.get? b=some o')→
   h'.get? s.heap.objs.size=some {cls:=.type "list",dict:=none,data:=.seq its.toArray c',slots:=#[]}→EP X pins σ Q (.ref s.heap.objs.size) {s with heap:=h'}:=fun its r' hz h' c' kp e=>
  ⟨.ref s.heap.objs.size,_,I.laid (t':=s.toks) kp (Nat.le_refl _) (show ObjOk X.prog X.w _ h' _ (.lst ys) from ⟨hz,its,c',r',e⟩),rfl,q _ (I.hok.fresh (Nat.le_refl _))⟩
 rcases hq with hq | hq
 ·obtain⟨its,r',pl,hz⟩:=I.list hq
  have hlen:=r'.length
  obtain⟨o,ho,hc,n,hd⟩:=pl.isList
  exact call_list_seq p (.inl rfl) ho hc hd (fun h' c' kp e=>fin its r' hz h' c' kp e) (by simp only[List.size_toArray]<;>omega)
 ·obtain⟨its,r',pl,hz⟩:=I.tuple hq
  have hlen:=r'.length
  obtain⟨o,ho,hc,n,hd⟩:=pl
  exact call_list_seq p (.inr rfl) ho hc hd (fun h' c' kp e=>fin its r' hz h' c' kp e) (by simp only[List.size_toArray]<;>omega)
noncomputable def tyV (K:PySem.W.Frag) (T:String) (x:V) (H:Hp):Prop:=match x with
 | .str _=>T = "str"
 | .int _=>T = "int"
 | .ref p=>(T = "list"∧∃ xs,SqL K H p xs)∨(T = "tuple"∧∃ o,K.lookup p=some o∧o.cls=.type "tuple"∧o.dict=none)∨
   (T = "dict"∧((∃ kvs,H p=some (.dK kvs))∨∃ kvs,H p=some (.dT kvs)))∨(T = "set"∧∃ S n,H p=some (.set S n))
 | _=>False
theorem tyV_is {pins:List (Addr×Obj)} {σ:St} {H:Hp} {s:Shared} {T:String} {x:V} {v:Value} (I:Inv X pins σ H s) (r:RelV x v) (ty:tyV X.K T x H) :
  s.TypeIs v T∧∀ a,v=.ref a→∃ ob,s.heap.get? a=some ob∧ob.dict=none:=by
 cases x with
 | str z=>
  obtain⟨t,rfl⟩:=r
  cases (show T = "str" from ty)
  exact⟨typeIs_str s z t,fun _ e=>nomatch e⟩
 | int i=>
  obtain⟨t,rfl⟩:=r
  cases (show T = "int" from ty)
  exact⟨typeIs_int s i t,fun _ e=>nomatch e⟩
 | ref p=>
  cases r
  rcases ty with ⟨rfl,xs,hq⟩ | ⟨rfl,o,hk,hc,hd⟩ | ⟨rfl,hk⟩ | ⟨rfl,S,n,hk⟩
  ·obtain⟨its,_,pl,_⟩:=I.list hq
   refine⟨pl.isList.typeIs,fun a e=>?_⟩
   cases e
   obtain⟨o,n,e,c,hd,_⟩:=pl
   exact⟨o,e,hd⟩
  ·refine⟨⟨o,I.kIn p o hk,hc⟩,fun a e=>?_⟩
   cases e
   exact⟨o,I.kIn _ o hk,hd⟩
  ·have z:∃ o,s.heap.get? p=some o∧o.ExactDict:=by
    rcases hk with ⟨kvs,hk⟩ | ⟨kvs,hk⟩
    ·obtain⟨_,_,_,_,o,_,_,e,ex,_⟩:=I.hok p _ hk
     exact⟨o,e,ex⟩
    ·obtain⟨_,_,_,_,o,_,_,e,ex,_⟩:=I.hok p _ hk
     exact⟨o,e,ex⟩
   obtain⟨o,e,ex⟩:=z
   refine⟨⟨o,e,ex.1⟩,fun a e2=>?_⟩
   cases e2
   exact⟨o,e,ex.2.1⟩
  ·obtain⟨o,_,_,_,e,ex,_⟩:=I.hok p _ hk
   refine⟨⟨o,e,ex.1⟩,fun a e2=>?_⟩
   cases e2
   exact⟨o,e,ex.2.1⟩
 | _=>exact False.elim ty
noncomputable def tBM0 (K:PySem.W.Frag) (T:String) (r:V→List V→Hp→VK→Prop) (to:TE):TE:=fun σ H Q=>to σ H fun x H1=>tyV K T x H1∧r x [] H1 Q
noncomputable def tBM (K:PySem.W.Frag) (T:String) (r:V→List V→Hp→VK→Prop) (to:TE) (t:TA):TE:=fun σ H Q=>to σ H fun x H1=>tyV K T x H1∧t σ H1 fun xs H2=>r x xs H2 Q
variable {o e:Expr} {es:List Expr} {to:TE} {t:TA} {name:Str} {apos cpos:Pos} {T id:String} {r:V→List V→Hp→VK→Prop}
theorem pe_bm0 (pa:PlainAttrs T) (slot:Slot T name id) (hty:typeOf (.builtin id)=pure (.type "method_descriptor")) (hm:MtR X id r) (ho:PE X o to)
  (hbase:attributeBase o name X.env (eval o X.env)=eval o X.env:=by rfl) (hline:(apos.endLine == cpos.line)=true:=by rfl):PE X (.Call (.Attribute o name apos) [] [] cpos) (tBM0 X.K T r to):=by
 intro pins s σ H Q I h
 refine wpAny_Call_method0_late hbase hline (thn (ho pins s σ H _ I h) fun v s1 ⟨x,H1,I1,r1,ty,q1⟩=>?_)
 obtain⟨h1,h2⟩:=tyV_is I1 r1 ty
 exact⟨T,id,pa,slot,hty,h1,h2,Calls.callWith_builtin rfl (PySem.evalArgs_none (hm pins s1 σ H1 x [] v [] Q I1 r1 .nil q1))⟩
theorem pe_bm (pa:PlainAttrs T) (slot:Slot T name id) (hty:typeOf (.builtin id)=pure (.type "method_descriptor")) (hm:MtR X id r) (ho:PE X o to) (ha:PA X (e::es) t)
  (hbase:attributeBase o name X.env (eval o X.env)=eval o X.env:=by rfl)
  (hfew:((backTo cpos (starEach (e::es) X.env)).all (fun x=>!x.1) && (backToKw cpos (keywordEach [] X.env)).all (fun x=>x.1.isSome)
   && decide ((e::es).length + ([]:List Keyword).length + (if ([]:List Keyword).isEmpty then 0 else 1) < 30))=true:=by rfl)
  (hline:(apos.endLine == cpos.line)=true:=by rfl) (hs:starEach (e::es) X.env=(false,eval e X.env)::starEach es X.env:=by rfl) (hplain:(backTo cpos (starEach es X.env)).any (·.1)=false:=by rfl) :
  PE X (.Call (.Attribute o name apos) (e::es) [] cpos) (tBM X.K T r to t):=by
 intro pins s σ H Q I h
 refine wpAny_Call_method_late hbase hfew hline rfl (thn (ho pins s σ H _ I h) fun v s1 ⟨x,H1,I1,r1,ty,q1⟩=>?_)
 obtain⟨h1,h2⟩:=tyV_is I1 r1 ty
 refine⟨T,id,pa,slot,hty,h1,h2,?_⟩
 have hA:=ha cpos pins s1 σ H1 _ I1 q1
 rw[hs] at hA ⊢
 refine Calls.callWith_builtin (by show (false || (backTo cpos (starEach es X.env)).any (·.1))=false;rw[hplain]<;>rfl) (Calls.evalArgs_plain ?_)
 exact thn hA fun us s2 ⟨vs,H2,I2,r2,q2⟩=>hm pins s2 σ H2 x vs v us Q I2 r1 r2 q2
end
end L2
namespace L2
open PySem PySem.Spec PyProof.Rows
noncomputable def MtM (X:Cx) (id:String) (r:V→List V→Hp→VK→Prop):Prop:=
 ∀ (pins:List (Addr×Obj)) (s:Shared) (σ:St) (H:Hp) (x:V) (xs:List V) (v:Value) (us:List Value) (Q:VK),Inv X pins σ H s→RelV x v→Vals xs us→r x xs H Q→
  wpAny (model X.prog X.w) X.A (call (.builtin id) (v::us)) (EP X pins σ Q) X.xe s
theorem Vals.one:∀ {x:V} {us:List Value},Vals [x] us→∃ u,us=[u]∧RelV x u
 | _,_,.cons r .nil=>⟨_,rfl,r⟩
theorem Vals.zero:∀ {us:List Value},Vals [] us→us=[]
 | _,.nil=>rfl
theorem Vals.reverse {xs:List V} {us:List Value} (h:Vals xs us):Vals xs.reverse us.reverse:=by
 induction h with
 | nil=>exact .nil
 | cons r t ih=>rw[List.reverse_cons,List.reverse_cons];exact Vals.append ih (.cons r .nil)
theorem Vals.rep {xs:List V} {us:List Value} (h:Vals xs us):∀ k:Nat,Vals (List.replicate k xs).flatten (List.replicate k us).flatten
 | 0=>.nil
 | k + 1=>by
  rw[List.replicate_succ,List.replicate_succ,List.flatten_cons,List.flatten_cons]
  exact Vals.append h (Vals.rep h k)
theorem foldl_rep (its:List Value):∀ (k:Nat) (acc:List Value),
  List.foldl (fun x1 x2=>x1++x2) acc.toArray (List.replicate k its.toArray)=(acc++(List.replicate k its).flatten).toArray
 | 0,acc=>by simp
 | k + 1,acc=>by
  have e:acc.toArray++its.toArray=(acc++its).toArray:=by simp
  have e2:(acc++its)++(List.replicate k its).flatten=acc++(List.replicate (k + 1) its).flatten:=by
   rw[List.replicate_succ,List.flatten_cons,List.append_assoc]
  rw[← e2,← foldl_rep its k (acc++its),← e,List.replicate_succ,List.foldl_cons]
section
variable {X:Cx} {pins:List (Addr×Obj)} {σ:St} {H:Hp} {s:Shared} {l b:Addr} {xs ys zs:List V}
theorem Inv.lset {its its':List Value} {n:Nat} {f:Array Value→Array Value} {t':Nat} (I:Inv X pins σ H s) (hH:H l=some (.lst xs))
  (e:s.heap.get? l=some {cls:=.type "list",data:=.seq its.toArray n}) (hf:f its.toArray=its'.toArray) (hv:Vals ys its') (hz:ys.length≤sizeLine) :
  Inv X pins σ (upd H l (.lst ys)) {s with heap:=s.heap.update l (Obj.mapSeq f),toks:=t'}:=by
 have q:=PySem.IsL.update e f
 rw[hf] at q
 refine I.write (x:=l) (e:=l) (by rw[hH];exact trivial) (.inl rfl) (fun b' u hb hu=>(Heap.get?_update_other s.heap (Obj.mapSeq f) (Ne.symm hb)).trans hu) ⟨_,q⟩ ?_
 exact⟨hz,its',_,hv,q⟩
theorem Inv.lnew {its:List Value} {t':Nat} (I:Inv X pins σ H s) (hv:Vals ys its) (hz:ys.length≤sizeLine) :
  Inv X pins σ (upd H s.heap.objs.size (.lst ys)) {s with heap:=s.heap.push {cls:=.type "list",data:=.seq its.toArray},toks:=t'}:=
 I.laid (fun _ _ q=>Heap.get?_push_of_some _ q) (Nat.le_refl _) ⟨hz,its,0,hv,Heap.get?_push_size _ rfl⟩
theorem Inv.fresh (I:Inv X pins σ H s):H s.heap.objs.size=none:=I.hok.fresh (Nat.le_refl _)
theorem Inv.lstM (I:Inv X pins σ H s) (hH:H l=some (.lst xs)):xs.length≤sizeLine∧∃ (its:List Value) (n:Nat),Vals xs its∧xs.length=its.length∧s.heap.get? l=some {cls:=.type "list",data:=.seq its.toArray n}:=by
 obtain⟨z,its,n,r,e⟩:=I.hok l _ hH
 exact⟨z,its,n,r,r.length,e⟩
theorem notLongL {n:Nat} (h:n≤sizeLine):Builtin.List.listTooLong n=false:=by
 unfold Builtin.List.listTooLong
 exact decide_eq_false (by omega)
end
section
variable {X:Cx}
noncomputable def rAppend:V→List V→Hp→VK→Prop:=fun x vs H Q=>∃ l xs y,x=.ref l∧vs=[y]∧H l=some (.lst xs)∧xs.length < sizeLine∧Q .non (upd H l (.lst (xs++[y])))
theorem mt_append:MtM X "list.append" rAppend:=by
 intro pins s σ H x vs v us Q I rx rv h
 obtain⟨l,xs,y,rfl,rfl,hH,hz,q⟩:=h
 cases rx
 obtain⟨u,rfl,ru⟩:=rv.one
 obtain⟨z,its,n,r,hl,e⟩:=I.lstM hH
 refine call_meets F.slot_list_append ⟨_,e,rfl⟩ F.entry_list_append (F.args_list_append_2 _ _) (PySem.list_append l its.toArray n u (by rw[List.size_toArray];omega)) ⟨e,?_⟩
 refine⟨.non,_,I.lset (its':=its++[u]) hH e (by simp) (r.append (.cons ru .nil)) ?_,rfl,q⟩
 rw[List.length_append,List.length_singleton]
 omega
noncomputable def rReverse:V→List V→Hp→VK→Prop:=fun x vs H Q=>∃ l xs,x=.ref l∧vs=[]∧H l=some (.lst xs)∧Q .non (upd H l (.lst xs.reverse))
theorem mt_reverse:MtM X "list.reverse" rReverse:=by
 intro pins s σ H x vs v us Q I rx rv h
 obtain⟨l,xs,rfl,rfl,hH,q⟩:=h
 cases rx
 have hus:=rv.zero
 subst hus
 obtain⟨z,its,n,r,hl,e⟩:=I.lstM hH
 refine call_meets F.slot_list_reverse ⟨_,e,rfl⟩ F.entry_list_reverse (F.args_list_reverse_1 _) (AutoSeq1.list_reverse_list_0 l its.toArray n (by rw[List.size_toArray];omega)) ⟨e,?_⟩
 refine⟨.non,_,I.lset (its':=its.reverse) hH e (by simp) r.reverse ?_,rfl,q⟩
 rw[List.length_reverse]
 omega
noncomputable def rClear:V→List V→Hp→VK→Prop:=fun x vs H Q=>∃ l xs,x=.ref l∧vs=[]∧H l=some (.lst xs)∧Q .non (upd H l (.lst []))
theorem mt_clear:MtM X "list.clear" rClear:=by
 intro pins s σ H x vs v us Q I rx rv h
 obtain⟨l,xs,rfl,rfl,hH,q⟩:=h
 cases rx
 have hus:=rv.zero
 subst hus
 obtain⟨z,its,n,r,hl,e⟩:=I.lstM hH
 refine call_meets F.slot_list_clear ⟨_,e,rfl⟩ F.entry_list_clear (F.args_list_clear_1 _) (AutoSeq1.list_clear_list_0 l its.toArray n (by rw[List.size_toArray];omega)) ⟨e,?_⟩
 exact⟨.non,_,I.lset (its':=[]) (ys:=[]) hH e rfl .nil (Nat.zero_le _),rfl,q⟩
theorem len_rep {α:Type} (xs:List α) (k:Nat):(List.replicate k xs).flatten.length=k * xs.length:=by
 induction k with
 | zero=>simp
 | succ k ih=>rw[List.replicate_succ,List.flatten_cons,List.length_append,ih,Nat.succ_mul,Nat.add_comm]
end
section
variable {prog:Program} {w:World} {A:Around} {E:Value→Shared→Prop} {s:Shared}
end
section
variable {X:Cx}
end
end L2
namespace Att
open PySem PySem.W PySem.Calls PyProof.Rows
theorem ints_of_wellAll {P:Params} {h:Heap}:∀ (ns:List Int) (vs:List Value),WellAll P h vs (ns.map WData.int)→IntsAre vs ns:=by
 intro ns
 induction ns with
 | nil=>
  intro vs w
  rw[List.map_nil] at w
  cases w
  exact .nil
 | cons n ns ih=>
  intro vs w
  rw[List.map_cons] at w
  cases w with
  | cons a b=>
   cases a
   exact .cons _ _ (ih _ b)
theorem script_of {l:OpenLaw} {n:Nat} (hn:l.most=some n) {P:Params} {h:Heap} {args:List WData} {vals:List Value}
  (hpre:l.row.toRowW.claim.pre args=true) (hwl:WellAll P h vals args) :
  ∃ a vs ns,vals=[Value.ref a]∧args=[WData.list (ns.map WData.int)]∧h.get? a=some {cls:=.type "list",data:=.seq vs.toArray}∧IntsAre vs ns∧ns.length≤n:=by
 have hsh:WShape.hasAll [] args [.list .int]=true:=(pre_splitW hpre).1
 have hc:l.pre.holds [] {args:=args} = true:=(pre_splitW hpre).2
 obtain⟨d,r,rfl,h1,h2⟩:=hasAllW_cons hsh
 obtain rfl:=hasAllW_nil h2
 obtain⟨xs,rfl,h3⟩:=hasW_list h1
 obtain⟨ns,rfl⟩:=items_int h3
 have hlen:ns.length≤n:=by
  unfold OpenLaw.pre at hc
  have h4:(WTm.not (.lt (.lit (.int (n:Int))) (.len (.arg 0)))).holds [] {args:=[.list (ns.map .int)]} = true:=by
   have h4:=(holds_andW hc).1
   rw[hn] at h4
   exact h4
  have h5:=condW_of h4 (w_not (w_lt w_lit (w_len_list (w_arg rfl))))
  rw[List.length_map] at h5
  refine Nat.le_of_not_lt fun q=>?_
  have q':(n:Int) < ((ns.length:Nat):Int):=by omega
  first
   | (rw[decide_eq_true q'] at h5;exact absurd h5 (by decide))
   | (simp at h5;omega)
 cases hwl with
 | cons w1 w2=>
  cases w2
  cases w1 with
  | list ho hall=>exact⟨_,_,ns,rfl,rfl,ho,ints_of_wellAll ns _ hall,hlen⟩
theorem post_true (l:OpenLaw) (args:List WData):l.row.toRowW.claim.post args (.bool true) args=true:=
 postW_of (r:=l.row.toRowW) (X:=(true == true))
  (show WShape.has [] (.bool true) .bool=true by first | rfl | decide | simp[WShape.has,WShape.arms,WShape.armsAll])
  (show (WTm.eq .res (.lit (.bool true))).value [] {args:=args,res:=some (.bool true),after:=args} = some (.bool (true == true)) from w_eq_bool (w_res rfl) w_lit) rfl
theorem attach_call {l:OpenLaw} {n:Nat} {q:Program} {loose:List Str} {XP:(Str→Option Value)→Heap→Prop} {YP:World→Heap→Prop} {d:DefRec}
  (hn:l.most=some n) (hdf:d.params.defaults=[])
  (call:∀ (w:World) (s₀ s₁:Shared) (mg mb:Str→Option Value) (fa:Addr) (o:Obj) (pm cd doc:Value) (a:Addr) (vs:List Value) (ns:List Int),
   Ground q loose [] XP w s₀ mg mb s₁.heap→YP w s₁.heap→
   s₁.heap.get? fa=some o→o.data=.func (docDef d.name d.params d.body d.scope pm cd doc)→s₁.heap.CodeRec cd d.name→mg d.name=some (.ref fa)→
   s₁.heap.get? a=some {cls:=.type "list",data:=.seq vs.toArray}→IntsAre vs ns→ns.length≤n→s₁.gens = #[]→
   codeAny (model l.prog w) callerA (.call (.ref fa) ⟨[.ref a],[]⟩) (fun r s'=>r=.ok (.ret (.bool true))∧OldK s₁.heap s'.heap∧s'.os=s₁.os∧AllBare s'.gens) s₁) :
  WalkO q loose XP YP l.row.toRowW d [] (fun f vs=>PySem.call f vs):=by
 intro w s₀ s₁ mg mb G Y fa o pm cd doc dV kV ho hd hcd hD hmg hg args vals as hpre hlay hrd hwl hlo
 obtain rfl:dV=.none:=Dflts.none hD hdf
 obtain rfl:kV=.none:=Dflts.noKw hD
 obtain⟨a,vs,ns,rfl,rfl,hobj,hints,hlen⟩:=script_of hn hpre hwl
 refine enter_call (codeAny_mono (call w s₀ s₁ mg mb fa o pm cd doc a vs ns G Y ho (fd_plain hd) hcd hmg hobj hints hlen hg) fun r s' hq=>?_)
 obtain⟨rfl,h2,h3,h4⟩:=hq
 exact⟨.inl ⟨.bool true,.bool true,[],rfl,fun _=>rfl,.bool true,post_true l _,fun _=>⟨List.Pairwise.nil,fun _ hm=>(nomatch hm)⟩⟩,h2,h3,h4⟩
section
variable {prog:Program} {w:World} {A:Around} {E:Value→Shared→Prop} {s:Shared} {K:Frag}
end
end Att
namespace L2
open PySem PySem.Spec PyProof.Rows
noncomputable def KL (K:PySem.W.Frag) (a:Addr) (xs:List V):Prop:=
 ∃ (its:List Value) (n:Nat),K.lookup a=some {cls:=.type "list",data:=.seq its.toArray n}∧its.length≤sizeLine∧Vals xs its
noncomputable def Ls (K:PySem.W.Frag) (H:Hp) (a:Addr) (xs:List V):Prop:=Rd H a (.lst xs)∨KL K a xs
theorem vals_ints:∀ {vs:List Value} {ns:List Int},IntsAre vs ns→Vals (ns.map V.int) vs
 | _,_,.nil=>.nil
 | _,_,.cons n t h=>.cons ⟨t,rfl⟩ (vals_ints h)
noncomputable def Only (H:Hp):Prop:=∀ b,H b=none∨∃ o xs,H b=some (.frz o (.lst xs))
theorem law_call {P:Program} {w:World} {K:PySem.W.Frag} {mg mb:Str→Option Value} {CX:CXT} {k:Nat} {fa a:Addr} {fd:FuncData} {x:Str} {sp:Sp} {s₁:Shared} {vs:List Value} {ns:List Int}
  (KX:K.In s₁.heap) (hns:s₁.heap.Ns mainGlobals mg) (hb:s₁.heap.Ns builtinsNs mb) (hbb:∀ x:Str,x≠"__name__"→mb x=bootBuiltins x) (hlim:s₁.heap.NoLimit) (hg:s₁.gens = #[])
  (ha:s₁.heap.get? a=some {cls:=.type "list",data:=.seq vs.toArray}) (hi:IntsAre vs ns) (hl:ns.length≤sizeLine) (hr:Room k callerA)
  (F:∀ base:Heap,K.In base→base.Ns mainGlobals mg→FnOk P w K mg base CX k fa fd [x] sp) (hbind:∀ (s:Shared) (u:Value),BindsTo s fd ⟨[u],[]⟩ [(x,u)])
  (hsp:∀ H:Hp,Only H→Ls K H a (ns.map V.int)→sp [.ref a] H (fun v _=>v=.bl true) fun _ _ _=>False)
  (hCX:∀ H e s',CX [] H s₁ (fun _ _ _=>False) e s'→False) :
  codeAny (model P w) callerA (.call (.ref fa) ⟨[.ref a],[]⟩) (fun r s'=>r=.ok (.ret (.bool true))∧OldK s₁.heap s'.heap∧s'.os=s₁.os∧AllBare s'.gens) s₁:=by
 have rv:=vals_ints hi
 have lenV:=hi.length
 -- from an abstract heap in which nothing but the script may be tracked
 have core:∀ H:Hp,Only H→Ls K H a (ns.map V.int)→HOk P w H s₁.heap→(∀ b,H b≠none→b=a)→(H a≠none→K.lookup a=none)→
   codeAny (model P w) callerA (.call (.ref fa) ⟨[.ref a],[]⟩) (fun r s'=>r=.ok (.ret (.bool true))∧OldK s₁.heap s'.heap∧s'.os=s₁.os∧AllBare s'.gens) s₁:=by
  intro H hO hS hok hA hK
  have base_of:∀ {b:Addr} {o:Obj},s₁.heap.get? b=some o→H b=none→(hidT s₁.heap H).get? b=some o:=fun e n=>hidT_get e n
  have noA:∀ {b:Addr} {o:Obj} {es:Array DictEntry} {ep:Nat},s₁.heap.get? b=some o→o.data=.dict es ep→H b=none:=fun {b o es ep} e d=>by
   cases q:H b with
   | none=>rfl
   | some u=>
    have e':b=a:=hA b (by rw[q];simp)
    subst e'
    rw[ha] at e;cases e
    have d':Data.seq vs.toArray _=Data.dict es ep:=d
    cases d'
  have nsK:∀ {b:Addr} {m:Str→Option Value},s₁.heap.Ns b m→(hidT s₁.heap H).Ns b m:=fun {b m} ⟨o,es,ep,e,d,r⟩=>⟨o,es,ep,base_of e (noA e d),d,r⟩
  have hKb:K.In (hidT s₁.heap H):=fun b o e=>base_of (KX b o e) (by
   cases q:H b with
   | none=>rfl
   | some u=>
    have e':b=a:=hA b (by rw[q];simp)
    subst e'
    rw[hK (by rw[q];simp)] at e;cases e)
  have hM:Mod K mg (hidT s₁.heap H):=⟨hKb,nsK hns,⟨mb,nsK hb,hbb⟩,let ⟨mc,h1,h2⟩:=hlim;⟨mc,nsK h1,h2⟩⟩
  have e0:Env0 P w K mg (hidT s₁.heap H) callerA [] s₁ H:=⟨rfl,hM,fun b o e=>of_hidT e,Nat.le_of_eq (hidT_size _ _),trivial,fun b hb=>absurd (show b ∈ ([]:List Addr) from hb) (by simp),hok,.of_eq hg⟩
  refine codeAny_mono ((F _ hKb (nsK hns)).run callerA [] s₁ H ⟨[.ref a],[]⟩ [.ref a] [.ref a] _ _ hr e0 (hbind s₁ (.ref a)) (.cons rfl .nil) (hsp H hO hS)) fun r s' h=>?_
  cases r with
  | error e=>exact(hCX H e s' h).elim
  | ok fl=>
   cases fl with
   | next=>exact False.elim h
   | brk=>exact False.elim h
   | cont=>exact False.elim h
   | ret u=>
    obtain⟨v,H',os,bare,un,hok',r',q⟩:=h
    have q':v=.bl true:=q
    subst q'
    obtain rfl:u=Value.bool true:=r'
    refine⟨rfl,OldK.of_keep fun b o e=>?_,os,bare⟩
    cases q:H b with
    | none=>exact un.keep b o e q (by intro z;exact absurd (show b ∈ ([]:List Addr) from z) (by simp)) (by simp)
    | some u=>
     rcases hO b with z | ⟨ob,xs,z⟩
     ·rw[q] at z;cases z
     ·have z2:=un.frzs b ob _ z
      obtain⟨e1,_⟩:=hok b _ z
      obtain⟨e2,_⟩:=hok' b _ z2
      rw[e] at e1;cases e1
      exact e2
 cases hk:K.lookup a with
 | some o=>
  -- the script is one of the module's own objects
  have e:=KX a o hk
  rw[ha] at e
  cases e
  refine core (fun _=>none) (fun _=>.inl rfl) (.inr ⟨vs,_,hk,by rw[lenV];exact hl,rv⟩) (fun b u z=>by have z':(none:Option HO)=some u:=z;cases z') (fun b z=>absurd rfl z) fun z=>absurd rfl z
 | none=>
  refine core (fun b=>if b=a then some (.frz {cls:=.type "list",data:=.seq vs.toArray} (.lst (ns.map V.int))) else none) (fun b=>?_) (.inl (.inr ⟨{cls:=.type "list",data:=.seq vs.toArray},if_pos rfl⟩)) (fun b u z=>?_) (fun b z=>?_) fun _=>hk
  ·by_cases hb:b=a
   ·exact .inr ⟨_,_,if_pos hb⟩
   ·exact .inl (if_neg hb)
  ·by_cases hb:b=a
   ·have z':=(if_pos hb).symm.trans z
    cases z'
    subst hb
    exact⟨ha,by rw[List.length_map];exact hl,vs,_,rv,ha⟩
   ·have z':=(if_neg hb).symm.trans z
    cases z'
  ·by_cases hb:b=a
   ·exact hb
   ·exact absurd (if_neg hb) z
end L2
namespace L2
open PySem PySem.Spec PyProof.Rows
theorem walk_of {l:PySem.W.OpenLaw} {n k:Nat} {q:Program} {loose:List Str} {XP:(Str→Option Value)→Heap→Prop} {YP:World→Heap→Prop} {d:DefRec} {K:Params→PySem.W.Frag} {CX:World→CXT} {sp:World→Sp} {x:Str}
  (hn:l.most=some n) (hn2:n≤sizeLine) (hdf:d.params.defaults=[]) (hr:Room k callerA)
  (hY:∀ (w:World) (h:Heap),YP w h→(K w.params).In h)
  (F:∀ (w:World) (mg:Str→Option Value) (fa:Addr) (h:Heap),(K w.params).In h→h.Ns mainGlobals mg→mg d.name=some (.ref fa)→
   ∃ fd:FuncData,(∀ (s:Shared) (u:Value),BindsTo s fd ⟨[u],[]⟩ [(x,u)])∧
    ∀ base:Heap,(K w.params).In base→base.Ns mainGlobals mg→FnOk l.prog w (K w.params) mg base (CX w) k fa fd [x] (sp w))
  (hsp:∀ (w:World) (H:Hp) (a:Addr) (ns:List Int),ns.length≤n→Only H→Ls (K w.params) H a (ns.map V.int)→sp w [.ref a] H (fun v _=>v=.bl true) fun _ _ _=>False)
  (hCX:∀ (w:World) (H:Hp) (s:Shared) (e:Value) (s':Shared),CX w [] H s (fun _ _ _=>False) e s'→False) :
  PySem.W.WalkO q loose XP YP l.row.toRowW d [] (fun f vs=>PySem.call f vs):=by
 refine Att.attach_call hn hdf fun w s₀ s₁ mg mb fa o pm cd doc a vs ns G Y ho hd hcd hmg hobj hints hlen hg=>?_
 have KX:=hY w _ Y
 obtain⟨fd,hb,hF⟩:=F w mg fa _ KX G.T.g hmg
 exact law_call KX G.T.g G.T.b G.T.builtins G.T.nolimit hg hobj hints (Nat.le_trans hlen hn2) hr hF hb (fun H hO hS=>hsp w H a ns hlen hO hS) fun H e s'=>hCX w H s₁ e s'
end L2
namespace L2
open PySem PySem.Spec PyProof.Rows
noncomputable def defArgs (s:Stmt):Arguments:=match s with
 | .FunctionDef _ a _ _ _ _ _ _ _ _=>a
 | _=>{posonlyargs:=[],args:=[],vararg:=none,kwonlyargs:=[],kw_defaults:=[],kwarg:=none,defaults:=[]}
noncomputable def defBody (s:Stmt):List Stmt:=match s with
 | .FunctionDef _ _ b _ _ _ _ _ _ _=>b
 | _=>[]
noncomputable def defScope (s:Stmt):Scope:=match s with
 | .FunctionDef _ _ _ _ _ _ sc _ _ _=>sc
 | _=>{kind:=.function,names:=[],isGenerator:=false,isCoroutine:=false}
structure Fun (K:PySem.W.Frag) (x qual:Str) (st:Stmt) (f:Addr) (fd:FuncData):Prop where
 ex:∃ (oc:Value) (od:Option Addr) (kV doc pm:Value) (an:Option Addr) (cdv ct:Value) (osl:Array (Option Value)),
  fd=PySem.W.fnOf x qual (defArgs st) (defBody st) (defScope st) .none kV doc pm an cdv ct∧K.lookup f=some ⟨oc,od,.func fd,osl⟩∧PySem.W.codeIn K cdv qual=true
 kp:PySem.W.keepIn K (.ref f)=true
section
variable {P:Program} {w:World} {K:PySem.W.Frag} {mg:Str→Option Value} {base:Heap}
theorem Fun.binds {x qual:Str} {st:Stmt} {f:Addr} {fd:FuncData} {ps:List Str} (F:Fun K x qual st f fd)
  (h:∀ (kV doc pm:Value) (an:Option Addr) (cdv ct:Value) (us:List Value),us.length=ps.length→bindArgs (PySem.W.fnOf x qual (defArgs st) (defBody st) (defScope st) .none kV doc pm an cdv ct) ⟨us,[]⟩=pure (ps.zip us)):Binds K fd ps []:=by
 obtain⟨oc,od,kV,doc,pm,an,cdv,ct,osl,rfl,lk,hcd⟩:=F.ex
 exact .all (h kV doc pm an cdv ct)
theorem fun_mk {x qual:Str} {st:Stmt} {f:Addr} {oc:Value} {od an:Option Addr} {osl:Array (Option Value)} {kV doc pm cdv ct:Value} (l:K.lookup f=some ⟨oc,od,.func (PySem.W.fnOf x qual (defArgs st) (defBody st) (defScope st) .none kV doc pm an cdv ct),osl⟩)
  (c:PySem.W.codeIn K cdv qual=true) (k:PySem.W.keepIn K (.ref f)=true):Fun K x qual st f (PySem.W.fnOf x qual (defArgs st) (defBody st) (defScope st) .none kV doc pm an cdv ct):=⟨⟨oc,od,kV,doc,pm,an,cdv,ct,osl,rfl,l,c⟩,k⟩
end
section
variable {X:Cx}
end
noncomputable def Same (H H':Hp):Prop:=∀ b o,H b=some o→H' b=some o
theorem Same.refl (H:Hp):Same H H:=fun _ _ h=>h
theorem Same.trans {H H1 H2:Hp} (a:Same H H1) (b:Same H1 H2):Same H H2:=fun c o h=>b c o (a c o h)
theorem Same.free {H H':Hp} (e:Same H H') {l:Addr} (h:H' l=Option.none):H l=Option.none:=by
 cases q:H l with
 | none=>rfl
 | some o=>
  rw[e l o q] at h
  cases h
theorem Same.seq {K:PySem.W.Frag} {H H':Hp} {a:Addr} {xs:List V} (e:Same H H') (h:SqL K H a xs):SqL K H' a xs:=by
 rcases h with (h | ⟨o,h⟩) | h
 ·exact .inl (.inl (e _ _ h))
 ·exact .inl (.inr ⟨o,e _ _ h⟩)
 ·exact .inr h
end L2
namespace L2
open PySem PySem.Spec PyProof.Rows
theorem peMono {X:Cx} {e:Expr} {t t':TE} (h:PE X e t) (m:∀ σ H Q,t' σ H Q→t σ H Q):PE X e t':=fun pins s σ H Q I q=>h pins s σ H Q I (m σ H Q q)
theorem ptMono {X:Cx} {e:Expr} {t t':TT} (h:PT X e t) (m:∀ σ H Q,t' σ H Q→t σ H Q):PT X e t':=fun pins s σ H Q I q=>h pins s σ H Q I (m σ H Q q)
theorem paMono {X:Cx} {e:List Expr} {t t':TA} (h:PA X e t) (m:∀ σ H Q,t' σ H Q→t σ H Q):PA X e t':=fun pos pins s σ H Q I q=>h pos pins s σ H Q I (m σ H Q q)
theorem psMono {X:Cx} {e:Stmt} {t t':TS} (h:PS X e t) (m:∀ D σ H,t' D σ H→t D σ H):PS X e t':=fun pins s σ H D I q=>h pins s σ H D I (m D σ H q)
theorem pssMono {X:Cx} {e:List Stmt} {t t':TS} (h:PSs X e t) (m:∀ D σ H,t' D σ H→t D σ H):PSs X e t':=fun pins s σ H D I q=>h pins s σ H D I (m D σ H q)
theorem piMono {X:Cx} {tg e:Expr} {t t':TI} (h:PI X tg e t) (m:∀ σ H Q,t' σ H Q→t σ H Q):PI X tg e t':=fun pins s σ H Q I q=>h pins s σ H Q I (m σ H Q q)
noncomputable def cxC (X:Cx) (scope:Scope) (cl:List (Str×Addr)) (N:List Str) (C:Addr) (s3:Shared) (H3:Hp) (fp:List Addr):Cx:=
 {X with N:=N,s₀:=s3,H₀:=H3,env:=compEnvC scope cl C X.env,outer:=X.stack,ex:=fp,fn:=fun _=>false,pn:=[],xe:=fun _ _=>False}
structure CompSc (X:Cx) (scope:Scope) (cl:List (Str×Addr)) (Fr:List (Str×Nat)) (Tg:List Str):Prop where
 clos:closureFor scope X.env=pure cl
 kind:scope.kind=.function
 nocell:∀ y ∈ scope.names,y.2≠.cell
 loc:∀ y ∈ scope.names,y.2=.local→scope.names.lookup y.1=some .local
 sub:∀ x c,cl.lookup x=some c→X.env.cells.lookup x=some c
 has:∀ x,((relabel scope X.env).names.lookup x=some .cell∨(relabel scope X.env).names.lookup x=some .free)→∃ c,cl.lookup x=some c
 out:∀ p ∈ Fr,X.N[p.2]? = some p.1∧(X.env.kindOf p.1=some .cell∨X.env.kindOf p.1=some .free)∧((relabel scope X.env).names.lookup p.1=some .cell∨(relabel scope X.env).names.lookup p.1=some .free)
noncomputable def stC (Fr:List (Str×Nat)) (Tg:List Str) (σ:St):St:=Fr.map (fun p=>(σ[p.2]?).join)++List.replicate Tg.length none
section
variable {X:Cx} {scope:Scope} {cl:List (Str×Addr)} {Fr:List (Str×Nat)} {Tg:List Str} {pins:List (Addr×Obj)} {σ:St} {H3:Hp} {s3:Shared} {fp:List Addr}
theorem cxC_ok (S:CompSc X scope cl Fr Tg) (I:Inv X pins σ H3 s3) (hf:∀ b ∈ fp,FpOk X pins H3 b) (hfs:∀ b ∈ fp,b < s3.heap.objs.size) (N:List Str):(cxC X scope cl N s3.heap.objs.size s3 H3 fp).Ok where
 mod:=I.ok.mod
 kind:=S.kind
 glob:=I.ok.glob
 blt:=I.ok.blt
 above:=Nat.le_refl _
 inj:=fun x y c h1 h2=>I.ok.inj x y c (S.sub x c h1) (S.sub y c h2)
 has:=fun x h=>S.has x h
 cab:=fun x c h _=>absurd (show false=true from h) (by decide)
 hd:=I.ok.hd
 frames:=I.ok.frames
 stk:=.inl rfl
 exf:=fun b hb=>⟨Nat.ne_of_lt (hfs b hb),fun x c e z=>(hf b hb).2.2.2.2.1 x c (S.sub x c e) z⟩
 bs:=I.bs
 bsz:=Nat.le_trans I.ok.bsz I.sz
 noex:=fun b o e hb=>by
  rcases (hf b hb).2.2.2.1 with z | z
  ·exact I.ok.noex b o e z
  ·exact absurd (Nat.lt_of_lt_of_le (Heap.lt_size e) (Nat.le_trans I.ok.bsz z)) (Nat.lt_irrefl _)
 exfs:=fun b hb z=>by
  rcases List.mem_cons.mp (I.stkSub b z) with z | z
  ·exact(hf b hb).2.1 z
  ·exact(hf b hb).2.2.1 z
 funs:=I.stack
 frf:=I.stkFree
theorem cxC_start (S:CompSc X scope cl Fr Tg) (I:Inv X pins σ H3 s3) (hf:∀ b ∈ fp,FpOk X pins H3 b) (hfs:∀ b ∈ fp,b < s3.heap.objs.size) {h':Heap} {tk:Nat}
  (hns:h'.Ns s3.heap.objs.size (fun _=>none)) (hk:∀ b o,s3.heap.get? b=some o→h'.get? b=some o) (hTg:∀ x ∈ Tg,True) :
  Inv (cxC X scope cl (Fr.map (·.1)++Tg) s3.heap.objs.size s3 H3 fp) [] (stC Fr Tg σ) H3 {s3 with heap:=h',toks:=tk} where
 ok:=cxC_ok S I hf hfs _
 os:=rfl
 bare:=I.bare
 base:=Un.kept hk
 loc:=by
  refine⟨_,hns,fun i x v e1 e2 e3=>?_⟩
  have hi:i < Fr.length:=by
   by_cases hi:i < Fr.length
   ·exact hi
   ·unfold stC at e2
    rw[List.getElem?_append_right (by simpa using hi),List.getElem?_replicate] at e2
    split at e2<;>cases e2
  have e1':(Fr.map (·.1))[i]? = some x:=by
   rw[← e1]
   exact(List.getElem?_append_left (by simpa using hi)).symm
  have e2':(Fr.map (fun p=>(σ[p.2]?).join))[i]? = some (some v):=by
   rw[← e2]
   exact(List.getElem?_append_left (by simpa using hi)).symm
  rw[List.getElem?_map] at e1' e2'
  obtain⟨p,hp,rfl⟩:=Option.map_eq_some_iff.mp e1'
  rw[hp] at e2'
  have e2'':(σ[p.2]?).join=some v:=Option.some.inj e2'
  have e4:σ[p.2]? = some (some v):=by
   cases q:σ[p.2]? with
   | none=>rw[q] at e2'';cases e2''
   | some y=>rw[q] at e2'';rw[show y=some v from e2'']
  obtain⟨o1,o2,o3⟩:=S.out p (List.mem_of_getElem? hp)
  obtain⟨m,hn,hl⟩:=I.loc
  have hv:Vis X.env.scope p.1:=by
   rcases o2 with o2 | o2
   ·exact .inr (.inl o2)
   ·exact .inr (.inr o2)
  obtain⟨u,r,l⟩:=hl p.2 p.1 v o1 e4 hv
  refine⟨u,r,.inr ⟨o3,?_⟩⟩
  obtain⟨c,hc⟩:=S.has p.1 o3
  refine⟨c,hc,?_⟩
  have hc':=S.sub _ _ hc
  rcases l with ⟨k,_⟩ | ⟨_,c2,h2,z⟩
  ·rcases o2 with o2 | o2<;>(rw[k] at o2;cases o2)
  ·rw[hc'] at h2;cases h2
   obtain⟨o,ho,hd⟩:=z
   exact⟨o,hk _ _ ho,hd⟩
 cell:=fun x c e=>by
  obtain⟨v,o,ho,hd⟩:=I.cell x c (S.sub x c e)
  exact⟨v,o,hk _ _ ho,hd⟩
 free:=I.hok.fresh (Nat.le_refl _)
 freeC:=fun x c e=>I.freeC x c (S.sub x c e)
 pin:=fun p hp=>absurd (show p ∈ ([]:List (Addr×Obj)) from hp) (by simp)
 hok:=I.hok.kept hk
 len:=by
  unfold stC
  show _=(Fr.map (·.1)++Tg).length
  simp
end
noncomputable def PTs (X:Cx) (ifs:List Expr) (t:TT):Prop:=
 ∀ (pins:List (Addr×Obj)) (s:Shared) (σ:St) (H:Hp) (Q:Bool→Hp→Prop),Inv X pins σ H s→t σ H Q→
  wpAny (model X.prog X.w) X.A (forIn ifs true fun c r=>if r=true then do let ok ← isTrue c X.env (eval c X.env);pure (ForInStep.yield ok) else pure (ForInStep.yield r)) (TP X pins σ Q) X.xe s
theorem tests_false {M:Model} {A:Around} {E:Value→Shared→Prop} {s:Shared} {env:Env} {Q:Bool→Shared→Prop} (h:Q false s):∀ ifs:List Expr,
  wpAny M A (forIn ifs false fun c r=>if r=true then do let ok ← isTrue c env (eval c env);pure (ForInStep.yield ok) else pure (ForInStep.yield r)) Q E s
 | []=>by
  rw[List.forIn_nil]
  exact wpAny_pure h
 | c::cs=>by
  rw[List.forIn_cons]
  rw[if_neg Bool.false_ne_true]
  exact wpAny_bind (wpAny_pure (tests_false h cs))
theorem pts_nil {X:Cx}:PTs X [] (fun _ H Q=>Q true H):=fun pins s σ H Q I q=>by
 rw[List.forIn_nil]
 exact wpAny_pure ⟨H,I,q⟩
theorem pts_cons {X:Cx} {c:Expr} {cs:List Expr} {t u:TT} (hc:PT X c t) (hr:PTs X cs u):PTs X (c::cs) (tAnd t u):=fun pins s σ H Q I q=>by
 rw[List.forIn_cons,if_pos rfl]
 refine wpAny_bind (wpAny_bind (thn (hc pins s σ H _ I q) fun b s1 ⟨H1,I1,q1⟩=>wpAny_pure ?_))
 cases b with
 | true=>exact hr pins s1 σ H1 Q I1 q1
 | false=>exact tests_false ⟨H1,I1,q1⟩ cs
noncomputable def tCmpr (wi:TI) (start:St→St) (g:TG) (tt:TT) (te:TE):TE:=fun σ H Q=>wi σ H fun J H1=>∀ D,H1 D=none→∃ W:Nat→Nat→St→Hp→Prop,(∃ m,W 0 m (start σ) (upd H1 D (.lst [])))∧
 ∀ i m σ' H',W i m σ' H'→(J.stop i H'∧Q (.ref D) H')∨(J.go i H'∧∀ x H2,J.yld i H' x H2→g x σ' H2 fun σ2 H3=>tt σ2 H3 fun b H4=>
  if b=true then te σ2 H4 fun v H5=>∃ ys,H5 D=some (.lst ys)∧ys.length < sizeLine∧∃ m',m' < m∧W (i + 1) m' σ2 (upd H5 D (.lst (ys++[v])))
  else ∃ m',m' < m∧W (i + 1) m' σ2 H4)
section
variable {X:Cx} {scope:Scope} {cl:List (Str×Addr)} {Fr:List (Str×Nat)} {Tg:List Str} {elt tg iter:Expr} {ifs:List Expr} {wi:TI} {g:TG} {tt:TT} {te:TE} {pos:Pos}
theorem compTurn_any (scope:Scope) (pos:Pos) (it acc:Value) (env:Env) :
  compTurn (.ListComp elt [⟨tg,iter,ifs,0⟩] scope pos) 0 it acc env=(do
   standAt iter.pos
   match ← pyNext it with
   | none=>pure (.done .next)
   | some v=>
    letOwnedTupleGo tg it v
    assign tg env v
    let ok ← forIn ifs true fun c r=>if r=true then do let ok ← isTrue c env (eval c env);pure (ForInStep.yield ok) else pure (ForInStep.yield r)
    if ok=true then
     (do let _ ← call (.builtin "list.append") [acc,← eval elt env])
    again (.compLoop (.ListComp elt [⟨tg,iter,ifs,0⟩] scope pos) 0 it acc env)):=by rfl
theorem comp_block (hc:X.calm=true) (S:CompSc X scope cl Fr Tg)
  (hg:∀ C s H fp,PG (cxC X scope cl (Fr.map (·.1)++Tg) C s H fp) tg g) (ht:∀ C s H fp,PTs (cxC X scope cl (Fr.map (·.1)++Tg) C s H fp) ifs tt)
  (he:∀ C s H fp,PE (cxC X scope cl (Fr.map (·.1)++Tg) C s H fp) elt te)
  {pins:List (Addr×Obj)} {σ:St} {H2:Hp} {s2:Shared} {it:Addr} {fp:List Addr} {tn:Nat→Heap→Prop} {J:It} {Q:VK} (I2:Inv X pins σ H2 s2) (T:Turn X.prog X.w X.K tg J fp it tn) (st2:tn 0 s2.heap)
  (f2:∀ b ∈ fp,FpOk X pins H2 b)
  (q:∀ D,H2 D=none→∃ W:Nat→Nat→St→Hp→Prop,(∃ m,W 0 m (stC Fr Tg σ) (upd H2 D (.lst [])))∧
   ∀ i m σ' H',W i m σ' H'→(J.stop i H'∧Q (.ref D) H')∨(J.go i H'∧∀ x H2,J.yld i H' x H2→g x σ' H2 fun σ2 H3=>tt σ2 H3 fun b H4=>
    if b=true then te σ2 H4 fun v H5=>∃ ys,H5 D=some (.lst ys)∧ys.length < sizeLine∧∃ m',m' < m∧W (i + 1) m' σ2 (upd H5 D (.lst (ys++[v])))
    else ∃ m',m' < m∧W (i + 1) m' σ2 H4))
  {E:Value→Shared→Prop} {RR:Value→Addr→Result→Shared→Prop}
  (hR:∀ D C s' H',(∃ m,s'.heap.Ns C m)→Inv X pins σ H' s'→FpOk X pins H' C→Q (.ref D) H'→RR (.ref D) C (.ok .next) s') :
  wpAny (model X.prog X.w) X.A (newList []) (fun acc s₃=>wpAny (model X.prog X.w) X.A (newFunctionEnv scope X.env.globals cl [] X.env.qual none .none (some X.env)) (fun cenv s₄=>
   codeAny (model X.prog X.w) X.A (.compStart (.ListComp elt [⟨tg,iter,ifs,0⟩] scope pos) 0 (.ref it) acc {cenv with scope:=relabel scope X.env}) (RR acc cenv.locals) s₄) E s₃) E s2:=by
 have fsz:∀ b ∈ fp,b < s2.heap.objs.size:=fun b hb=>by
  obtain⟨o,e,_⟩:=T.obj _ _ st2 b hb
  exact Heap.lt_size e
 -- the accumulator
 refine wpAny_newObj_type ?_
 have I3:Inv X pins σ (upd H2 s2.heap.objs.size (.lst [])) {s2 with heap:=s2.heap.push {cls:=.type "list",data:=.seq ([]:List Value).toArray},toks:=s2.toks}:=I2.lnew (ys:=[]) (its:=[]) .nil (Nat.zero_le _)
 generalize hD:s2.heap.objs.size=D at I3 ⊢
 have hDn:H2 D=none:=by rw[← hD];exact I2.fresh
 generalize hs3:({s2 with heap:=s2.heap.push {cls:=.type "list",data:=.seq ([]:List Value).toArray},toks:=s2.toks}:Shared)=s3 at I3
 have k3:∀ b o,s2.heap.get? b=some o→s3.heap.get? b=some o:=fun b o e=>by rw[← hs3];exact Heap.get?_push_of_some _ e
 have sz3:s3.heap.objs.size=D + 1:=by rw[← hs3,← hD];exact Heap.size_push ..
 have fszD:∀ b ∈ fp,b < D:=fun b hb=>by rw[← hD];exact fsz b hb
 have fsz3:∀ b ∈ fp,b < s3.heap.objs.size:=fun b hb=>by rw[sz3];exact Nat.lt_succ_of_lt (fszD b hb)
 have f3:∀ b ∈ fp,FpOk X pins (upd H2 D (.lst [])) b:=fun b hb=>by
  obtain⟨a1,a2⟩:=f2 b hb
  refine⟨?_,a2⟩
  rw[upd_ne (Nat.ne_of_lt (fszD b hb))]
  exact a1
 obtain⟨W,⟨m0,w0⟩,turn⟩:=q D hDn
 refine wpAny_newFunctionEnv S.nocell (by intro y hy;simp at hy) (fun h4 hns hsb=>?_) S.kind
 have k4:∀ b o,s3.heap.get? b=some o→h4.get? b=some o:=fun b o e=>
  hsb.extBut b o (Nat.ne_of_lt (Heap.lt_size e)) (Heap.get?_push_of_some _ e)
 have st4:tn 0 h4:=T.keep _ _ _ st2 fun b hb o e=>k4 b o (k3 b o e)
 have I4:=cxC_start (fp:=fp) (h':=h4) (tk:=s3.toks + ([]:List (Str×Value)).length) S I3 f3 fsz3 (by simpa using hns) k4 (fun _ _=>trivial)
 generalize hC:s3.heap.objs.size=C at I4 hns hsb ⊢
 generalize hY:cxC X scope cl (Fr.map (·.1)++Tg) C s3 (upd H2 D (.lst [])) fp=Y at I4
 have yP:Y.prog=X.prog:=by rw[← hY];rfl
 have yw:Y.w=X.w:=by rw[← hY];rfl
 have yK:Y.K=X.K:=by rw[← hY];rfl
 have yA:Y.A=X.A:=by rw[← hY];rfl
 have yc:Y.calm=true:=by rw[← hY];exact hc
 have yx:Y.xe=fun _ _=>False:=by rw[← hY];rfl
 have ye:Y.env=compEnvC scope cl C X.env:=by rw[← hY];rfl
 have yex:Y.ex=fp:=by rw[← hY];rfl
 have ypn:Y.pn=[]:=by rw[← hY];rfl
 have yfs:Y.fs=frs X.stack:=by rw[← hY];rfl
 have yH:Y.H₀=upd H2 D (.lst []):=by rw[← hY];rfl
 have ys₀:Y.s₀=s3:=by rw[← hY];rfl
 have hg':PG Y tg g:=by rw[← hY];exact hg _ _ _ _
 have ht':PTs Y ifs tt:=by rw[← hY];exact ht _ _ _ _
 have he':PE Y elt te:=by rw[← hY];exact he _ _ _ _
 have stat:∀ {H':Hp},(∀ b ∈ fp,H' b=none)→∀ b ∈ fp,FpOk Y [] H' b:=fun hn b hb=>by
  have okY:=I4.ok
  refine⟨hn b hb,(okY.exf b (by rw[yex];exact hb)).1,okY.exfs b (by rw[yex];exact hb),.inl (by rw[yex];exact hb),(okY.exf b (by rw[yex];exact hb)).2,fun p hp=>absurd hp (by rw[ypn];simp)⟩
 have fr0:∀ b ∈ fp,(upd H2 D (.lst [])) b=none:=fun b hb=>(f3 b hb).1
 -- back to the frame
 have back:∀ (s5:Shared) (σ5:St) (H5:Hp),Inv Y [] σ5 H5 s5→(∃ m,s5.heap.Ns C m)∧Inv X pins σ H5 s5∧FpOk X pins H5 C:=by
  intro s5 σ5 H5 I5
  have hns5:∃ m,s5.heap.Ns C m:=by
   obtain⟨m,hn,_⟩:=I5.loc
   rw[ye] at hn
   exact⟨m,hn⟩
  have un5:Un (frs X.stack) fp (upd H2 D (.lst [])) H5 s3.heap s5.heap:=by
   have u:=I5.base
   rw[yfs,yex,yH,ys₀] at u
   exact u
  have os5:s5.os=s3.os:=by have:=I5.os;rw[ys₀] at this;exact this
  have hok5:HOk X.prog X.w H5 s5.heap:=by have:=I5.hok;rw[yP,yw] at this;exact this
  have hch:∀ b ∈ fp,(b ∈ X.ex∨X.s₀.heap.objs.size≤b)∧b≠X.env.locals∧(∀ x c,X.env.cells.lookup x=some c→c≠b)∧∀ p ∈ X.pn++pins,p.1≠b:=fun b hb=>by
   obtain⟨_,a1,_,a3,a4,a5⟩:=f3 b hb
   exact⟨a3,a1,a4,a5⟩
  have free5:H5 C=none:=by
   have:=I5.free
   rw[ye] at this
   exact this
  exact⟨hns5,I3.call' os5 un5 hok5 I5.bare hch,I3.fpOk (Nat.le_of_eq hC) free5⟩
 have loop:∀ (s5:Shared) (σ5:St) (H5:Hp) (i m:Nat),Inv Y [] σ5 H5 s5→tn i s5.heap→(∀ b ∈ fp,H5 b=none)→W i m σ5 H5→
   codeAny (model X.prog X.w) X.A (.compLoop (.ListComp elt [⟨tg,iter,ifs,0⟩] scope pos) 0 (.ref it) (.ref D) (compEnvC scope cl C X.env)) (RR (.ref D) C) s5:=by
  intro s5 σ5 H5 i m I5 st5 fr5 w5
  refine codeAny_loop rfl (fun n s'=>∃ i σ' H',Inv Y [] σ' H' s'∧tn i s'.heap∧(∀ b ∈ fp,H' b=none)∧W i n σ' H') ?_ m ⟨i,σ5,H5,I5,st5,fr5,w5⟩
  rintro n s6 ⟨i,σ6,H6,I6,st6,fr6,w6⟩
  show wpAny _ X.A ((compTurn (.ListComp elt [⟨tg,iter,ifs,0⟩] scope pos) 0 (.ref it) (.ref D) (compEnvC scope cl C X.env)).onRaise (fun x=>do noteFrame x (compEnvC scope cl C X.env);theTreesLotGoes x)) _ _ s6
  refine wpAny_noted ?_
  rw[compTurn_any]
  refine wpAny_bind (wpAny_standAt (wpAny_bind ?_))
  have nx:∀ {α:Type} {t:Sem α} {Q:α→Shared→Prop} {E':Value→Shared→Prop} {s:Shared},wpAny (model X.prog X.w) X.A t Q (fun _ _=>False) s→wpAny (model X.prog X.w) X.A t Q E' s:=fun h=>wpAny_mono h (fun _ _ z=>z) fun _ _ z=>z.elim
  rcases turn i n σ6 H6 w6 with ⟨stop,qn⟩ | ⟨go,step⟩
  ·have h:=T.done Y yP yw yK yc i [] s6 σ6 H6 (fun _ _=>False) I6 (stat fr6) st6 stop
   rw[yA] at h
   refine nx (thn h fun r s7 ⟨hr,I7⟩=>?_)
   subst hr
   refine wpAny_pure ?_
   obtain⟨b1,b2,b3⟩:=back s7 σ6 H6 I7
   exact hR D C s7 H6 b1 b2 b3 qn
  ·have h:=T.item Y yP yw yK yc i [] s6 σ6 H6 (fun _ _=>False) I6 (stat fr6) st6 go
   rw[yA] at h
   refine nx (thn h fun r s7 ⟨u,hr,h7⟩=>?_)
   subst hr
   refine wpAny_bind (nx (thn h7 fun _ s8 ⟨x,H8,I8,r8,y8,st8,fr8⟩=>?_))
   have I8':=I8.pinned (stat fr8) (T.obj _ _ st8)
   have h9:=hg' _ s8 σ6 H8 x u _ I8' r8 (step x H8 y8)
   rw[yP,yw,yA,yx,ye] at h9
   refine wpAny_bind (nx (thn h9 fun _ s9 ⟨σ9,H9,I9,q9⟩=>?_))
   have h10:=ht' _ s9 σ9 H9 _ I9 q9
   rw[yP,yw,yA,yx,ye] at h10
   refine wpAny_bind (nx (thn h10 fun ok s10 ⟨H10,I10,q10⟩=>?_))
   have again:∀ {σ':St} {H':Hp} {s':Shared},Inv Y ([]++pinsAt fp s8.heap) σ' H' s'→(∃ m',m' < n∧W (i + 1) m' σ' H')→∃ m,m < n∧∃ i σ' H',Inv Y [] σ' H' s'∧tn i s'.heap∧(∀ b ∈ fp,H' b=none)∧W i m σ' H':=fun {σ' H' s'} I' ⟨m',hm,w'⟩=>by
    refine⟨m',hm,i + 1,σ',H',I'.unpinned,T.keep _ _ _ st8 fun b hb o e=>(I'.pin (b,o) (List.mem_append_right _ (List.mem_append_right _ (mem_pinsAt hb e)))).1,fun b hb=>?_,w'⟩
    obtain⟨o,e,d⟩:=T.obj _ _ st8 b hb
    exact(I'.pin (b,o) (List.mem_append_right _ (List.mem_append_right _ (mem_pinsAt hb e)))).2.1
   cases ok with
   | false=>
    rw[if_neg Bool.false_ne_true] at q10
    refine wpAny_bind (wpAny_pure (wpAny_pure ⟨rfl,again I10 q10⟩))
   | true=>
    rw[if_pos rfl] at q10
    have h11:=he' _ s10 σ9 H10 _ I10 q10
    rw[yP,yw,yA,yx,ye] at h11
    refine wpAny_bind (wpAny_bind (nx (thn h11 fun y s11 ⟨v,H11,I11,r11,ys,ey,zy,q11⟩=>?_)))
    have h12:=mt_append (X:=Y) ([]++pinsAt fp s8.heap) s11 σ9 H11 (.ref D) [v] (.ref D) [y] (fun v' H'=>v'=.non∧H'=upd H11 D (.lst (ys++[v]))) I11 rfl (.cons r11 .nil) ⟨D,ys,v,rfl,rfl,ey,zy,rfl,rfl⟩
    rw[yP,yw,yA,yx] at h12
    refine wpAny_bind (nx (thn h12 fun z s12 ⟨v12,H12,I12,r12,e12,e12'⟩=>?_))
    subst e12'
    exact wpAny_pure (wpAny_pure ⟨rfl,again I12 q11⟩)
 have start:=loop {s3 with heap:=h4,toks:=s3.toks + ([]:List (Str×Value)).length} (stC Fr Tg σ) (upd H2 D (.lst [])) 0 m0 I4 st4 fr0 w0
 have e5:∀ (s':Shared),s' = {s3 with heap:=h4,toks:=s3.toks + ([]:List (Str×Value)).length}→codeAny (model X.prog X.w) X.A (.compLoop (.ListComp elt [⟨tg,iter,ifs,0⟩] scope pos) 0 (.ref it) (.ref D) (compEnvC scope cl C X.env)) (RR (.ref D) C) s':=by
  rintro _ rfl
  exact start
 exact codeAny_compStart_list (e5 _ rfl) (T.self _ _ _ _ _ st4 (e5 _ rfl))
theorem pe_comp (hc:X.calm=true) (S:CompSc X scope cl Fr Tg) (hi:PI X tg iter wi)
  (hg:∀ C s H fp,PG (cxC X scope cl (Fr.map (·.1)++Tg) C s H fp) tg g) (ht:∀ C s H fp,PTs (cxC X scope cl (Fr.map (·.1)++Tg) C s H fp) ifs tt)
  (he:∀ C s H fp,PE (cxC X scope cl (Fr.map (·.1)++Tg) C s H fp) elt te) (hs:∀ x,foldedSetIterable iter X.env x=pure x:=by intro _;rfl) :
  PE X (.ListComp elt [⟨tg,iter,ifs,0⟩] scope pos) (tCmpr wi (stC Fr Tg) g tt te):=by
 intro pins s σ H Q I h
 rw[eval_ListComp]
 refine wpAny_comprehension_free (use:=none) rfl hs S.clos S.kind S.loc (thn (hi pins s σ H _ I h) fun xv s1 h1=>thn h1 fun itv s2 h2=>?_)
 obtain⟨it,fp,tn,J,H2,rfl,I2,T,st2,f2,q⟩:=h2
 refine comp_block (RR:=fun acc C=>compPost (model X.prog X.w) X.A X.xe none (EP X pins σ Q) acc C) hc S hg ht he I2 T st2 f2 q ?_
 intro D C s' H' ⟨m,hn⟩ I' F' q'
 obtain⟨f0,f1,f2,f3,f4,f5⟩:=F'
 exact⟨m,hn,fun h' sb=>⟨.ref D,H',I'.turned (t':=s'.toks) (fun b o hb e=>(sb.2 b hb).trans e) f0 f1 f3 f4 f5,rfl,q'⟩⟩
theorem ps_comp {y:Str} {py spos:Pos} {i:Nat} (hc:X.calm=true) (hN:X.N.Nodup) (hiN:X.N[i]? = some y) (hy:X.env.kindOf y=some .local) (S:CompSc X scope cl Fr Tg) (hi:PI X tg iter wi)
  (hg:∀ C s H fp,PG (cxC X scope cl (Fr.map (·.1)++Tg) C s H fp) tg g) (ht:∀ C s H fp,PTs (cxC X scope cl (Fr.map (·.1)++Tg) C s H fp) ifs tt)
  (he:∀ C s H fp,PE (cxC X scope cl (Fr.map (·.1)++Tg) C s H fp) elt te)
  (hsw:swapsWith (.ListComp elt [⟨tg,iter,ifs,0⟩] scope pos) (some (.Name y py)) spos.line X.env=pure true) (hs:∀ x,foldedSetIterable iter X.env x=pure x:=by intro _;rfl) :
  PS X (.Assign [.Name y py] (.ListComp elt [⟨tg,iter,ifs,0⟩] scope pos) spos) (fun D σ H=>tCmpr wi (stC Fr Tg) g tt te σ H fun v H'=>D.nx (σ.set i (some v)) H'):=by
 intro pins s σ H D I h
 rw[exec_Assign_Name_used _ _ _ _ hsw]
 refine wpAny_bind (wpAny_standAt (wpAny_bind ?_))
 show wpAny _ X.A (do let _ ← comprehension (.ListComp elt [⟨tg,iter,ifs,0⟩] scope pos) scope X.env _ (newList []) false (eval iter X.env) (some (assign (.Name y py) X.env))) _ _ s
 refine wpAny_bind (thn (wpAny_comprehension_free (use:=some (assign (.Name y py) X.env)) (Q:=fun _ s'=>SP X pins D .next s') rfl hs S.clos S.kind S.loc
  (thn (hi pins s σ H _ I h) fun xv s1 h1=>thn h1 fun itv s2 h2=>?_)) fun _ s' hq=>wpAny_pure (wpAny_pure hq))
 obtain⟨it,fp,tn,J,H2,rfl,I2,T,st2,f2,q⟩:=h2
 refine comp_block (Q:=fun v H'=>D.nx (σ.set i (some v)) H') (RR:=fun acc C=>compPost (model X.prog X.w) X.A X.xe (some (assign (.Name y py) X.env)) (fun _ s'=>SP X pins D .next s') acc C) hc S hg ht he I2 T st2 f2 q ?_
 intro D' C s' H' ⟨m,hn⟩ I' F' q'
 obtain⟨f0,f1,f2,f3,f4,f5⟩:=F'
 show wpAny _ X.A (assign (.Name y py) X.env (.ref D')) _ _ _
 refine wpAny_assign_Name (store_ok2 I' hN hiN (.inl hy) (show RelV (.ref D') (.ref D') from rfl) (fun s'' I'' ⟨a,sb,ha⟩=>?_) (.inr hy))
 have hCa:C≠a:=by
  rcases ha with rfl | ha
  ·exact f1
  ·exact fun z=>f4 y a ha z.symm
 refine⟨m,hn.sameBut sb hCa,fun h' sb'=>⟨_,H',I''.turned (t':=s''.toks) (fun b o hb e=>(sb'.2 b hb).trans e) f0 f1 f3 f4 f5,q'⟩⟩
end
end L2
namespace L2
open PySem PySem.Spec PyProof.Rows PySem.SeqAt
section
variable {prog:Program} {w:World} {A:Around} {E:Value→Shared→Prop} {s:Shared}
end
end L2
namespace L2
open PySem PySem.Spec PyProof.Rows PySem.SeqAt
section
variable {X:Cx} {e:Expr} {t:TE} {p p' pos pos':Pos}
end
end L2
namespace L2
open PySem PySem.Spec PyProof.Rows PySem.SeqAt
section
variable {X:Cx}
theorem mulOk_small {x:Str} {n:Int} (h0 : -16000≤n) (h1:n≤16000) (hx:x.length≤1000):MulOk x n:=by
 refine⟨?_,fun hn _=>?_,fun hn _=>?_⟩
 ·rw[Bool.or_eq_false_iff]
  exact⟨decide_eq_false (by omega),decide_eq_false (by omega)⟩
 ·have:(1000:Int)≤(2 ^ 63 - 1) / n:=Int.le_ediv_of_mul_le (by omega) (by omega)
  omega
 ·have:x.length * n.toNat≤1000 * 16000:=Nat.mul_le_mul hx (by omega)
  unfold Builtin.Str.tooLong
  exact decide_eq_false (by rw[sizeLine_eq];omega)
theorem op_mul_str:OpR X (binaryOp .Mult) (fun x y H Q=>∃ i j,x=.str i∧y=.int j∧-16000≤j∧j≤16000∧i.length≤1000∧Q (.str (Txt.mul i j)) H):=by
 intro pins s σ H x y v u Q I rx ry h
 obtain⟨i,j,rfl,rfl,h0,h1,hz,q⟩:=h
 obtain⟨t,rfl⟩:=rx
 obtain⟨t',rfl⟩:=ry
 exact SB.mul (mulOk_small h0 h1 hz) fun t' tk=>⟨.str (Txt.mul i j),H,I.tok _,⟨_,rfl⟩,q⟩
noncomputable def charsV (z:Str):List V:=z.cps.toList.map fun c=>.str ⟨#[c]⟩
theorem vals_signs {z:Str} {acc':Array Value} (hacc:ItemsOf (SignAt z) acc' z.cps.size):Vals (charsV z) acc'.toList:=by
 have hl:acc'.toList.length=z.cps.toList.length:=by rw[Array.length_toList,Array.length_toList,hacc.1]
 have key:∀ (cs:List Nat) (vs:List Value),vs.length=cs.length→(∀ (i:Nat) (v:Value),vs[i]? = some v→∃ c u,cs[i]? = some c∧v=Value.str ⟨#[c]⟩ u)→Vals (cs.map fun c=>V.str ⟨#[c]⟩) vs:=by
  intro cs
  induction cs with
  | nil=>
   intro vs hl _
   cases vs with
   | nil=>exact .nil
   | cons _ _=>cases hl
  | cons c cs ih=>
   intro vs hl hv
   cases vs with
   | nil=>cases hl
   | cons v vs=>
    obtain⟨c',u,e1,e2⟩:=hv 0 v rfl
    have e1':c=c':=by simpa using e1
    subst e1' e2
    exact .cons ⟨u,rfl⟩ (ih vs (by simpa using hl) fun i w hw=>by simpa using hv (i + 1) w (by simpa using hw))
 refine key _ _ hl fun i v hv=>?_
 obtain⟨c,u,e1,e2⟩:=hacc.2 i v (by rw[← Array.getElem?_toList];exact hv)
 exact⟨c,u,by rw[Array.getElem?_toList];exact e1,e2⟩
theorem call_list_txt (hc:X.calm=true):CallR X (.type "list") (fun xs H Q=>∃ z:Str,xs=[.str z]∧z.length≤sizeLine∧∀ l,H l=none→Q (.ref l) (upd H l (.lst (charsV z)))):=by
 intro pins s σ H xs us Q I r h
 obtain⟨z,rfl,hz,q⟩:=h
 obtain⟨u,rfl,t,rfl⟩:=vals1 r
 refine call_list_str (show X.A.handled=none from I.ok.hd hc) z t (fun h' tk acc' c' kp e hacc=>?_) hz
 have rv:=vals_signs hacc
 exact⟨.ref _,_,I.laid (t':=tk) kp (Nat.le_refl _) (show ObjOk X.prog X.w _ h' _ (.lst (charsV z)) from ⟨by unfold charsV;simpa[Str.length] using hz,acc'.toList,c',rv,by simpa using e⟩),rfl,q _ (I.hok.fresh (Nat.le_refl _))⟩
theorem call_tuple_txt (hc:X.calm=true):CallR X (.type "tuple") (fun xs H Q=>∃ z:Str,xs=[.str z]∧z.length≤sizeLine∧∀ l,H l=none→Q (.ref l) (upd H l (.tup (charsV z)))):=by
 intro pins s σ H xs us Q I r h
 obtain⟨z,rfl,hz,q⟩:=h
 obtain⟨u,rfl,t,rfl⟩:=vals1 r
 refine call_tuple_str (hsz:=hz) (show X.A.handled=none from I.ok.hd hc) z t (fun h' tk acc kp hacc=>?_)
 have rv:=vals_signs hacc
 have I1:Inv X pins σ H {s with heap:=h',toks:=tk}:=I.kept (t':=tk) kp
 exact⟨.ref _,_,I1.laid (t':=tk) (fun b o e=>Heap.get?_push_of_some _ e) (Nat.le_refl _) (show ObjOk X.prog X.w _ _ _ (.tup (charsV z)) from ⟨by unfold charsV;simpa[Str.length] using hz,acc.toList,rv,by simpa using IsTup.new h' acc⟩),rfl,q _ (I1.hok.fresh (Nat.le_refl _))⟩
end
end L2
namespace L2
open PySem PySem.Spec PyProof.Rows PySem.SeqAt PySem.W
noncomputable def kRun {α:Type} (lt:Nat→Nat→Bool):KasT α→α
 | .ret a=>a
 | .ask i j k=>kRun lt (k (lt i j))
section
variable {prog:Program} {w:World} {A:Around} {E:Value→Shared→Prop} {s:Shared}
theorem lex_ok {b:Bool} {Q:Bool→Shared→Prop}:∀ {us ws:List Value} {ns ms:List Int} (fin:Bool) (i:Nat),IntsAre us ns→IntsAre ws ms→(fin=decide (us.length < ws.length))→Q (HT.lexLt ns ms) s→KatLex prog w A b fin Q (us.zip ws) i s
 | _,_,_,_,fin,i,.nil,.nil,hf,h=>by
  subst hf
  exact kat_nil h
 | _,_,_,_,fin,i,.nil,.cons m u hr,hf,h=>by
  subst hf
  exact kat_nil h
 | _,_,_,_,fin,i,.cons n t hr,.nil,hf,h=>by
  subst hf
  exact kat_nil h
 | _,_,_,_,fin,i,.cons n t hr,.cons m u hs,hf,h=>by
  refine kat_cons (wpAny_eqBool_int ?_)
  rw[HT.lexLt_cons] at h
  by_cases e:n=m
  ·rw[if_pos e] at h
   rw[beq_iff_eq.mpr e]
   exact kat_yes (lex_ok fin (i + 1) hr hs (by rw[hf];simp) h)
  ·rw[if_neg e] at h
   rw[beq_eq_false_iff_ne.mpr e]
   refine kat_no ?_
   cases b && i == 0 with
   | true=>exact oneLt_int h
   | false=>exact kat_one _ _ (lt_int h)
noncomputable def TupsAt (h:Heap):List Value→List (List Int)→Prop
 | [],[]=>True
 | v::vs,ns::nss=>(∃ a o us k,v=.ref a∧h.get? a=some o∧o.cls=.type "tuple"∧o.data=.seq us k∧IntsAre us.toList ns∧ns≠[])∧TupsAt h vs nss
 | _,_=>False
theorem TupsAt.keeps {h h':Heap} (hk:∀ b o,h.get? b=some o→h'.get? b=some o):∀ {vs:List Value} {nss:List (List Int)},TupsAt h vs nss→TupsAt h' vs nss
 | [],[],_=>trivial
 | v::vs,ns::nss,⟨⟨a,o,us,k,e1,e2,e3⟩,t⟩=>⟨⟨a,o,us,k,e1,hk _ _ e2,e3⟩,t.keeps hk⟩
 | [],_::_,t=>t.elim
 | _::_,[],t=>t.elim
theorem TupsAt.length {h:Heap}:∀ {vs:List Value} {nss:List (List Int)},TupsAt h vs nss→vs.length=nss.length
 | [],[],_=>rfl
 | _::_,_::_,t=>by rw[List.length_cons,List.length_cons,t.2.length]
 | [],_::_,t=>t.elim
 | _::_,[],t=>t.elim
theorem TupsAt.at {h:Heap}:∀ {vs:List Value} {nss:List (List Int)},TupsAt h vs nss→∀ i,i < vs.length→∃ a o us k,vs.getD i Value.none=.ref a∧h.get? a=some o∧o.cls=.type "tuple"∧o.data=.seq us k∧IntsAre us.toList (nss.getD i [])
 | [],[],_,i,hi=>absurd hi (by simp)
 | v::vs,ns::nss,t,0,_=>by
  obtain⟨⟨a,o,us,k,e1,e2,e3,e4,e5,_⟩,_⟩:=t
  exact⟨a,o,us,k,e1,e2,e3,e4,e5⟩
 | v::vs,ns::nss,t,i + 1,hi=>by
  obtain⟨a,o,us,k,e1,r⟩:=t.2.at i (by simpa using hi)
  exact⟨a,o,us,k,by simpa using e1,by simpa using r⟩
 | [],_::_,t,_,_=>t.elim
 | _::_,[],t,_,_=>t.elim
theorem TupsAt.firsts {h:Heap}:∀ {vs:List Value} {nss:List (List Int)},TupsAt h vs nss→∃ fs,KatTups h vs fs∧fs.length=vs.length∧∀ v ∈ fs,∃ n t,v=Value.int n t
 | [],[],_=>⟨[],trivial,rfl,fun v hv=>absurd hv (by simp)⟩
 | v::vs,ns::nss,t=>by
  obtain⟨⟨a,o,us,k,rfl,e2,e3,e4,e5,e6⟩,t⟩:=t
  obtain⟨fs,h1,h2,h3⟩:=t.firsts
  obtain⟨n,r,rfl⟩:∃ n r,ns=n::r:=by
   cases ns with
   | nil=>exact absurd rfl e6
   | cons n r=>exact⟨n,r,rfl⟩
  have hu:∃ u0 ur,us.toList=u0::ur∧∃ t,u0=Value.int n t:=by
   generalize us.toList=l at e5
   cases e5 with
   | cons n t hr=>exact⟨_,_,rfl,t,rfl⟩
  obtain⟨u0,ur,hu1,t0,rfl⟩:=hu
  refine⟨Value.int n t0::fs,KatTups.cons e2 e3 e4 ?_ h1,by rw[List.length_cons,List.length_cons,h2],fun v hv=>?_⟩
  ·rw[← Array.getElem?_toList,hu1];rfl
  ·rcases List.mem_cons.mp hv with rfl | hv
   ·exact⟨n,t0,rfl⟩
   ·exact h3 v hv
 | [],_::_,t=>t.elim
 | _::_,[],t=>t.elim
noncomputable def ordT (nss:List (List Int)):List Nat:=if nss.length < 2 then List.range nss.length else (kRun (fun i j=>HT.lexLt (nss.getD i []) (nss.getD j [])) (kas_sort nss.length)).toList
end
noncomputable def AskIn {α:Type} (n:Nat) (P:α→Prop):KasT α→Prop
 | .ret a=>P a
 | .ask i j k=>i < n∧j < n∧∀ b,AskIn n P (k b)
theorem AskIn.bind {α β:Type} {n:Nat} {P:α→Prop} {P':β→Prop} {f:α→KasT β} (hf:∀ a,P a→AskIn n P' (f a)):∀ {t:KasT α},AskIn n P t→AskIn n P' (t.bind f)
 | .ret a,h=>hf a h
 | .ask i j k,h=>⟨h.1,h.2.1,fun b=>(h.2.2 b).bind hf⟩
theorem AskIn.run {α:Type} {n:Nat} {P:α→Prop} (lt:Nat→Nat→Bool):∀ {t:KasT α},AskIn n P t→P (kRun lt t)
 | .ret _,h=>h
 | .ask i j k,h=>(h.2.2 (lt i j)).run lt
theorem AskIn.wp {α:Type} {n:Nat} {P:α→Prop} {cmp:Nat→Nat→(Bool→Shared→Prop)→Shared→Prop} {lt:Nat→Nat→Bool} {s:Shared} (hc:∀ i j (C:Bool→Shared→Prop),i < n→j < n→C (lt i j) s→cmp i j C s) {Q:α→Shared→Prop}:∀ {t:KasT α},AskIn n P t→Q (kRun lt t) s→t.kasWp cmp Q s
 | .ret _,_,h=>h
 | .ask i j k,a,h=>hc i j _ a.1 a.2.1 ((a.2.2 (lt i j)).wp hc h)
noncomputable def PR (n:Nat) (p:Array Nat):Prop:=p.Perm (List.range n).toArray
theorem PR.lt {n:Nat} {p:Array Nat} (h:PR n p) (hn:0 < n) (i:Nat):p.getD i 0 < n:=by
 by_cases hi:i < p.size
 ·have e:p.getD i 0=p[i]:=by simp[Array.getD,hi]
  rw[e]
  have hm:p[i] ∈ (List.range n).toArray:=h.mem_iff.mp (Array.getElem_mem hi)
  have hm':p[i] ∈ List.range n:=by simpa using hm
  exact List.mem_range.mp hm'
 ·have e:p.getD i 0=0:=by simp[Array.getD,hi]
  rw[e];exact hn
theorem PR.rev {n:Nat} {p:Array Nat} (h:PR n p) (i j:Nat):PR n (kas_rev p i j):=(mirror_perm p i j _).trans h
theorem PR.bub {n:Nat} {p:Array Nat} (h:PR n p) (i j:Nat):PR n (bubble p i j):=(bubble_perm p i j).trans h
section
variable {n:Nat}
theorem asc_in {p:Array Nat} (h:PR n p) (hn:0 < n):∀ f m,AskIn n (fun _:Nat=>True) (kas_asc p f m)
 | 0,m=>trivial
 | f + 1,m=>⟨h.lt hn _,h.lt hn _,fun b=>by
  cases b with
  | true=>exact trivial
  | false=>exact asc_in h hn f (m + 1)⟩
theorem desc_in (hn:0 < n):∀ (f:Nat) {p:Array Nat} (m q:Nat),PR n p→AskIn n (fun r:Array Nat×Nat×Nat=>PR n r.1) (kas_desc f p m q)
 | 0,p,m,q,h=>h
 | f + 1,p,m,q,h=>⟨h.lt hn _,h.lt hn _,fun b=>by
  cases b with
  | true=>
   show AskIn n _ (if q > 0 then _ else _)
   by_cases hq:q > 0
   ·rw[if_pos hq];exact desc_in hn f _ _ (h.rev _ _)
   ·rw[if_neg hq];exact desc_in hn f _ _ h
  | false=>
   refine⟨h.lt hn _,h.lt hn _,fun b=>?_⟩
   cases b with
   | true=>exact h
   | false=>exact desc_in hn f _ _ h⟩
theorem tail3_in (hn:0 < n) {p:Array Nat} (a b:Nat) (h:PR n p):AskIn n (fun r:Nat×Array Nat=>PR n r.2) (kas_tail3 a b p):=by
 unfold kas_tail3
 refine(asc_in (h.rev 0 a) hn _ _).bind fun m _=>?_
 exact h.rev 0 a
theorem descPart_in (hn:0 < n) {p:Array Nat} (a b:Nat) (h:PR n p):AskIn n (fun r:Nat×Array Nat=>PR n r.2) (kas_descPart a b p):=by
 refine(desc_in hn _ _ _ h).bind fun r hr=>?_
 by_cases hq:r.2.2 > 0
 ·rw[if_pos hq];exact tail3_in hn _ _ (hr.rev _ _)
 ·rw[if_neg hq];exact tail3_in hn _ _ hr
theorem count_in (hn:0 < n) {p:Array Nat} (b:Nat) (h:PR n p):AskIn n (fun r:Nat×Array Nat=>PR n r.2) (kas_count b p):=by
 refine(asc_in h hn _ _).bind fun m _=>?_
 by_cases h1:(m == b)=true
 ·rw[if_pos h1];exact h
 ·rw[if_neg h1]
  by_cases h2:m > 1
  ·rw[if_pos h2]
   refine⟨h.lt hn _,h.lt hn _,fun c=>?_⟩
   cases c with
   | true=>exact h
   | false=>exact descPart_in hn _ _ (h.rev _ _)
  ·rw[if_neg h2];exact descPart_in hn _ _ h
theorem place_in {p:Array Nat} (h:PR n p) (hn:0 < n) (k:Nat):∀ f l r,AskIn n (fun _:Nat=>True) (kas_place p k f l r)
 | 0,l,r=>trivial
 | f + 1,l,r=>by
  unfold kas_place
  by_cases hl:l ≥ r
  ·rw[if_pos hl];exact trivial
  ·rw[if_neg hl]
   refine⟨h.lt hn _,h.lt hn _,fun c=>?_⟩
   cases c with
   | true=>exact place_in h hn k f _ _
   | false=>exact place_in h hn k f _ _
theorem bin_in (hn:0 < n):∀ (f:Nat) {p:Array Nat} (k:Nat),PR n p→AskIn n (PR n) (kas_bin f p k)
 | 0,p,k,h=>h
 | f + 1,p,k,h=>(place_in h hn k _ _ _).bind fun l _=>bin_in hn f _ (h.bub _ _)
theorem sort_in (hn:0 < n):AskIn n (PR n) (kas_sort n):=by
 refine(count_in hn n (Array.Perm.refl _)).bind fun r hr=>?_
 by_cases h:r.1 < n
 ·rw[if_pos h];exact bin_in hn _ _ hr
 ·rw[if_neg h];exact hr
end
theorem ordT_perm (nss:List (List Int)):(ordT nss).Perm (List.range nss.length):=by
 unfold ordT
 by_cases h:nss.length < 2
 ·rw[if_pos h]
 ·rw[if_neg h]
  have:=(sort_in (n:=nss.length) (by omega)).run fun i j=>HT.lexLt (nss.getD i []) (nss.getD j [])
  have h2:=Array.Perm.toList this
  simpa using h2
section
variable {prog:Program} {w:World} {A:Around} {E:Value→Shared→Prop} {s:Shared}
theorem ask_tups {B:Around} {κb:Bool} {vs:List Value} {nss:List (List Int)} (t:TupsAt s.heap vs nss) (i j:Nat) (C:Bool→Shared→Prop) (hi:i < vs.length) (hj:j < vs.length) (h:C (HT.lexLt (nss.getD i []) (nss.getD j [])) s):kas_ask prog w B (tuples' κb) vs i j C s:=by
 obtain⟨a,o,us,k,e1,e2,e3,e4,e5⟩:=t.at i hi
 obtain⟨a',o',us',k',f1,f2,f3,f4,f5⟩:=t.at j hj
 unfold kas_ask
 rw[e1,f1]
 exact kat_lt e2 e4 f2 f4 (lex_ok _ 0 e5 f5 (by simp) h)
theorem TupsAt.but {h h':Heap} {a:Addr} {l0:Obj} (ha:h.get? a=some l0) (hl:l0.cls=.type "list") (hk:∀ b o,b≠a→h.get? b=some o→h'.get? b=some o):∀ {vs:List Value} {nss:List (List Int)},TupsAt h vs nss→TupsAt h' vs nss
 | [],[],_=>trivial
 | v::vs,ns::nss,⟨⟨x,o,us,k,e1,e2,e3,e4⟩,t⟩=>⟨⟨x,o,us,k,e1,hk _ _ (fun z=>by subst z;rw[ha] at e2;cases e2;rw[hl] at e3;exact absurd e3 (by decide)) e2,e3,e4⟩,t.but ha hl hk⟩
 | [],_::_,t=>t.elim
 | _::_,[],t=>t.elim
theorem range_self:∀ vs:List Value,(List.range vs.length).map (fun i=>vs.getD i Value.none)=vs:=by
 intro vs
 apply List.ext_getElem?
 intro i
 rw[List.getElem?_map]
 by_cases h:i < vs.length
 ·rw[List.getElem?_range h,List.getElem?_eq_getElem h]
  simp[h]
 ·rw[List.getElem?_eq_none (by simpa using h),List.getElem?_eq_none (by simpa using h)]
  rfl
theorem sortT_body {a:Addr} {vs:List Value} {nss:List (List Int)} {n:Nat} {P:PySem.Fin→Shared→Prop} (ho:s.heap.get? a=some (seqObj "list" vs.toArray n)) (t:TupsAt s.heap vs nss) (h64:vs.length < 64)
  (fin:∀ h' c,(∀ b o,b≠a→s.heap.get? b=some o→h'.get? b=some o)→h'.get? a=some (seqObj "list" ((ordT nss).map fun i=>vs.getD i Value.none).toArray c)→P (.done (.ret .none)) {s with heap:=h'}) :
  wpAny (model prog w) A (Builtin.«list.sort» ⟨[.ref a],[]⟩) P E s:=by
 have ltA:a < s.heap.objs.size:=Heap.lt_size ho
 have lens:=t.length
 have small:vs.toArray.size≤sizeLine:=by rw[List.size_toArray,sizeLine_eq];omega
 generalize hg1:s.heap.update a (Obj.mapSeq fun _=>(#[]:Array Value))=g1
 obtain⟨c1,o1⟩:∃ c1,g1.get? a=some (seqObj "list" #[] c1):=⟨_,by rw[← hg1];exact get?_update_seq ho fun _=>#[]⟩
 have k1:∀ b o,b≠a→s.heap.get? b=some o→g1.get? b=some o:=fun b o hb e=>by rw[← hg1];exact(Heap.get?_update_other _ _ (Ne.symm hb)).trans e
 generalize hg3:(g1.push (seqObj "tuple" vs.toArray 0)).push (seqObj "list" #[] 0)=g3
 have o3:g3.get? a=some (seqObj "list" #[] c1):=by rw[← hg3];exact Heap.get?_push_of_some _ (Heap.get?_push_of_some _ o1)
 have k3:∀ b o,b≠a→s.heap.get? b=some o→g3.get? b=some o:=fun b o hb e=>by rw[← hg3];exact Heap.get?_push_of_some _ (Heap.get?_push_of_some _ (k1 b o hb e))
 have t3:TupsAt g3 vs nss:=t.but ho rfl k3
 have last:∀ out:List Value,out.length≤sizeLine→out=(ordT nss).map (fun i=>vs.getD i Value.none)→P (.done (.ret .none)) {s with heap:=g3.update a (Obj.mapSeq fun _=>out.toArray)}:=fun out _ eo=>by
  obtain⟨c2,o2⟩:∃ c2,(g3.update a (Obj.mapSeq fun _=>out.toArray)).get? a=some (seqObj "list" out.toArray c2):=⟨_,get?_update_seq o3 fun _=>out.toArray⟩
  exact fin _ c2 (fun b o hb e=>(Heap.get?_update_other _ _ (Ne.symm hb)).trans (k3 b o hb e)) (by rw[← eo];exact o2)
 rw[list_sort_plain]
 refine wpAny_bind (listItems_at ho rfl ?_)
 refine wpAny_bind (listUpdate_at ho rfl ?_ small (Nat.zero_le _))
 rw[hg1]
 refine wpAny_bind (seqEpoch_at o1 rfl ?_)
 refine wpAny_bind (wpAny_newTuple ?_ (by rw[sizeLine_eq];show vs.length≤_;omega))
 refine wpAny_bind (wpAny_newList ?_ (Nat.zero_le _))
 refine wpAny_holding ?_
 have e3:(g1.push {cls:=.type "tuple",data:=.seq vs.toArray.toList.toArray}).push {cls:=.type "list",data:=.seq ([]:List Value).toArray} = g3:=hg3
 show wpAny (model prog w) A _ P E {s with heap:=(g1.push {cls:=.type "tuple",data:=.seq vs.toArray.toList.toArray}).push {cls:=.type "list",data:=.seq ([]:List Value).toArray}}
 rw[e3]
 dsimp only
 by_cases h2:vs.toArray.size < 2
 ·rw[if_pos h2,if_pos h2]
  refine wpAny_bind (wpAny_pure ?_)
  rw[StateT.run_pure]
  refine wpAny_bind (wpAny_pure ?_)
  dsimp only
  have ea:(arrOf (SortSt.mk' general' (vs.toArray.zip vs.toArray) #[] 7 none)).map (·.2)=vs.toArray:=by
   show (vs.toArray.zip vs.toArray).map (·.2)=vs.toArray
   apply Array.ext
   ·simp
   ·intro i _ _;simp
  rw[ea]
  refine wpAny_bind (seqEpoch_at o3 rfl ?_)
  refine wpAny_bind (listUpdate_at o3 rfl ?_ (Nat.zero_le _) (Nat.le_succ_of_le small))
  simp only[bne_self_eq_false,Bool.false_eq_true,if_false]
  refine wpAny_pure (last vs (by simpa using small) ?_)
  unfold ordT
  rw[if_pos (by rw[← lens];simpa using h2),← lens,range_self]
 ·rw[if_neg h2,if_neg h2]
  have h2':2≤vs.length:=by rw[List.size_toArray] at h2;omega
  obtain⟨fs,f1,f2,f3⟩:=t3.firsts
  refine wpAny_bind (kat_kind (s:={s with heap:=g3}) (T:=.type "int") f1 (by omega) (fun v hv=>by
   obtain⟨n,tk,rfl⟩:=f3 v hv
   exact Looks.of_pure rfl) (by decide) ?_)
  refine wpAny_bind (wpAny_mono (kat_run (s:={s with heap:=g3}) (ks:=vs) (G:=fun p s'=>p=kRun (fun i j=>HT.lexLt (nss.getD i []) (nss.getD j [])) (kas_sort vs.length)∧s' = {s with heap:=g3}) (Q:=fun st' s'=>(arrOf st').map (·.2)=((ordT nss).map fun i=>vs.getD i Value.none).toArray∧failedOf st'=none∧s' = {s with heap:=g3}) rfl h2' h64
   (fun p st' s' a1 a2 a3 a4=>⟨?_,a3,a4.2⟩) ?_) ?_ fun _ _ e=>e)
  ·rw[kat_snds rfl a2,a4.1]
   unfold ordT
   rw[if_neg (by omega),lens]
  ·exact(sort_in (n:=vs.length) (by omega)).wp (fun i j C hi hj hc=>ask_tups (s:={s with heap:=g3}) t3 i j C hi hj hc) ⟨rfl,rfl⟩
  ·rintro ⟨⟨⟩,st'⟩ s' ⟨b1,b2,rfl⟩
   dsimp only
   rw[b1]
   have sz:((ordT nss).map fun i=>vs.getD i Value.none).toArray.size≤sizeLine:=by
    rw[List.size_toArray,List.length_map,(ordT_perm nss).length_eq,List.length_range,← lens,sizeLine_eq]
    omega
   refine wpAny_bind (seqEpoch_at (s:={s with heap:=g3}) o3 rfl ?_)
   refine wpAny_bind (listUpdate_at (s:={s with heap:=g3}) o3 rfl ?_ (Nat.zero_le _) (Nat.le_succ_of_le sz))
   rw[b2]
   simp only[bne_self_eq_false,Bool.false_eq_true,if_false]
   exact wpAny_pure (last _ (by simpa using sz) rfl)
end
end L2
namespace L2
open PySem PySem.Spec PyProof.Rows PySem.SeqAt PySem.W
section
variable {prog:Program} {w:World} {A:Around} {E:Value→Shared→Prop} {s:Shared}
theorem callSorted_tups {l:Addr} {vs:List Value} {nss:List (List Int)} {Q:Value→Shared→Prop} (hl:s.heap.IsList l vs.toArray) (t:TupsAt s.heap vs nss) (h64:vs.length < 64)
  (fin:∀ h' c,(∀ b o,s.heap.get? b=some o→h'.get? b=some o)→h'.get? (s.heap.objs.size + 1)=some (seqObj "list" ((ordT nss).map fun i=>vs.getD i Value.none).toArray c)→Q (.ref (s.heap.objs.size + 1)) {s with heap:=h'}) :
  wpAny (model prog w) A (call (.builtin "sorted") [.ref l]) Q E s:=by
 refine Calls.call_function_entry kind_sorted plain_sorted entry_sorted (args_sorted1 _) ?_
 unfold Builtin.«sorted»
 refine wpAny_bind (m:=checkCount "sorted" 1 1 _) (wpAny_pure ?_)
 refine wpAny_bind (collect_list hl ?_ (by rw[sizeLine_eq];omega))
 generalize hg:(s.heap.push (seqObj "list" #[] 0)).update s.heap.objs.size (Obj.mapSeq (·++vs.toArray))=g1
 have z1:g1.objs.size=s.heap.objs.size + 1:=by rw[← hg,Heap.size_update,size_push']
 have k1:∀ b o,s.heap.get? b=some o→g1.get? b=some o:=fun b o e=>by
  have lt:=Heap.lt_size e
  rw[← hg,Heap.get?_update_ne _ _ _ _ (Nat.ne_of_lt lt)]
  exact Heap.get?_push_of_some _ e
 refine wpAny_bind (wpAny_newList ?_ (by rw[sizeLine_eq];omega))
 have o2:(g1.push (seqObj "list" vs.toArray 0)).get? (s.heap.objs.size + 1)=some (seqObj "list" vs.toArray 0):=by rw[← z1];exact Heap.get?_push_size _ rfl
 have k2:∀ b o,s.heap.get? b=some o→(g1.push (seqObj "list" vs.toArray 0)).get? b=some o:=fun b o e=>Heap.get?_push_of_some _ (k1 b o e)
 show wpAny _ _ _ _ _ {s with heap:=g1.push (seqObj "list" vs.toArray 0)}
 rw[z1]
 refine wpAny_bind (wpAny_holding (wpAny_call_entry (s:={s with heap:=g1.push (seqObj "list" vs.toArray 0)}) slot_list_sort ⟨_,o2,rfl⟩ entry_list_sort (sortT_body (s:={s with heap:=g1.push (seqObj "list" vs.toArray 0)}) o2 (t.keeps k2) h64 fun h' c kp oc=>⟨_,rfl,?_⟩) (args_list_sort _)))
 exact wpAny_pure ⟨_,rfl,fin h' c (fun b o e=>kp b o (Nat.ne_of_lt (Nat.lt_succ_of_lt (Heap.lt_size e))) (k2 b o e)) oc⟩
end
end L2
namespace L2
open PySem PySem.Spec PyProof.Rows PySem.SeqAt PySem.W
noncomputable def TupsV (K:PySem.W.Frag) (H:Hp):List V→List (List Int)→Prop
 | [],[]=>True
 | x::xs,ns::nss=>(∃ a,x=V.ref a∧SqT K H a (ns.map V.int)∧ns≠[])∧TupsV K H xs nss
 | _,_=>False
section
variable {X:Cx}
theorem TupsAt.of {pins:List (Addr×Obj)} {s:Shared} {σ:St} {H:Hp} (I:Inv X pins σ H s):∀ (xs:List V) (us:List Value) (nss:List (List Int)),Vals xs us→TupsV X.K H xs nss→TupsAt s.heap us nss:=by
 intro xs
 induction xs with
 | nil=>
  intro us nss r h
  cases r
  cases nss with
  | nil=>exact True.intro
  | cons _ _=>exact False.elim h
 | cons x xs ih=>
  intro us nss r h
  cases r with
  | cons r rs=>
   cases nss with
   | nil=>exact False.elim h
   | cons ns nss=>
    obtain⟨⟨a,ex,hq,hn⟩,hs⟩:=h
    subst ex
    cases r
    obtain⟨its,rv,pl,hz⟩:=I.tuple hq
    obtain⟨o,e1,e2,k,e3⟩:=pl
    refine⟨⟨a,o,its.toArray,k,rfl,e1,e2,e3,?_,hn⟩,ih _ nss rs hs⟩
    have:=intsAre_of rv
    simpa using this
end
end L2
namespace L2
open PySem PySem.Spec PyProof.Rows PySem.SeqAt PySem.W
section
variable {X:Cx}
theorem call_sortedT:CallR X (.builtin "sorted") (fun xs H Q=>∃ (p:Addr) (ys:List V) (nss:List (List Int)),xs=[.ref p]∧SqL X.K H p ys∧TupsV X.K H ys nss∧ys.length < 64∧∀ l,H l=none→Q (.ref l) (upd H l (.lst ((ordT nss).map fun i=>ys.getD i .non)))):=by
 intro pins s σ H xs us Q I r h
 obtain⟨p,ys,nss,rfl,hq,ht,h64,q⟩:=h
 obtain⟨u,rfl,rx⟩:=vals1 r
 cases rx
 obtain⟨its,rv,pl,hz⟩:=I.list hq
 have hlen:=rv.length
 have tt:=TupsAt.of I _ _ _ rv ht
 have tl:=tt.length
 refine callSorted_tups pl.isList tt (by omega) fun h' c kp e=>?_
 have rv':∀ is:List Nat,(∀ i ∈ is,i < ys.length)→Vals (is.map fun i=>ys.getD i .non) (is.map fun i=>its.getD i Value.none):=by
  intro is
  induction is with
  | nil=>intro _;exact .nil
  | cons i is ih=>
   intro hi
   have h1:i < ys.length:=hi i (by simp)
   obtain⟨u,e1,r1⟩:=rv.get (List.getElem?_eq_getElem h1)
   refine .cons ?_ (ih fun j hj=>hi j (List.mem_cons_of_mem _ hj))
   show RelV (ys.getD i .non) (its.getD i Value.none)
   rw[List.getD_eq_getElem?_getD,List.getD_eq_getElem?_getD,List.getElem?_eq_getElem h1,e1]
   exact r1
 have hin:∀ i ∈ ordT nss,i < ys.length:=fun i hi=>by
  have:=List.mem_range.mp ((ordT_perm nss).mem_iff.mp hi)
  omega
 have ol:(ordT nss).length=ys.length:=by rw[(ordT_perm nss).length_eq,List.length_range];omega
 exact⟨.ref _,_,I.laid (t':=s.toks) kp (Nat.le_succ _) (show ObjOk X.prog X.w _ h' _ (.lst _) from ⟨by rw[List.length_map,ol];exact hz,_,c,rv' _ hin,e⟩),rfl,q _ (I.hok.fresh (Nat.le_succ _))⟩
end
end L2
namespace L2
open PySem PySem.Spec PyProof.Rows PySem.SeqAt PySem.W
section
variable {X:Cx}
theorem call_sortedI:CallR X (.builtin "sorted") (fun xs H Q=>∃ (p:Addr) (ns:List Int),xs=[.ref p]∧SqL X.K H p (ns.map V.int)∧ns.length < 64∧∀ l,H l=none→Q (.ref l) (upd H l (.lst ((sortI ns).map V.int)))):=by
 intro pins s σ H xs us Q I r h
 obtain⟨p,ns,rfl,hq,h64,q⟩:=h
 obtain⟨u,rfl,rx⟩:=vals1 r
 cases rx
 obtain⟨its,rv,pl,hz⟩:=I.list hq
 have hi:=intsAre_of rv
 have hlen:=rv.length
 rw[List.length_map] at hlen hz
 refine sorted_ints pl.isList hi (by omega) fun out ns' a1 a2 a3=>?_
 obtain⟨c,e⟩:=sortedAll_at s.heap its out
 rw[eq_sortI a2 a3] at a1
 have rv':Vals ((sortI ns).map V.int) out.toList:=by
  generalize sortI ns=ms at a1
  generalize out.toList=vs at a1
  induction a1 with
  | nil=>exact .nil
  | cons n t _ ih=>exact .cons ⟨t,rfl⟩ ih
 exact⟨.ref _,_,I.laid (t':=s.toks) (fun b o=>sortedAll_old) (Nat.le_succ _) (show ObjOk X.prog X.w _ _ _ (.lst _) from ⟨by rw[List.length_map,(sortI_perm ns).length_eq];exact hz,out.toList,c,rv',by simpa using e⟩),rfl,q _ (I.hok.fresh (Nat.le_succ _))⟩
end
end L2
namespace L2
open PySem PySem.Spec PyProof.Rows PySem.SeqAt
open PySem.Builtin PySem.Builtin.Str
section
variable {X:Cx}
theorem pe_ftr1 {x:Str} {e:Expr} {j:Nat} {p q pos:Pos} {t:TE} (hx:x.length≤1000) (h:PE X e t) :
  PE X (.JoinedStr [.Constant (.str x) j p,.FormattedValue e 114 none q] pos) (fun σ H Q=>t σ H fun v H'=>∃ z,v=.str z∧x.length + (reprText z).length≤sizeLine∧Q (.str (x++reprText z)) H'):=by
 intro pins s σ H Q I hq
 have hs:sizeLine=16777216:=sizeLine_eq
 refine JoinedStr_many (joinParts_cons (thn (pe_str (X:=X) (x:=x) (j:=j) (pos:=p) pins s σ H (fun v H'=>v=.str x∧H'=H) I ⟨rfl,rfl⟩) fun v s1 ⟨y,H1,I1,r1,e1,e2⟩=>?_))
 subst e1 e2
 obtain⟨t1,rfl⟩:=r1
 have ex:Str.empty++x=x:=Str.empty_append x
 refine⟨by rw[ex];omega,?_⟩
 rw[ex]
 refine joinParts_cons (wpAny_FormattedValue_repr (thn (h pins s1 σ _ _ I1 hq) fun v s2 ⟨y,H2,I2,r2,z,e2,hz,q2⟩=>?_))
 subst e2
 obtain⟨t2,rfl⟩:=r2
 refine pyReprObj_str ?_ (by omega)
 refine formatField_str (fun t' tk=>⟨by rw[strLen_append];exact hz,?_⟩) (by omega)
 exact joinParts_nil ⟨.str _,H2,(I2.tok _).tok _,⟨_,rfl⟩,q2⟩ (by rw[strLen_append];exact hz)
theorem pe_ftr2 {x w:Str} {e:Expr} {j j':Nat} {p q r pos:Pos} {t:TE} (hx:x.length≤1000) (h:PE X e t) :
  PE X (.JoinedStr [.Constant (.str x) j p,.FormattedValue e 114 none q,.Constant (.str w) j' r] pos) (fun σ H Q=>t σ H fun v H'=>∃ z,v=.str z∧x.length + (reprText z).length + w.length≤sizeLine∧Q (.str (x++reprText z++w)) H'):=by
 intro pins s σ H Q I hq
 have hs:sizeLine=16777216:=sizeLine_eq
 refine JoinedStr_many (joinParts_cons (thn (pe_str (X:=X) (x:=x) (j:=j) (pos:=p) pins s σ H (fun v H'=>v=.str x∧H'=H) I ⟨rfl,rfl⟩) fun v s1 ⟨y,H1,I1,r1,e1,e2⟩=>?_))
 subst e1 e2
 obtain⟨t1,rfl⟩:=r1
 have ex:Str.empty++x=x:=Str.empty_append x
 refine⟨by rw[ex];omega,?_⟩
 rw[ex]
 refine joinParts_cons (wpAny_FormattedValue_repr (thn (h pins s1 σ _ _ I1 hq) fun v s2 ⟨y,H2,I2,r2,z,e2,hz,q2⟩=>?_))
 subst e2
 obtain⟨t2,rfl⟩:=r2
 refine pyReprObj_str ?_ (by omega)
 refine formatField_str (fun t' tk=>⟨by rw[strLen_append];omega,?_⟩) (by omega)
 refine joinParts_cons (thn (pe_str (X:=X) (x:=w) (j:=j') (pos:=r) pins _ σ H2 (fun v H'=>v=.str w∧H'=H2) ((I2.tok _).tok _) ⟨rfl,rfl⟩) fun v s3 ⟨y,H3,I3,r3,e3,e4⟩=>?_)
 subst e3 e4
 obtain⟨t3,rfl⟩:=r3
 refine⟨by rw[strLen_append,strLen_append];omega,?_⟩
 exact joinParts_nil ⟨.str _,_,I3.tok _,⟨_,rfl⟩,q2⟩ (by rw[strLen_append,strLen_append];omega)
theorem vals_strs:∀ l:List (Str×Tok),Vals ((l.map (·.1)).map V.str) (strValues l)
 | []=>.nil
 | p::r=>.cons ⟨p.2,rfl⟩ (vals_strs r)
theorem strs_in {K:PySem.W.Frag} {H:Hp} {a:Addr} {od:Option Addr} {n:Nat} {sl:Array (Option Value)} (l:List (Str×Tok)) (h:K.lookup a=some ⟨.type "tuple",od,.seq (strValues l).toArray n,sl⟩) (hz:l.length≤1000):SqT K H a ((l.map (·.1)).map V.str):=by
 have hs:sizeLine=16777216:=sizeLine_eq
 refine .inr ⟨_,_,_,h,rfl,rfl,?_,vals_strs l⟩
 have e:(strValues l).length=l.length:=by rw[← (vals_strs l).length,List.length_map,List.length_map]
 show (strValues l).toArray.size≤sizeLine
 rw[List.size_toArray]
 omega
end
end L2
namespace L2.Zp
open PySem
inductive Kq where
 | l | t
noncomputable def Sq (k:Kq) (h:Heap) (a:Addr) (xs:Array Value):Prop:=match k with
 | .l=>h.IsList a xs
 | .t=>h.IsTuple a xs
noncomputable def It (k:Kq) (h:Heap) (i a:Addr) (n:Nat):Prop:=match k with
 | .l=>h.IsListIter i a n
 | .t=>h.IsTupleIter i a n
theorem Sq.to {k:Kq} {h h':Heap} {a:Addr} {xs:Array Value} (q:Sq k h a xs) (e:∀ o,h.get? a=some o→h'.get? a=some o):Sq k h' a xs:=by
 cases k with
 | l=>obtain⟨o,ho,r⟩:=q;exact⟨o,e o ho,r⟩
 | t=>obtain⟨o,ho,r⟩:=q;exact⟨o,e o ho,r⟩
theorem It.to {k:Kq} {h h':Heap} {i a:Addr} {n:Nat} (q:It k h i a n) (e:∀ o,h.get? i=some o→h'.get? i=some o):It k h' i a n:=by
 cases k with
 | l=>obtain⟨o,ho,r⟩:=q;exact⟨o,e o ho,r⟩
 | t=>obtain⟨o,ho,r⟩:=q;exact⟨o,e o ho,r⟩
theorem It.lt {k:Kq} {h:Heap} {i a:Addr} {n:Nat} (q:It k h i a n):i < h.objs.size:=by
 cases k with
 | l=>obtain⟨o,ho,_⟩:=q;exact Heap.lt_size ho
 | t=>obtain⟨o,ho,_⟩:=q;exact Heap.lt_size ho
section
variable {prog:Program} {w:World} {A:Around} {E:Value→Shared→Prop} {s:Shared}
theorem tup_item {i a:Addr} {n:Nat} {xs:Array Value} {x:Value} {Q:Value→Shared→Prop} (c:s.heap.IsTupleIter i a n) (q:s.heap.IsTuple a xs) (hx:xs[n]? = some x)
  (k:∀ h',h'.IsTupleIter i a (n + 1)→Heap.SameBut i s.heap h'→Q x {s with heap:=h'}):wpAny (model prog w) A (Builtin.SmallTypes.nextOf (.ref i)) Q E s:=by
 have ty:=c.typeIs
 obtain⟨oi,gi,ci,di⟩:=c
 obtain⟨oa,ga,_,na,da⟩:=q
 unfold Builtin.SmallTypes.nextOf
 refine wpAny_bind (wpAny_callSpecial?_slot (name:=Str.ofString "__next__") ty F.slot_tuple_iterator_next (wpAny_call_entry F.slot_tuple_iterator_next ty F.entry_tuple_iterator_next ?_ (F.args_tuple_iterator_next_1 _)))
 show wpAny _ _ (field (.ref i) 0 >>= _) _ _ s
 refine wpAny_bind (wpAny_field gi di (x:=.ref a) rfl ?_)
 show wpAny _ _ (if (Value.ref a == Value.none)=true then _ else _) _ _ s
 rw[if_neg (by intro z;cases z)]
 show wpAny _ _ (field (.ref i) 1 >>= _) _ _ s
 refine wpAny_bind (wpAny_field gi di (x:=.int n 0) rfl ?_)
 show wpAny _ _ (seqItems? (.ref a) >>= _) _ _ s
 refine wpAny_bind (wpAny_seqItems ga da ?_)
 simp only[Int.toNat_natCast,hx]
 refine wpAny_bind (wpAny_setField gi di (by simp) (wpAny_pure ⟨x,rfl,wpAny_pure (k _ ⟨_,Heap.get?_update_self _ gi (Obj.isFreed_of_fields (Obj.data_mapFields di _)),(Obj.cls_mapFields ..).trans ci,?_⟩ (Heap.SameBut.update ..))⟩))
 rw[Obj.data_mapFields di]
 simp[rawInt]
theorem tup_end {i a:Addr} {n:Nat} {xs:Array Value} {Q:Value→Shared→Prop} (hh:A.handled=none) (c:s.heap.IsTupleIter i a n) (q:s.heap.IsTuple a xs) (hx:xs[n]? = none)
  (k:∀ h' e,Heap.ExtBut i s.heap h'→(∃ o,h'.get? e=some o∧o.cls=.type "StopIteration")→E (.ref e) {s with heap:=h'}):wpAny (model prog w) A (Builtin.SmallTypes.nextOf (.ref i)) Q E s:=by
 have ty:=c.typeIs
 obtain⟨oi,gi,ci,di⟩:=c
 obtain⟨oa,ga,_,na,da⟩:=q
 unfold Builtin.SmallTypes.nextOf
 refine wpAny_bind (wpAny_callSpecial?_slot (name:=Str.ofString "__next__") ty F.slot_tuple_iterator_next (wpAny_call_entry F.slot_tuple_iterator_next ty F.entry_tuple_iterator_next ?_ (F.args_tuple_iterator_next_1 _)))
 show wpAny _ _ (field (.ref i) 0 >>= _) _ _ s
 refine wpAny_bind (wpAny_field gi di (x:=.ref a) rfl ?_)
 show wpAny _ _ (if (Value.ref a == Value.none)=true then _ else _) _ _ s
 rw[if_neg (by intro z;cases z)]
 show wpAny _ _ (field (.ref i) 1 >>= _) _ _ s
 refine wpAny_bind (wpAny_field gi di (x:=.int n 0) rfl ?_)
 show wpAny _ _ (seqItems? (.ref a) >>= _) _ _ s
 refine wpAny_bind (wpAny_seqItems ga da ?_)
 simp only[Int.toNat_natCast,hx]
 refine wpAny_bind (wpAny_rule (wpAny_bind (wpAny_setField gi di (by simp) (wpAny_bind ?_))))
 simp only[newExc,newTuple]
 refine wpAny_bind (wpAny_newObj_type (wpAny_bind (m:=firstArgMember _ _) (wpAny_of_eq (a:=Value.none) (by first | rfl | (simp only[firstArgMember];rfl)) (wpAny_newObj_type ?_ (by size_fits)))) (by size_fits))
 simp only[raiseNew]
 refine wpAny_bind (wpAny_handled ?_)
 first | rw[show A.in1.handled=none from hh] | rw[hh]
 exact wpAny_bind (wpAny_pure (wpAny_throw (k _ _ (((Heap.SameBut.update ..).extBut.push _).push _) ⟨_,Heap.get?_push_size _ rfl,rfl⟩)))
theorem nx_item {k:Kq} {i a:Addr} {n:Nat} {xs:Array Value} {x:Value} {Q:Value→Shared→Prop} (c:It k s.heap i a n) (q:Sq k s.heap a xs) (hx:xs[n]? = some x)
  (f:∀ h',It k h' i a (n + 1)→Heap.SameBut i s.heap h'→Q x {s with heap:=h'}):wpAny (model prog w) A (Builtin.SmallTypes.nextOf (.ref i)) Q E s:=by
 cases k with
 | l=>exact wpAny_nextOf_list_item c q hx f
 | t=>exact tup_item c q hx f
theorem nx_end {k:Kq} {i a:Addr} {n:Nat} {xs:Array Value} {Q:Value→Shared→Prop} (hh:A.handled=none) (c:It k s.heap i a n) (q:Sq k s.heap a xs) (hx:xs[n]? = none)
  (f:∀ h' e,Heap.ExtBut i s.heap h'→(∃ o,h'.get? e=some o∧o.cls=.type "StopIteration")→E (.ref e) {s with heap:=h'}):wpAny (model prog w) A (Builtin.SmallTypes.nextOf (.ref i)) Q E s:=by
 cases k with
 | l=>exact wpAny_nextOf_list_end hh c q hx f
 | t=>exact tup_end hh c q hx f
end
end L2.Zp
namespace L2.Zp
open PySem
section
variable {prog:Program} {w:World} {A:Around} {E:Value→Shared→Prop} {s:Shared}
noncomputable def Kept (z TO i j:Addr) (h h':Heap):Prop:=∀ c o,c≠z→c≠TO→c≠i→c≠j→h.get? c=some o→h'.get? c=some o
theorem next_some {p q:Kq} {z TI TO i j l m:Addr} {n n':Nat} {xs ys:Array Value} {x y a b:Value} {Q:Value→Shared→Prop} (D:ZipApart z TI TO i j l m) (hz:IsZip s.heap z TI TO .none) (hI:IsPair s.heap TI (.ref i) (.ref j)) (hO:IsPair s.heap TO a b)
  (ci:It p s.heap i l n) (cj:It q s.heap j m n') (sl:Sq p s.heap l xs) (sm:Sq q s.heap m ys) (hx:xs[n]? = some x) (hy:ys[n']? = some y)
  (k:∀ h',IsZip h' z TI TO (rawInt s.heap.objs.size)→IsPair h' TO x y→It p h' i l (n + 1)→It q h' j m (n' + 1)→IsPair h' s.heap.objs.size x y→h'.objs.size=s.heap.objs.size + 1→Kept z TO i j s.heap h'→Q (.ref s.heap.objs.size) {s with heap:=h'}) :
  wpAny (model prog w) A (Builtin.«zip.__next__» ⟨[.ref z],[]⟩) (fun fin s'=>∃ v,fin=.done (.ret v)∧Q v s') E s:=by
 show wpAny _ _ (field (.ref z) 2 >>= _) _ _ _
 refine wpAny_bind (wpAny_field hz rfl (x:=.bool false) rfl ?_)
 show wpAny _ _ (field (.ref z) 3 >>= _) _ _ _
 refine wpAny_bind (wpAny_field hz rfl (x:=.ref TI) rfl (wpAny_bind (wpAny_seqItems hI rfl ?_)))
 show wpAny _ _ (Builtin.SmallTypes.ownedTupleIsFree (.ref z) >>= _) _ _ _
 refine wpAny_bind ?_
 unfold Builtin.SmallTypes.ownedTupleIsFree
 refine wpAny_bind (wpAny_field hz rfl (x:=.none) rfl (wpAny_pure ?_))
 simp only[if_true]
 refine wpAny_bind (wpAny_rule (wpAny_bind (wpAny_field hz rfl (x:=.ref TO) rfl (wpAny_bind (wpAny_setField_rec hz (by simp) fun h1 z1 e1=>?_)))))
 have z1':IsZip h1 z TI TO .ellipsis:=z1
 refine wpAny_bind ?_
 simp only[List.zipIdx_cons,List.zipIdx_nil,List.forIn_cons,List.forIn_nil]
 refine wpAny_bind (wpAny_bind (wpAny_onRaise ?_))
 show wpAny _ _ (Builtin.SmallTypes.nextOf (.ref i) >>= _) _ _ _
 refine wpAny_bind (nx_item (ci.to fun o e=>e1.extBut _ _ D.i1z e) (sl.to fun o e=>e1.extBut _ _ D.l1z e) hx fun h2 ci2 e2=>wpAny_pure ?_)
 have O2:IsPair h2 TO a b:=e2.extBut _ _ D.TOi1 (e1.extBut _ _ D.TOz hO)
 refine wpAny_bind (wpAny_seqItems O2 rfl (wpAny_bind (wpAny_updateSeq_pair O2 fun h3 O3 e3=>?_)))
 have O3':IsPair h3 TO x b:=O3
 refine wpAny_bind (wpAny_letGo (wpAny_pure (wpAny_bind (wpAny_bind (wpAny_onRaise ?_)))))
 show wpAny _ _ (Builtin.SmallTypes.nextOf (.ref j) >>= _) _ _ _
 refine wpAny_bind (nx_item (cj.to fun o e=>e3.extBut _ _ D.TOi2.symm (e2.extBut _ _ D.i12.symm (e1.extBut _ _ D.i2z e))) (sm.to fun o e=>e3.extBut _ _ D.l2TO (e2.extBut _ _ D.l2i1 (e1.extBut _ _ D.l2z e))) hy fun h4 cj4 e4=>wpAny_pure ?_)
 have O4:IsPair h4 TO x b:=e4.extBut _ _ D.TOi2 O3'
 refine wpAny_bind (wpAny_seqItems O4 rfl (wpAny_bind (wpAny_updateSeq_pair O4 fun h5 O5 e5=>?_)))
 have O5':IsPair h5 TO x y:=O5
 refine wpAny_bind (wpAny_letGo (wpAny_pure (wpAny_pure (wpAny_bind (wpAny_seqItems O5' rfl (wpAny_bind (wpAny_newTuple ?_)))))))
 have sz:h5.objs.size=s.heap.objs.size:=by rw[e5.1,e4.1,e3.1,e2.1,e1.1]
 have z5:IsZip h5 z TI TO .ellipsis:=e5.extBut _ _ D.TOz.symm (e4.extBut _ _ D.i2z.symm (e3.extBut _ _ D.TOz.symm (e2.extBut _ _ D.i1z.symm z1')))
 have k5:Kept z TO i j s.heap h5:=fun c o c1 c2 c3 c4 e=>e5.extBut _ _ c2 (e4.extBut _ _ c4 (e3.extBut _ _ c2 (e2.extBut _ _ c3 (e1.extBut _ _ c1 e))))
 have ci5:It p h5 i l (n + 1):=ci2.to fun o e=>e5.extBut _ _ D.TOi1.symm (e4.extBut _ _ D.i12 (e3.extBut _ _ D.TOi1.symm e))
 have cj5:It q h5 j m (n' + 1):=cj4.to fun o e=>e5.extBut _ _ D.TOi2.symm e
 have lz:z < h5.objs.size:=Heap.lt_size z5
 show wpAny _ _ (Builtin.SmallTypes.ownedTupleHandOut (.ref z) (.ref h5.objs.size) >>= _) _ _ _
 refine wpAny_bind ?_
 unfold Builtin.SmallTypes.ownedTupleHandOut
 have z6:IsZip (h5.push {cls:=.type "tuple",data:=.seq #[x,y]}) z TI TO .ellipsis:=Heap.get?_push_of_some _ z5
 refine wpAny_bind (wpAny_setField_rec z6 (by simp) fun h7 z7 e7=>wpAny_setField_rec (show IsZip h7 z TI TO (rawInt h5.objs.size) from z7) (by simp) fun h8 z8 e8=>?_)
 have z8':IsZip h8 z TI TO (rawInt h5.objs.size):=z8
 have up:∀ c o,c≠z→h5.get? c=some o→h8.get? c=some o:=fun c o c1 e=>e8.extBut _ _ c1 (e7.extBut _ _ c1 (Heap.get?_push_of_some _ e))
 have t8:IsPair h8 h5.objs.size x y:=e8.extBut _ _ (Nat.ne_of_gt lz) (e7.extBut _ _ (Nat.ne_of_gt lz) (Heap.get?_push_size _ rfl))
 have s8:h8.objs.size=h5.objs.size + 1:=by rw[e8.1,e7.1,Heap.size_push]
 rw[sz] at z8' t8 s8
 refine wpAny_pure ⟨_,rfl,?_⟩
 show Q (.ref h5.objs.size) _
 rw[sz]
 exact k h8 z8' (up _ _ D.TOz O5') (ci5.to fun o e=>up _ o D.i1z e) (cj5.to fun o e=>up _ o D.i2z e) t8 s8 fun c o c1 c2 c3 c4 e=>up c o c1 (k5 c o c1 c2 c3 c4 e)
theorem next_none {p q:Kq} {z TI TO i j l m:Addr} {n n':Nat} {xs ys:Array Value} {a b:Value} {Q:PySem.Fin→Shared→Prop} (hh:A.handled=none) (D:ZipApart z TI TO i j l m) (hz:IsZip s.heap z TI TO .none) (hI:IsPair s.heap TI (.ref i) (.ref j)) (hO:IsPair s.heap TO a b)
  (ci:It p s.heap i l n) (cj:It q s.heap j m n') (sl:Sq p s.heap l xs) (sm:Sq q s.heap m ys) (hend:xs[n]? = none∨ys[n']? = none)
  (k:∀ h' e,Kept z TO i j s.heap h'→(∃ o,h'.get? e=some o∧o.cls=.type "StopIteration")→E (.ref e) {s with heap:=h'}) :
  wpAny (model prog w) A (Builtin.«zip.__next__» ⟨[.ref z],[]⟩) Q E s:=by
 show wpAny _ _ (field (.ref z) 2 >>= _) _ _ _
 refine wpAny_bind (wpAny_field hz rfl (x:=.bool false) rfl ?_)
 show wpAny _ _ (field (.ref z) 3 >>= _) _ _ _
 refine wpAny_bind (wpAny_field hz rfl (x:=.ref TI) rfl (wpAny_bind (wpAny_seqItems hI rfl ?_)))
 show wpAny _ _ (Builtin.SmallTypes.ownedTupleIsFree (.ref z) >>= _) _ _ _
 refine wpAny_bind ?_
 unfold Builtin.SmallTypes.ownedTupleIsFree
 refine wpAny_bind (wpAny_field hz rfl (x:=.none) rfl (wpAny_pure ?_))
 simp only[if_true]
 refine wpAny_bind (wpAny_rule (wpAny_bind (wpAny_field hz rfl (x:=.ref TO) rfl (wpAny_bind (wpAny_setField_rec hz (by simp) fun h1 z1 e1=>?_)))))
 have z1':IsZip h1 z TI TO .ellipsis:=z1
 refine wpAny_bind ?_
 simp only[List.zipIdx_cons,List.zipIdx_nil,List.forIn_cons,List.forIn_nil]
 refine wpAny_bind (wpAny_bind (wpAny_onRaise ?_))
 show wpAny _ _ (Builtin.SmallTypes.nextOf (.ref i) >>= _) _ _ _
 cases hx:xs[n]? with
 | none=>
  refine wpAny_bind (nx_end hh (ci.to fun o e=>e1.extBut _ _ D.i1z e) (sl.to fun o e=>e1.extBut _ _ D.l1z e) hx fun h2 e e2 he=>?_)
  obtain⟨oe,g,c⟩:=he
  have z2:IsZip h2 z TI TO .ellipsis:=e2 _ _ D.i1z.symm z1'
  have ne:e≠z:=fun v=>by rw[v,z2] at g;cases g;simp at c
  exact wpAny_setField_rec z2 (by simp) fun h3 _ e3=>k h3 e (fun d o c1 _ c3 _ v=>e3.extBut _ _ c1 (e2 _ _ c3 (e1.extBut _ _ c1 v))) ⟨oe,e3.extBut _ _ ne g,c⟩
 | some x=>
  have hy:ys[n']? = none:=by
   rcases hend with v | v
   ·rw[hx] at v;cases v
   ·exact v
  refine wpAny_bind (nx_item (ci.to fun o e=>e1.extBut _ _ D.i1z e) (sl.to fun o e=>e1.extBut _ _ D.l1z e) hx fun h2 ci2 e2=>wpAny_pure ?_)
  have O2:IsPair h2 TO a b:=e2.extBut _ _ D.TOi1 (e1.extBut _ _ D.TOz hO)
  refine wpAny_bind (wpAny_seqItems O2 rfl (wpAny_bind (wpAny_updateSeq_pair O2 fun h3 O3 e3=>wpAny_bind (wpAny_letGo (wpAny_pure (wpAny_bind (wpAny_bind (wpAny_onRaise ?_))))))))
  show wpAny _ _ (Builtin.SmallTypes.nextOf (.ref j) >>= _) _ _ _
  refine wpAny_bind (nx_end hh (cj.to fun o e=>e3.extBut _ _ D.TOi2.symm (e2.extBut _ _ D.i12.symm (e1.extBut _ _ D.i2z e))) (sm.to fun o e=>e3.extBut _ _ D.l2TO (e2.extBut _ _ D.l2i1 (e1.extBut _ _ D.l2z e))) hy fun h4 e e4 he=>?_)
  obtain⟨oe,g,c⟩:=he
  have z4:IsZip h4 z TI TO .ellipsis:=e4 _ _ D.i2z.symm (e3.extBut _ _ D.TOz.symm (e2.extBut _ _ D.i1z.symm z1'))
  have ne:e≠z:=fun v=>by rw[v,z4] at g;cases g;simp at c
  exact wpAny_setField_rec z4 (by simp) fun h5 _ e5=>k h5 e (fun d o c1 c2 c3 c4 v=>e5.extBut _ _ c1 (e4 _ _ c4 (e3.extBut _ _ c2 (e2.extBut _ _ c3 (e1.extBut _ _ c1 v))))) ⟨oe,e5.extBut _ _ ne g,c⟩
end
end L2.Zp
namespace L2.Zp
open PySem
noncomputable def itO:Kq→Addr→Obj
 | .l,a=>{cls:=.type "list_iterator",data:=.fields #[.ref a,.int 0 0]}
 | .t,a=>{cls:=.type "tuple_iterator",data:=.fields #[.ref a,.int 0 0]}
noncomputable def Hi (p:Kq) (h:Heap) (l:Addr):Heap:=h.push (itO p l)
noncomputable def Hj (p q:Kq) (h:Heap) (l m:Addr):Heap:=(Hi p h l).push (itO q m)
noncomputable def HI (p q:Kq) (h:Heap) (l m:Addr):Heap:=(Hj p q h l m).push {cls:=.type "tuple",data:=.seq #[.ref h.objs.size,.ref (Hi p h l).objs.size]}
noncomputable def HO (p q:Kq) (h:Heap) (l m:Addr):Heap:=(HI p q h l m).push {cls:=.type "tuple",data:=.seq #[.none,.none]}
noncomputable def HZ (p q:Kq) (h:Heap) (l m:Addr):Heap:=(HO p q h l m).push {cls:=.type "zip",data:=.fields #[.none,.bool false,.bool false,.ref (Hj p q h l m).objs.size,.ref (HI p q h l m).objs.size]}
theorem new_ll (l m:Addr) (xs ys:Array Value):Meets (Builtin.«zip.__new__» ⟨[.type "zip",.ref l,.ref m],[]⟩) (fun _ R s=>Sq .l s.heap l xs∧Sq .l s.heap m ys∧R (.ok (.ret (.ref (HO .l .l s.heap l m).objs.size))) {s with heap:=HZ .l .l s.heap l m}):=
 .of_wp fun prog w A R s h=>by
  obtain⟨hp,g,d,tk,os⟩:=s
  obtain⟨q1,q2,h⟩:=h
  have sub:=sub_zip
  have a1:Heap.IsList (Shared.heap ⟨hp,g,d,tk,os⟩) l xs:=q1
  have a2:Heap.IsList (Shared.heap ⟨hp.push {cls:=.type "list_iterator",data:=.fields #[.ref l,.int 0 0]},g,d,tk,os⟩) m ys:=Heap.IsList.push (show hp.IsList m ys from q2) _
  wp_walk using wpAny_pyIter_list a1,wpAny_pyIter_list a2
  exact⟨_,rfl,h⟩
theorem new_lt (l m:Addr) (xs ys:Array Value):Meets (Builtin.«zip.__new__» ⟨[.type "zip",.ref l,.ref m],[]⟩) (fun _ R s=>Sq .l s.heap l xs∧Sq .t s.heap m ys∧R (.ok (.ret (.ref (HO .l .t s.heap l m).objs.size))) {s with heap:=HZ .l .t s.heap l m}):=
 .of_wp fun prog w A R s h=>by
  obtain⟨hp,g,d,tk,os⟩:=s
  obtain⟨q1,q2,h⟩:=h
  have sub:=sub_zip
  have a1:Heap.IsList (Shared.heap ⟨hp,g,d,tk,os⟩) l xs:=q1
  have a2:Heap.IsTuple (Shared.heap ⟨hp.push {cls:=.type "list_iterator",data:=.fields #[.ref l,.int 0 0]},g,d,tk,os⟩) m ys:=Heap.IsTuple.push (show hp.IsTuple m ys from q2) _
  wp_walk using wpAny_pyIter_list a1,wpAny_pyIter_tuple a2
  exact⟨_,rfl,h⟩
theorem new_tl (l m:Addr) (xs ys:Array Value):Meets (Builtin.«zip.__new__» ⟨[.type "zip",.ref l,.ref m],[]⟩) (fun _ R s=>Sq .t s.heap l xs∧Sq .l s.heap m ys∧R (.ok (.ret (.ref (HO .t .l s.heap l m).objs.size))) {s with heap:=HZ .t .l s.heap l m}):=
 .of_wp fun prog w A R s h=>by
  obtain⟨hp,g,d,tk,os⟩:=s
  obtain⟨q1,q2,h⟩:=h
  have sub:=sub_zip
  have a1:Heap.IsTuple (Shared.heap ⟨hp,g,d,tk,os⟩) l xs:=q1
  have a2:Heap.IsList (Shared.heap ⟨hp.push {cls:=.type "tuple_iterator",data:=.fields #[.ref l,.int 0 0]},g,d,tk,os⟩) m ys:=Heap.IsList.push (show hp.IsList m ys from q2) _
  wp_walk using wpAny_pyIter_tuple a1,wpAny_pyIter_list a2
  exact⟨_,rfl,h⟩
theorem new_tt (l m:Addr) (xs ys:Array Value):Meets (Builtin.«zip.__new__» ⟨[.type "zip",.ref l,.ref m],[]⟩) (fun _ R s=>Sq .t s.heap l xs∧Sq .t s.heap m ys∧R (.ok (.ret (.ref (HO .t .t s.heap l m).objs.size))) {s with heap:=HZ .t .t s.heap l m}):=
 .of_wp fun prog w A R s h=>by
  obtain⟨hp,g,d,tk,os⟩:=s
  obtain⟨q1,q2,h⟩:=h
  have sub:=sub_zip
  have a1:Heap.IsTuple (Shared.heap ⟨hp,g,d,tk,os⟩) l xs:=q1
  have a2:Heap.IsTuple (Shared.heap ⟨hp.push {cls:=.type "tuple_iterator",data:=.fields #[.ref l,.int 0 0]},g,d,tk,os⟩) m ys:=Heap.IsTuple.push (show hp.IsTuple m ys from q2) _
  wp_walk using wpAny_pyIter_tuple a1,wpAny_pyIter_tuple a2
  exact⟨_,rfl,h⟩
theorem new_pq (p q:Kq) (l m:Addr) (xs ys:Array Value):Meets (Builtin.«zip.__new__» ⟨[.type "zip",.ref l,.ref m],[]⟩) (fun _ R s=>Sq p s.heap l xs∧Sq q s.heap m ys∧R (.ok (.ret (.ref (HO p q s.heap l m).objs.size))) {s with heap:=HZ p q s.heap l m}):=by
 cases p<;>cases q
 ·exact new_ll l m xs ys
 ·exact new_lt l m xs ys
 ·exact new_tl l m xs ys
 ·exact new_tt l m xs ys
theorem it_new {k:Kq} {h h':Heap} {i a:Addr} (e:h'.get? i=some (itO k a)):It k h' i a 0:=by
 cases k with
 | l=>exact⟨_,e,rfl,rfl⟩
 | t=>exact⟨_,e,rfl,rfl⟩
theorem itO_free (k:Kq) (a:Addr):(itO k a).isFreed=false:=by cases k<;>rfl
section
variable {prog:Program} {w:World} {A:Around} {E:Value→Shared→Prop} {s:Shared}
theorem call_zip {p q:Kq} {l m:Addr} {xs ys:Array Value} {Q:Value→Shared→Prop} (h1:Sq p s.heap l xs) (h2:Sq q s.heap m ys)
  (k:∀ h',IsZip h' (s.heap.objs.size + 4) (s.heap.objs.size + 2) (s.heap.objs.size + 3) .none→IsPair h' (s.heap.objs.size + 2) (.ref s.heap.objs.size) (.ref (s.heap.objs.size + 1))→IsPair h' (s.heap.objs.size + 3) .none .none→
   It p h' s.heap.objs.size l 0→It q h' (s.heap.objs.size + 1) m 0→h'.objs.size=s.heap.objs.size + 5→(∀ c o,s.heap.get? c=some o→h'.get? c=some o)→Q (.ref (s.heap.objs.size + 4)) {s with heap:=h'}) :
  wpAny (model prog w) A (call (.type "zip") [.ref l,.ref m]) Q E s:=by
 refine callType_new F.called_zip (by decide) (F.typeCall_zip_2 _ _) (F.newCall_zip_2 _ _) (fun obj=>F.args_object_init_3 obj _ _) F.entry_zip_new (new_pq p q l m xs ys) ⟨h1,h2,?_⟩
 have n1:(Hi p s.heap l).objs.size=s.heap.objs.size + 1:=Heap.size_push ..
 have n2:(Hj p q s.heap l m).objs.size=s.heap.objs.size + 2:=(Heap.size_push ..).trans (by rw[n1])
 have n3:(HI p q s.heap l m).objs.size=s.heap.objs.size + 3:=(Heap.size_push ..).trans (by rw[n2])
 have n4:(HO p q s.heap l m).objs.size=s.heap.objs.size + 4:=(Heap.size_push ..).trans (by rw[n3])
 have n5:(HZ p q s.heap l m).objs.size=s.heap.objs.size + 5:=(Heap.size_push ..).trans (by rw[n4])
 have upZ:∀ c o,(HO p q s.heap l m).get? c=some o→(HZ p q s.heap l m).get? c=some o:=fun c o e=>Heap.get?_push_of_some _ e
 have upO:∀ c o,(HI p q s.heap l m).get? c=some o→(HZ p q s.heap l m).get? c=some o:=fun c o e=>upZ c o (Heap.get?_push_of_some _ e)
 have upI:∀ c o,(Hj p q s.heap l m).get? c=some o→(HZ p q s.heap l m).get? c=some o:=fun c o e=>upO c o (Heap.get?_push_of_some _ e)
 have upJ:∀ c o,(Hi p s.heap l).get? c=some o→(HZ p q s.heap l m).get? c=some o:=fun c o e=>upI c o (Heap.get?_push_of_some _ e)
 have g5:(HZ p q s.heap l m).get? (HO p q s.heap l m).objs.size=some _:=Heap.get?_push_size _ rfl
 have g4:(HZ p q s.heap l m).get? (HI p q s.heap l m).objs.size=some {cls:=.type "tuple",data:=.seq #[.none,.none]}:=upZ _ _ (Heap.get?_push_size _ rfl)
 have g3:(HZ p q s.heap l m).get? (Hj p q s.heap l m).objs.size=some {cls:=.type "tuple",data:=.seq #[.ref s.heap.objs.size,.ref (Hi p s.heap l).objs.size]}:=upO _ _ (Heap.get?_push_size _ rfl)
 have g2:(HZ p q s.heap l m).get? (Hi p s.heap l).objs.size=some (itO q m):=upI _ _ (Heap.get?_push_size _ (itO_free q m))
 have g1:(HZ p q s.heap l m).get? s.heap.objs.size=some (itO p l):=upJ _ _ (Heap.get?_push_size _ (itO_free p l))
 rw[n2,n3,n4] at g5
 rw[n3] at g4
 rw[n1,n2] at g3
 rw[n1] at g2
 show _∧_
 rw[n4]
 exact⟨⟨_,g5,rfl⟩,k _ g5 g3 g4 (it_new (h:=s.heap) g1) (it_new (h:=s.heap) g2) n5 fun c o e=>upJ c o (Heap.get?_push_of_some _ e)⟩
end
end L2.Zp
namespace L2.Zp
open PySem
section
variable {prog:Program} {w:World} {A:Around} {E:Value→Shared→Prop} {s:Shared}
theorem py_some {p q:Kq} {z TI TO i j l m:Addr} {n n':Nat} {xs ys:Array Value} {x y a b:Value} {Q:Option Value→Shared→Prop} (D:ZipApart z TI TO i j l m) (hz:IsZip s.heap z TI TO .none) (hI:IsPair s.heap TI (.ref i) (.ref j)) (hO:IsPair s.heap TO a b)
  (ci:It p s.heap i l n) (cj:It q s.heap j m n') (sl:Sq p s.heap l xs) (sm:Sq q s.heap m ys) (hx:xs[n]? = some x) (hy:ys[n']? = some y)
  (k:∀ h',IsZip h' z TI TO (rawInt s.heap.objs.size)→IsPair h' TO x y→It p h' i l (n + 1)→It q h' j m (n' + 1)→IsPair h' s.heap.objs.size x y→h'.objs.size=s.heap.objs.size + 1→Kept z TO i j s.heap h'→Q (some (.ref s.heap.objs.size)) {s with heap:=h'}) :
  wpAny (model prog w) A (pyNext (.ref z)) Q E s:=by
 have ty:s.TypeIs (.ref z) "zip":=⟨_,hz,rfl⟩
 unfold pyNext
 refine wpAny_bind (wpAny_attempt (wpAny_callSpecial?_slot (name:=Str.ofString "__next__") ty F.slot_zip_next (wpAny_call_entry F.slot_zip_next ty F.entry_zip_next ?_ (F.args_zip_next_1 _))))
 exact next_some D hz hI hO ci cj sl sm hx hy fun h' a1 a2 a3 a4 a5 a6 a7=>wpAny_pure (k h' a1 a2 a3 a4 a5 a6 a7)
theorem py_none {p q:Kq} {z TI TO i j l m:Addr} {n n':Nat} {xs ys:Array Value} {a b:Value} {Q:Option Value→Shared→Prop} (hh:A.handled=none) (D:ZipApart z TI TO i j l m) (hz:IsZip s.heap z TI TO .none) (hI:IsPair s.heap TI (.ref i) (.ref j)) (hO:IsPair s.heap TO a b)
  (ci:It p s.heap i l n) (cj:It q s.heap j m n') (sl:Sq p s.heap l xs) (sm:Sq q s.heap m ys) (hend:xs[n]? = none∨ys[n']? = none)
  (k:∀ h',Kept z TO i j s.heap h'→Q none {s with heap:=h'}):wpAny (model prog w) A (pyNext (.ref z)) Q E s:=by
 have ty:s.TypeIs (.ref z) "zip":=⟨_,hz,rfl⟩
 unfold pyNext
 refine wpAny_bind (wpAny_attempt (wpAny_callSpecial?_slot (name:=Str.ofString "__next__") ty F.slot_zip_next (wpAny_call_entry F.slot_zip_next ty F.entry_zip_next (next_none hh D hz hI hO ci cj sl sm hend fun h' e hk he=>?_) (F.args_zip_next_1 _))))
 obtain⟨o,g,c⟩:=he
 exact wpAny_bind (wpAny_isInstance (T:="StopIteration") (b:=true) ⟨o,g,c⟩ isSubtype_stop (wpAny_pure (k _ hk)))
end
end L2.Zp
namespace L2
open PySem PySem.Spec PyProof.Rows
noncomputable def SqK (K:PySem.W.Frag) (H:Hp) (k:Zp.Kq) (a:Addr) (xs:List V):Prop:=match k with
 | .l=>SqL K H a xs
 | .t=>SqT K H a xs
section
variable {X:Cx} {pins:List (Addr×Obj)} {σ:St} {H:Hp} {s:Shared} {h':Heap} {k:Zp.Kq} {a:Addr} {xs ys:List V}
theorem Inv.sqk (I:Inv X pins σ H s) (h:SqK X.K H k a xs):∃ its:List Value,Vals xs its∧Zp.Sq k s.heap a its.toArray:=by
 cases k with
 | l=>obtain⟨its,rv,p,hz⟩:=I.list h;exact⟨its,rv,p.isList⟩
 | t=>obtain⟨its,rv,p,hz⟩:=I.tuple h;exact⟨its,rv,p⟩
theorem Inv.sqk_inj (I:Inv X pins σ H s) (h:SqK X.K H k a xs) (h':SqK X.K H k a ys):xs=ys:=by
 cases k with
 | l=>exact I.list_inj h h'
 | t=>exact I.tuple_inj h h'
theorem Inv.turns {t':Nat} {ch:List Addr} (I:Inv X pins σ H s) (k:∀ b o,b ∉ ch→s.heap.get? b=some o→h'.get? b=some o) (hf:∀ b ∈ ch,FpOk X pins H b):Inv X pins σ H {s with heap:=h',toks:=t'}:=by
 have nit:∀ b u,H b=some u→b ∉ ch:=fun b u e z=>by rw[(hf b z).1] at e;cases e
 refine I.step (g':=s.gens) (d':=s.drawn) (ch:=ch) (fun b hb=>?_) (fun b o _ _ hc e _=>k b o hc e) (fun b o _ _ hc e _=>⟨o.slots,k b o hc e⟩) (fun _ _ _ _ n=>n)
  (fun b o hc e=>⟨o,k b o hc e⟩) (fun _ _ e=>e) (fun _ _ _ e=>e) (fun b ps e=>⟨#[],by rw[e];simp⟩) (fun m hm=>?_) (fun b u e=>?_) I.bare
 ·obtain⟨f0,f1,f2,f3,f4,f5⟩:=hf b hb
  exact⟨f3,f1,f4,f5⟩
 ·obtain⟨o,es,ep,ho,r⟩:=hm
  exact⟨o,es,ep,k _ o (fun z=>(hf _ z).2.1 rfl) ho,r⟩
 ·refine(I.hok b u e).stay (fun c v hc q=>k c v ?_ q) (fun _ q=>q) fun _ _ q=>q
  rcases hc with z | z
  ·rw[z];exact nit b u e
  ·exact nit c _ z
theorem Inv.turnsN {t':Nat} {ch:List Addr} {T:Addr} {ho:HO} (I:Inv X pins σ H s) (k:∀ b o,b ∉ ch→s.heap.get? b=some o→h'.get? b=some o) (hf:∀ b ∈ ch,FpOk X pins H b) (hp:s.heap.objs.size≤T) (new:ObjOk X.prog X.w (upd H T ho) h' T ho):Inv X pins σ (upd H T ho) {s with heap:=h',toks:=t'}:=by
 have nit:∀ b u,H b=some u→b ∉ ch:=fun b u e z=>by rw[(hf b z).1] at e;cases e
 have hn:H T=none:=I.hok.fresh hp
 refine I.step (g':=s.gens) (d':=s.drawn) (ch:=ch) (fun b hb=>?_) (fun b o _ _ hc e _=>k b o hc e) (fun b o _ _ hc e _=>⟨o.slots,k b o hc e⟩) (fun b o _ e n=>by rw[upd_ne (Nat.ne_of_lt (Nat.lt_of_lt_of_le (Heap.lt_size e) hp))];exact n)
  (fun b o hc e=>⟨o,k b o hc e⟩) (fun b xs q=>by rw[upd_ne (ne_of_none q hn)];exact q) (fun b u xs q=>by rw[upd_ne (ne_of_none q hn)];exact q) (fun b ps q=>⟨#[],by rw[upd_ne (ne_of_none q hn),q];simp⟩) (fun m hm=>?_) (fun b u e=>?_) I.bare
 ·obtain⟨f0,f1,f2,f3,f4,f5⟩:=hf b hb
  exact⟨f3,f1,f4,f5⟩
 ·obtain⟨o,es,ep,ho,r⟩:=hm
  exact⟨o,es,ep,k _ o (fun z=>(hf _ z).2.1 rfl) ho,r⟩
 ·by_cases hb:b=T
  ·subst hb;rw[upd_same] at e;cases e;exact new
  ·rw[upd_ne hb] at e
   refine(I.hok b u e).stay (fun c v hc q=>k c v ?_ q) (fun c q=>by rw[upd_ne (ne_of_none q hn)];exact q) fun c xs q=>by rw[upd_ne (ne_of_none q hn)];exact q
   rcases hc with z | z
   ·rw[z];exact nit b u e
   ·exact nit c _ z
end
noncomputable def Itz (K:PySem.W.Frag) (p q:Zp.Kq) (l m:Addr):It:=
 ⟨fun i H=>∃ xs ys x y,SqK K H p l xs∧SqK K H q m ys∧xs[i]? = some x∧ys[i]? = some y,
  fun i H v H'=>∃ T a b,v=.ref T∧H T=none∧H'=upd H T (.tup [a,b])∧∀ xs ys,SqK K H p l xs→SqK K H q m ys→xs[i]? = some a∧ys[i]? = some b,
  fun i H=>∃ xs ys,SqK K H p l xs∧SqK K H q m ys∧(xs.length≤i∨ys.length≤i)⟩
theorem Zp.It.obj {k:Zp.Kq} {h:Heap} {i a:Addr} {n:Nat} (c:Zp.It k h i a n):∃ o,h.get? i=some o∧∀ v,o.data≠.cell v:=by
 cases k with
 | l=>obtain⟨o,e,c,d⟩:=c;exact⟨o,e,fun v z=>by rw[d] at z;cases z⟩
 | t=>obtain⟨o,e,c,d⟩:=c;exact⟨o,e,fun v z=>by rw[d] at z;cases z⟩
theorem turn_zip {P:Program} {w:World} {K:PySem.W.Frag} {es:List Expr} {c:Nat} {pos:Pos} (p q:Zp.Kq) (z TI TO i j l m:Addr) (D:ZipApart z TI TO i j l m) :
  Turn P w K (.Tuple es c pos) (Itz K p q l m) [z,TI,TO,i,j] z (fun n h=>IsZip h z TI TO .none∧IsPair h TI (.ref i) (.ref j)∧(∃ a b,IsPair h TO a b)∧Zp.It p h i l n∧Zp.It q h j m n) where
 mem:=by simp
 obj:=fun n h st b hb=>by
  obtain⟨hz,hI,⟨a,b',hO⟩,ci,cj⟩:=st
  simp only[List.mem_cons,List.not_mem_nil,or_false] at hb
  rcases hb with rfl | rfl | rfl | rfl | rfl
  ·exact⟨_,hz,fun v z=>by cases z⟩
  ·exact⟨_,hI,fun v z=>by cases z⟩
  ·exact⟨_,hO,fun v z=>by cases z⟩
  ·exact ci.obj
  ·exact cj.obj
 keep:=fun n h h' st k=>by
  obtain⟨hz,hI,⟨a,b',hO⟩,ci,cj⟩:=st
  exact⟨k z (by simp) _ hz,k TI (by simp) _ hI,⟨a,b',k TO (by simp) _ hO⟩,ci.to fun o e=>k i (by simp) o e,cj.to fun o e=>k j (by simp) o e⟩
 item:=by
  intro X hP hw hK hc n pins s σ H E I hf st hg
  subst hP hw hK
  obtain⟨hz,hI,⟨a,b',hO⟩,ci,cj⟩:=st
  obtain⟨xs,ys,x,y,hq1,hq2,hx,hy⟩:=hg
  obtain⟨its1,rv1,p1⟩:=I.sqk hq1
  obtain⟨its2,rv2,p2⟩:=I.sqk hq2
  obtain⟨u1,hu1,ru1⟩:=rv1.get hx
  obtain⟨u2,hu2,ru2⟩:=rv2.get hy
  refine Zp.py_some D hz hI hO ci cj p1 p2 (x:=u1) (y:=u2) (by simpa using hu1) (by simpa using hu2) fun h1 a1 a2 a3 a4 a5 a6 hk=>?_
  refine⟨_,rfl,?_⟩
  have lz:z < s.heap.objs.size:=Heap.lt_size hz
  have hTz:s.heap.objs.size≠z:=Nat.ne_of_gt lz
  refine wpAny_letOwnedTupleGo_zip (s:={s with heap:=h1}) a1 fun h2 hz2 hs2=>?_
  have kk:∀ b o,b ∉ [z,TI,TO,i,j]→s.heap.get? b=some o→h2.get? b=some o:=fun b o hb e=>by
   simp only[List.mem_cons,List.not_mem_nil,or_false,not_or] at hb
   exact hs2.extBut _ _ hb.1 (hk b o hb.1 hb.2.2.1 hb.2.2.2.1 hb.2.2.2.2 e)
  have hT:IsPair h2 s.heap.objs.size u1 u2:=hs2.extBut _ _ hTz a5
  have I2:Inv X pins σ (upd H s.heap.objs.size (.tup [x,y])) {s with heap:=h2}:=I.turnsN (t':=s.toks) kk hf (Nat.le_refl _) ⟨by show 2≤sizeLine;decide,[u1,u2],.cons ru1 (.cons ru2 .nil),⟨_,hT,rfl,_,rfl⟩⟩
  refine⟨.ref s.heap.objs.size,_,I2,rfl,⟨_,x,y,rfl,I.hok.fresh (Nat.le_refl _),rfl,fun xs' ys' g1 g2=>by rw[I.sqk_inj g1 hq1,I.sqk_inj g2 hq2];exact⟨hx,hy⟩⟩,⟨hz2,hs2.extBut _ _ D.TIz (hk _ _ D.TIz D.TITO D.TIi1 D.TIi2 hI),⟨_,_,hs2.extBut _ _ D.TOz a2⟩,a3.to fun o e=>hs2.extBut _ _ D.i1z e,a4.to fun o e=>hs2.extBut _ _ D.i2z e⟩,fun b hb=>?_⟩
  have hb':b < s.heap.objs.size:=by
   simp only[List.mem_cons,List.not_mem_nil,or_false] at hb
   rcases hb with rfl | rfl | rfl | rfl | rfl
   ·exact lz
   ·exact Heap.lt_size hI
   ·exact Heap.lt_size hO
   ·exact ci.lt
   ·exact cj.lt
  rw[upd_ne (Nat.ne_of_lt hb')]
  exact(hf b hb).1
 done:=by
  intro X hP hw hK hc n pins s σ H E I hf st hg
  subst hP hw hK
  obtain⟨hz,hI,⟨a,b',hO⟩,ci,cj⟩:=st
  obtain⟨xs,ys,hq1,hq2,hx⟩:=hg
  obtain⟨its1,rv1,p1⟩:=I.sqk hq1
  obtain⟨its2,rv2,p2⟩:=I.sqk hq2
  have l1:=rv1.length
  have l2:=rv2.length
  refine Zp.py_none (I.ok.hd hc) D hz hI hO ci cj p1 p2 (by
   rcases hx with hx | hx
   ·exact .inl (Array.getElem?_eq_none (by simp;omega))
   ·exact .inr (Array.getElem?_eq_none (by simp;omega))) fun h1 hk=>⟨rfl,I.turns (t':=s.toks) (ch:=[z,TI,TO,i,j]) (fun b o hb e=>?_) hf⟩
  simp only[List.mem_cons,List.not_mem_nil,or_false,not_or] at hb
  exact hk b o hb.1 hb.2.2.1 hb.2.2.2.1 hb.2.2.2.2 e
 self:=fun _ _ _ _ _ st h=>wpAny_pyIter_zip st.1 h
noncomputable def iZip (K:PySem.W.Frag) (ta:TA):TI:=fun σ H R=>ta σ H fun vs H1=>∃ p q l m xs ys,vs=[.ref l,.ref m]∧SqK K H1 p l xs∧SqK K H1 q m ys∧R (Itz K p q l m) H1
theorem Zp.Sq.lt {k:Zp.Kq} {h:Heap} {a:Addr} {xs:Array Value} (q:Zp.Sq k h a xs):a < h.objs.size:=by
 cases k with
 | l=>obtain⟨o,e,_⟩:=q;exact Heap.lt_size e
 | t=>obtain⟨o,e,_⟩:=q;exact Heap.lt_size e
theorem apart_mk (N l m:Nat) (hl:l < N) (hm:m < N):ZipApart (N + 4) (N + 2) (N + 3) N (N + 1) l m:=by
 constructor<;>(intro e;have e':(_:Nat)=(_:Nat):=e;omega)
theorem pi_zip {X:Cx} {a b:Expr} {ta:TA} {es:List Expr} {c:Nat} {p tp pos:Pos} (hg:Gl X "zip") (hm:X.mg "zip" = none) (ha:PA X [a,b] ta) (hs:starEach [a,b] X.env=[(false,eval a X.env),(false,eval b X.env)]) (hs2:starEach [b] X.env=[(false,eval b X.env)]) :
  PI X (.Tuple es c tp) (.Call (.Name "zip" p) [a,b] [] pos) (iZip X.K ta):=by
 intro pins s σ H R I h
 refine Call_ (ld_blt I hg hm boot_zip (PyProof.Rows.callWith_type1 (thn (ha pos pins s σ H _ I h) fun us s1 ⟨vs,H1,I1,r1,q1⟩=>?_) (by rw[hs,hs2]) (by rw[hs2];rfl)))
 obtain⟨k1,k2,l,m,xs,ys,e,g1,g2,q⟩:=q1
 subst e
 cases r1 with
 | cons r rr=>
  cases rr with
  | cons r' rr=>
   cases rr
   cases r
   cases r'
   obtain⟨its1,rv1,p1⟩:=I1.sqk g1
   obtain⟨its2,rv2,p2⟩:=I1.sqk g2
   have l1:=p1.lt
   have l2:=p2.lt
   refine Zp.call_zip p1 p2 fun h2 b1 b2 b3 b4 b5 b6 b7=>?_
   refine wpAny_pyIter_zip (s:={s1 with heap:=h2}) b1 ?_
   refine⟨s1.heap.objs.size + 4,[s1.heap.objs.size + 4,s1.heap.objs.size + 2,s1.heap.objs.size + 3,s1.heap.objs.size,s1.heap.objs.size + 1],_,_,H1,rfl,I1.kept (t':=s1.toks) b7,turn_zip k1 k2 _ _ _ _ _ l m (apart_mk _ l m l1 l2),⟨b1,b2,⟨_,_,b3⟩,b4,b5⟩,fun b hb=>?_,q⟩
   have hb':s1.heap.objs.size≤b:=by
    simp only[List.mem_cons,List.not_mem_nil,or_false] at hb
    rcases hb with rfl | rfl | rfl | rfl | rfl
    ·exact Nat.le_add_right _ _
    ·exact Nat.le_add_right _ _
    ·exact Nat.le_add_right _ _
    ·exact Nat.le_refl _
    ·exact Nat.le_add_right _ _
   exact I1.fpOk hb' (I1.hok.fresh hb')
end L2
namespace L2
open PySem PySem.Spec PyProof.Rows
inductive D where
 | non | bl (b:Bool) | int (i:Int) | str (x:Str) | tup (ds:List D) | lst (own:Bool) (ds:List D) | exc (c:Str)
 deriving Inhabited
mutual
noncomputable def er:D→D
 | .tup ds=>.tup (ers ds)
 | .lst _ ds=>.lst false (ers ds)
 | .non=>.non
 | .bl b=>.bl b
 | .int i=>.int i
 | .str x=>.str x
 | .exc c=>.exc c
noncomputable def ers:List D→List D
 | []=>[]
 | d::ds=>er d::ers ds
end
mutual
noncomputable def lfree:D→Bool
 | .tup ds=>lfrees ds
 | .lst _ _=>false
 | .non=>true
 | .bl _=>true
 | .int _=>true
 | .str _=>true
 | .exc _=>true
noncomputable def lfrees:List D→Bool
 | []=>true
 | d::ds=>lfree d && lfrees ds
end
theorem ers_map:∀ ds:List D,ers ds=ds.map er
 | []=>rfl
 | d::ds=>by rw[ers,ers_map ds];rfl
theorem lfrees_all:∀ ds:List D,lfrees ds=ds.all lfree
 | []=>rfl
 | d::ds=>by rw[lfrees,lfrees_all ds];rfl
theorem ers_length (ds:List D):(ers ds).length=ds.length:=by rw[ers_map,List.length_map]
mutual
theorem er_lfree:∀ {d:D},lfree d=true→er d=d
 | .non,_=>rfl
 | .bl _,_=>rfl
 | .int _,_=>rfl
 | .str _,_=>rfl
 | .exc _,_=>rfl
 | .tup ds,h=>by rw[er,ers_lfrees (ds:=ds) h]
 | .lst o ds,h=>by cases (show false=true from h)
theorem ers_lfrees:∀ {ds:List D},lfrees ds=true→ers ds=ds
 | [],_=>rfl
 | d::ds,h=>by
  have h':(lfree d && lfrees ds)=true:=h
  rw[Bool.and_eq_true] at h'
  rw[ers,er_lfree h'.1,ers_lfrees h'.2]
end
mutual
theorem er_er:∀ d:D,er (er d)=er d
 | .non=>rfl
 | .bl _=>rfl
 | .int _=>rfl
 | .str _=>rfl
 | .exc _=>rfl
 | .tup ds=>by rw[er,er,ers_ers ds]
 | .lst _ ds=>by rw[er,er,ers_ers ds]
theorem ers_ers:∀ ds:List D,ers (ers ds)=ers ds
 | []=>rfl
 | d::ds=>by rw[ers,ers,er_er d,ers_ers ds]
end
inductive Exc where
 | stuck | exc (c:Str)
noncomputable abbrev Res (α:Type):=Except Exc α
noncomputable abbrev stk {α:Type}:Res α:=.error .stuck
noncomputable def bnd {α β:Type} (x:Res α) (f:α→Res β):Res β:=match x with
 | .ok a=>f a
 | .error e=>.error e
noncomputable def grd {α:Type} (c:Bool) (x:Res α):Res α:=if c=true then x else stk
noncomputable def PO' {α:Type} (ex:Str→Prop) (x:Res α) (k:α→Prop):Prop:=match x with
 | .ok a=>k a
 | .error (.exc c)=>ex c
 | .error .stuck=>False
theorem PO'.bnd {α β:Type} {ex:Str→Prop} {x:Res α} {f:α→Res β} {k:β→Prop} (h:PO' ex (bnd x f) k):PO' ex x fun a=>PO' ex (f a) k:=by
 cases x with
 | ok a=>exact h
 | error e=>cases e<;>exact h
theorem PO'.grd {α:Type} {ex:Str→Prop} {c:Bool} {x:Res α} {k:α→Prop} (h:PO' ex (grd c x) k):c=true∧PO' ex x k:=by
 unfold L2.grd at h
 cases c with
 | true=>exact⟨rfl,h⟩
 | false=>exact False.elim h
theorem PO'.mono {α:Type} {ex:Str→Prop} {x:Res α} {k k':α→Prop} (h:PO' ex x k) (m:∀ a,k a→k' a):PO' ex x k':=by
 cases x with
 | ok a=>exact m a h
 | error e=>cases e<;>exact h
theorem PO'.mk {α β:Type} {ex:Str→Prop} {x:Res α} {f:α→Res β} {k:β→Prop} (h:PO' ex x fun a=>PO' ex (f a) k):PO' ex (L2.bnd x f) k:=by
 cases x with
 | ok a=>exact h
 | error e=>cases e<;>exact h
theorem PO'.eq {α:Type} {ex:Str→Prop} {x:Res α} {k:α→Prop} (h:PO' ex x k):PO' ex x fun a=>x=.ok a∧k a:=by
 cases x with
 | ok a=>exact⟨rfl,h⟩
 | error e=>cases e<;>exact h
theorem PO'.ok {α:Type} {ex:Str→Prop} {a:α} {k:α→Prop} (h:PO' ex (.ok a:Res α) k):k a:=h
theorem PO'.no {α:Type} {ex:Str→Prop} {k:α→Prop} (h:PO' ex (stk:Res α) k):False:=h
theorem KL.sq {K:PySem.W.Frag} {H:Hp} {a:Addr} {xs:List V} (h:KL K a xs):SqL K H a xs:=by
 obtain⟨its,n,h1,h2,h3⟩:=h
 exact .inr ⟨_,its.toArray,n,h1,rfl,rfl,rfl,by simpa using h2,by simpa using h3⟩
theorem Inv.ls {X:Cx} {pins:List (Addr×Obj)} {σ:St} {H:Hp} {s:Shared} {a:Addr} {xs:List V} (I:Inv X pins σ H s) (h:Ls X.K H a xs) :
  xs.length≤sizeLine∧∃ (its:List Value) (n:Nat),Vals xs its∧s.heap.get? a=some {cls:=.type "list",data:=.seq its.toArray n}:=by
 rcases h with h | ⟨its,n,h1,h2,h3⟩
 ·obtain⟨z,its,n,r,e⟩:=h.ok I.hok
  exact⟨z,its,n,r,e⟩
 ·exact⟨by rw[h3.length];exact h2,its,n,h3,I.kIn _ _ h1⟩
noncomputable def nameIn (K:PySem.W.Frag) (C:Addr):Option Str:=match K.lookup C with
 | some ⟨_,_,.cls cd,_⟩=>some cd.name
 | _=>none
noncomputable def XU:HO:=.ext fun _=>True
noncomputable def XO (K:PySem.W.Frag) (H:Hp) (a:Addr) (c:Str):Prop:=∃ (C:Addr) (o:Obj) (vs:Array Value),PySem.W.nsIn K mainGlobals c=some (some (.ref C))∧nameIn K C=some c∧H a=some (.frz o XU)∧o.cls=.ref C∧o.data=.fields vs
noncomputable def SqE (K:PySem.W.Frag) (H:Hp) (a:Addr):List V ⊕ Str→Prop
 | .inl xs=>SqT K H a xs
 | .inr c=>XO K H a c
mutual
inductive HRep (K:PySem.W.Frag) (S:Addr→Prop) (H:Hp):V→D→Prop where
 | non:HRep K S H .non .non
 | bl (b:Bool):HRep K S H (.bl b) (.bl b)
 | int (i:Int):HRep K S H (.int i) (.int i)
 | str (x:Str):HRep K S H (.str x) (.str x)
 | exc {a:Addr} {c:Str}:SqE K H a (.inr c)→HRep K S H (.ref a) (.exc c)
 | tup {a:Addr} {xs:List V} {ds:List D}:SqT K H a xs→HReps K S H xs ds→HRep K S H (.ref a) (.tup ds)
 | lst {a:Addr} {xs:List V} {o:Bool} {ds:List D}:S a→Rd H a (.lst xs)→HReps K S H xs ds→HRep K S H (.ref a) (.lst o ds)
 | lstK {a:Addr} {xs:List V} {o:Bool} {ds:List D}:KL K a xs→HReps K S H xs ds→HRep K S H (.ref a) (.lst o ds)
inductive HReps (K:PySem.W.Frag) (S:Addr→Prop) (H:Hp):List V→List D→Prop where
 | nil:HReps K S H [] []
 | cons {v:V} {d:D} {vs:List V} {ds:List D}:HRep K S H v d→HReps K S H vs ds→HReps K S H (v::vs) (d::ds)
end
mutual
inductive MRep (K:PySem.W.Frag) (F:Addr→Prop) (H:Hp):V→D→List Addr→Prop where
 | non:MRep K F H .non .non []
 | bl (b:Bool):MRep K F H (.bl b) (.bl b) []
 | int (i:Int):MRep K F H (.int i) (.int i) []
 | str (x:Str):MRep K F H (.str x) (.str x) []
 | exc {a:Addr} {c:Str}:SqE K H a (.inr c)→MRep K F H (.ref a) (.exc c) []
 | tup {a:Addr} {xs:List V} {ds:List D} {f:List Addr}:SqT K H a xs→MReps K F H xs ds f→MRep K F H (.ref a) (.tup ds) f
 | lstS {a:Addr} {xs:List V} {ds:List D}:F a→Rd H a (.lst xs)→MReps K F H xs ds []→MRep K F H (.ref a) (.lst false ds) []
 | lstK {a:Addr} {xs:List V} {ds:List D}:KL K a xs→MReps K F H xs ds []→MRep K F H (.ref a) (.lst false ds) []
 | lstO {a:Addr} {xs:List V} {ds:List D} {f:List Addr}:¬ F a→H a=some (.lst xs)→MReps K F H xs ds f→MRep K F H (.ref a) (.lst true ds) (a::f)
inductive MReps (K:PySem.W.Frag) (F:Addr→Prop) (H:Hp):List V→List D→List Addr→Prop where
 | nil:MReps K F H [] [] []
 | cons {v:V} {d:D} {f:List Addr} {vs:List V} {ds:List D} {g:List Addr}:MRep K F H v d f→MReps K F H vs ds g→MReps K F H (v::vs) (d::ds) (f++g)
end
theorem Same.rd {H H':Hp} {a:Addr} {u:HO} (e:Same H H') (h:Rd H a u):Rd H' a u:=by
 rcases h with h | ⟨o,h⟩
 ·exact .inl (e _ _ h)
 ·exact .inr ⟨o,e _ _ h⟩
theorem Same.seqT {K:PySem.W.Frag} {H H':Hp} {a:Addr} {xs:List V ⊕ Str} (e:Same H H') (h:SqE K H a xs):SqE K H' a xs:=by
 cases xs with
 | inl xs=>
  rcases h with h | h
  ·exact .inl (e.rd h)
  ·exact .inr h
 | inr c=>
  obtain⟨C,o,vs,h0,h1,h2,h3⟩:=h
  exact⟨C,o,vs,h0,h1,e _ _ h2,h3⟩
theorem SqE.upd {K:PySem.W.Frag} {H:Hp} {a l:Addr} {xs:List V ⊕ Str} {ys zs:List V} (hl:H l=some (.lst ys)) (h:SqE K H a xs):SqE K (upd H l (.lst zs)) a xs:=by
 cases xs with
 | inl xs=>
  rcases h with h | h
  ·have:a≠l:=by
    rintro rfl
    rcases h with h | ⟨o,h⟩<;>(rw[hl] at h;cases h)
   refine .inl ?_
   unfold Rd
   rw[upd_ne this]
   exact h
  ·exact .inr h
 | inr c=>
  obtain⟨C,o,vs,h0,h1,h2,h3⟩:=h
  have:a≠l:=by
   rintro rfl
   rw[hl] at h2;cases h2
  exact⟨C,o,vs,h0,h1,by rw[upd_ne this];exact h2,h3⟩
theorem Rd.some {H:Hp} {a:Addr} {u:HO} (h:Rd H a u):H a≠none:=by
 rcases h with h | ⟨o,h⟩<;>(rw[h];simp)
section
variable {K:PySem.W.Frag} {S S' F F':Addr→Prop} {H H':Hp}
mutual
theorem HRep.step (hl:∀ a xs,S a→Rd H a (.lst xs)→S' a∧Rd H' a (.lst xs)) (ht:∀ a xs,SqE K H a xs→SqE K H' a xs) {v:V} {d:D}:HRep K S H v d→HRep K S' H' v d
 | .non=>.non
 | .bl b=>.bl b
 | .int i=>.int i
 | .str x=>.str x
 | .exc h=>.exc (ht _ (.inr _) h)
 | .tup h1 h2=>.tup (ht _ (.inl _) h1) (HReps.step hl ht h2)
 | .lst h0 h1 h2=>.lst (hl _ _ h0 h1).1 (hl _ _ h0 h1).2 (HReps.step hl ht h2)
 | .lstK h1 h2=>.lstK h1 (HReps.step hl ht h2)
theorem HReps.step (hl:∀ a xs,S a→Rd H a (.lst xs)→S' a∧Rd H' a (.lst xs)) (ht:∀ a xs,SqE K H a xs→SqE K H' a xs) {vs:List V} {ds:List D}:HReps K S H vs ds→HReps K S' H' vs ds
 | .nil=>.nil
 | .cons h1 h2=>.cons (HRep.step hl ht h1) (HReps.step hl ht h2)
end
theorem HRep.mono {v:V} {d:D} (h:HRep K S H v d) (hS:∀ a,S a→S' a) (e:Same H H'):HRep K S' H' v d:=h.step (fun a xs s r=>⟨hS a s,e.rd r⟩) fun a xs s=>e.seqT s
theorem HReps.mono {v:List V} {d:List D} (h:HReps K S H v d) (hS:∀ a,S a→S' a) (e:Same H H'):HReps K S' H' v d:=h.step (fun a xs s r=>⟨hS a s,e.rd r⟩) fun a xs s=>e.seqT s
theorem HReps.tight {v:List V} {d:List D} (h:HReps K S H v d):HReps K (fun a=>S a∧H a≠none) H v d:=h.step (fun a xs s r=>⟨⟨s,r.some⟩,r⟩) fun a xs s=>s
mutual
theorem HRep.frozen {v:V} {d:D}:HRep K F H v d→MRep K F H v (L2.er d) []
 | .non=>.non
 | .bl b=>.bl b
 | .int i=>.int i
 | .str x=>.str x
 | .exc h=>.exc h
 | .tup h1 h2=>.tup h1 (HReps.frozen h2)
 | .lst h0 h1 h2=>.lstS h0 h1 (HReps.frozen h2)
 | .lstK h1 h2=>.lstK h1 (HReps.frozen h2)
theorem HReps.frozen {vs:List V} {ds:List D}:HReps K F H vs ds→MReps K F H vs (L2.ers ds) []
 | .nil=>.nil
 | .cons h1 h2=>.cons (f:=[]) (g:=[]) (HRep.frozen h1) (HReps.frozen h2)
end
mutual
theorem HRep.free {v:V} {d:D} (n:lfree d=true):HRep K S H v d→MRep K F H v d []
 | .non=>.non
 | .bl b=>.bl b
 | .int i=>.int i
 | .str x=>.str x
 | .exc h=>.exc h
 | .tup h1 h2=>.tup h1 (HReps.free n h2)
 | .lst h0 h1 h2=>by cases n
 | .lstK h1 h2=>by cases n
theorem HReps.free {vs:List V} {ds:List D} (n:lfrees ds=true):HReps K S H vs ds→MReps K F H vs ds []
 | .nil=>.nil
 | .cons (d:=d) (ds:=ds) h1 h2=>by
  have n':(lfree d && lfrees ds)=true:=n
  rw[Bool.and_eq_true] at n'
  exact .cons (f:=[]) (g:=[]) (HRep.free n'.1 h1) (HReps.free n'.2 h2)
end
mutual
theorem MRep.read {v:V} {d:D} {f:List Addr} (hF:∀ a,F a→S a) (hf:∀ a ∈ f,S a):MRep K F H v d f→HRep K S H v d
 | .non=>.non
 | .bl b=>.bl b
 | .int i=>.int i
 | .str x=>.str x
 | .exc h=>.exc h
 | .tup h1 h2=>.tup h1 (MReps.read hF hf h2)
 | .lstS h0 h1 h2=>.lst (hF _ h0) h1 (MReps.read hF (fun _ h=>absurd h (by simp)) h2)
 | .lstK h1 h2=>.lstK h1 (MReps.read hF (fun _ h=>absurd h (by simp)) h2)
 | .lstO h0 h1 h2=>.lst (hf _ (by simp)) (.inl h1) (MReps.read hF (fun b hb=>hf b (List.mem_cons_of_mem _ hb)) h2)
theorem MReps.read {vs:List V} {ds:List D} {f:List Addr} (hF:∀ a,F a→S a) (hf:∀ a ∈ f,S a):MReps K F H vs ds f→HReps K S H vs ds
 | .nil=>.nil
 | .cons h1 h2=>.cons (MRep.read hF (fun a ha=>hf a (List.mem_append_left _ ha)) h1) (MReps.read hF (fun a ha=>hf a (List.mem_append_right _ ha)) h2)
end
mutual
theorem MRep.step (hl:∀ a xs,F a→Rd H a (.lst xs)→F' a∧Rd H' a (.lst xs)) (ht:∀ a xs,SqE K H a xs→SqE K H' a xs) {v:V} {d:D} {f:List Addr} (k:∀ a ∈ f,¬ F a→H a≠none→¬ F' a∧H' a=H a) :
  MRep K F H v d f→MRep K F' H' v d f
 | .non=>.non
 | .bl b=>.bl b
 | .int i=>.int i
 | .str x=>.str x
 | .exc h=>.exc (ht _ (.inr _) h)
 | .tup h1 h2=>.tup (ht _ (.inl _) h1) (MReps.step hl ht k h2)
 | .lstS h0 h1 h2=>.lstS (hl _ _ h0 h1).1 (hl _ _ h0 h1).2 (MReps.step hl ht (fun _ h=>absurd h (by simp)) h2)
 | .lstK h1 h2=>.lstK h1 (MReps.step hl ht (fun _ h=>absurd h (by simp)) h2)
 | .lstO (a:=a) h0 h1 h2=>.lstO (k a (by simp) h0 (by rw[h1];simp)).1 ((k a (by simp) h0 (by rw[h1];simp)).2.trans h1) (MReps.step hl ht (fun b hb=>k b (List.mem_cons_of_mem _ hb)) h2)
theorem MReps.step (hl:∀ a xs,F a→Rd H a (.lst xs)→F' a∧Rd H' a (.lst xs)) (ht:∀ a xs,SqE K H a xs→SqE K H' a xs) {vs:List V} {ds:List D} {f:List Addr} (k:∀ a ∈ f,¬ F a→H a≠none→¬ F' a∧H' a=H a) :
  MReps K F H vs ds f→MReps K F' H' vs ds f
 | .nil=>.nil
 | .cons h1 h2=>.cons (MRep.step hl ht (fun a ha=>k a (List.mem_append_left _ ha)) h1) (MReps.step hl ht (fun a ha=>k a (List.mem_append_right _ ha)) h2)
end
mutual
theorem MRep.own {v:V} {d:D} {f:List Addr}:MRep K F H v d f→∀ a ∈ f,¬ F a∧∃ xs,H a=some (.lst xs)
 | .non=>fun _ h=>absurd h (by simp)
 | .bl b=>fun _ h=>absurd h (by simp)
 | .int i=>fun _ h=>absurd h (by simp)
 | .str x=>fun _ h=>absurd h (by simp)
 | .exc _=>fun _ h=>absurd h (by simp)
 | .tup h1 h2=>MReps.own h2
 | .lstS h0 h1 h2=>fun _ h=>absurd h (by simp)
 | .lstK h1 h2=>fun _ h=>absurd h (by simp)
 | .lstO h0 h1 h2=>fun b hb=>by
  rcases List.mem_cons.mp hb with rfl | hb
  ·exact⟨h0,_,h1⟩
  ·exact MReps.own h2 b hb
theorem MReps.own {vs:List V} {ds:List D} {f:List Addr}:MReps K F H vs ds f→∀ a ∈ f,¬ F a∧∃ xs,H a=some (.lst xs)
 | .nil=>fun _ h=>absurd h (by simp)
 | .cons h1 h2=>fun b hb=>by
  rcases List.mem_append.mp hb with hb | hb
  ·exact MRep.own h1 b hb
  ·exact MReps.own h2 b hb
end
theorem HReps.length {vs:List V} {ds:List D}:HReps K S H vs ds→vs.length=ds.length
 | .nil=>rfl
 | .cons _ h=>by rw[List.length_cons,List.length_cons,HReps.length h]
theorem HReps.get {i:Nat}:∀ {vs:List V} {ds:List D} {d:D},HReps K S H vs ds→ds[i]? = some d→∃ v,vs[i]? = some v∧HRep K S H v d:=by
 induction i with
 | zero=>
  intro vs ds d h e
  cases h with
  | nil=>simp at e
  | cons h1 h2=>
   simp at e
   subst e
   exact⟨_,rfl,h1⟩
 | succ i ih=>
  intro vs ds d h e
  cases h with
  | nil=>simp at e
  | cons h1 h2=>
   obtain⟨v,e1,h3⟩:=ih h2 (by simpa using e)
   exact⟨v,by simpa using e1,h3⟩
theorem HReps.getV {i:Nat}:∀ {vs:List V} {ds:List D} {v:V},HReps K S H vs ds→vs[i]? = some v→∃ d,ds[i]? = some d∧HRep K S H v d:=by
 induction i with
 | zero=>
  intro vs ds d h e
  cases h with
  | nil=>simp at e
  | cons h1 h2=>
   simp at e
   subst e
   exact⟨_,rfl,h1⟩
 | succ i ih=>
  intro vs ds d h e
  cases h with
  | nil=>simp at e
  | cons h1 h2=>
   obtain⟨v,e1,h3⟩:=ih h2 (by simpa using e)
   exact⟨v,by simpa using e1,h3⟩
theorem HReps.append:∀ {vs ws:List V} {ds es:List D},HReps K S H vs ds→HReps K S H ws es→HReps K S H (vs++ws) (ds++es)
 | _,_,_,_,.nil,h=>h
 | _,_,_,_,.cons h1 h2,h=>.cons h1 (HReps.append h2 h)
theorem HReps.take:∀ {vs:List V} {ds:List D} (n:Nat),HReps K S H vs ds→HReps K S H (vs.take n) (ds.take n)
 | _,_,0,_=>.nil
 | _,_,_ + 1,.nil=>.nil
 | _,_,n + 1,.cons h1 h2=>.cons h1 (HReps.take n h2)
theorem HReps.drop:∀ {vs:List V} {ds:List D} (n:Nat),HReps K S H vs ds→HReps K S H (vs.drop n) (ds.drop n)
 | _,_,0,h=>h
 | _,_,_ + 1,.nil=>.nil
 | _,_,n + 1,.cons h1 h2=>HReps.drop n h2
theorem MReps.length {vs:List V} {ds:List D} {f:List Addr}:MReps K F H vs ds f→vs.length=ds.length
 | .nil=>rfl
 | .cons _ h=>by rw[List.length_cons,List.length_cons,MReps.length h]
theorem MReps.append:∀ {vs ws:List V} {ds es:List D} {f g:List Addr},MReps K F H vs ds f→MReps K F H ws es g→MReps K F H (vs++ws) (ds++es) (f++g)
 | _,_,_,_,_,_,.nil,h=>h
 | _,_,_,_,_,_,.cons h1 h2,h=>by
  rw[List.append_assoc]
  exact .cons h1 (MReps.append h2 h)
theorem HRep.lstR {v:V} {o:Bool} {ds:List D} (h:HRep K S H v (.lst o ds)):∃ a xs,v=.ref a∧SqL K H a xs∧HReps K S H xs ds:=by
 cases h with
 | lst h0 h1 h2=>exact⟨_,_,rfl,.inl h1,h2⟩
 | lstK h1 h2=>exact⟨_,_,rfl,h1.sq,h2⟩
theorem HRep.lstL {v:V} {o:Bool} {ds:List D} (h:HRep K S H v (.lst o ds)):∃ a xs,v=.ref a∧Ls K H a xs∧HReps K S H xs ds:=by
 cases h with
 | lst h0 h1 h2=>exact⟨_,_,rfl,.inl h1,h2⟩
 | lstK h1 h2=>exact⟨_,_,rfl,.inr h1,h2⟩
theorem HRep.tupR {v:V} {ds:List D} (h:HRep K S H v (.tup ds)):∃ a xs,v=.ref a∧SqT K H a xs∧HReps K S H xs ds:=by
 cases h with
 | tup h1 h2=>exact⟨_,_,rfl,h1,h2⟩
theorem HRep.intR {v:V} {i:Int} (h:HRep K S H v (.int i)):v=.int i:=by cases h;rfl
theorem HRep.blR {v:V} {i:Bool} (h:HRep K S H v (.bl i)):v=.bl i:=by cases h;rfl
theorem HRep.strR {v:V} {i:Str} (h:HRep K S H v (.str i)):v=.str i:=by cases h;rfl
theorem HRep.nonR {v:V} (h:HRep K S H v .non):v=.non:=by cases h;rfl
theorem HReps.ints:∀ {vs:List V} {ns:List Int},HReps K S H vs (ns.map .int)→vs=ns.map .int
 | _,[],.nil=>rfl
 | _,n::ns,.cons h1 h2=>by rw[h1.intR,HReps.ints h2];rfl
theorem HReps.strs:∀ {vs:List V} {ns:List Str},HReps K S H vs (ns.map .str)→vs=ns.map .str
 | _,[],.nil=>rfl
 | _,n::ns,.cons h1 h2=>by rw[h1.strR,HReps.strs h2];rfl
theorem HReps.bls:∀ {vs:List V} {ns:List Bool},HReps K S H vs (ns.map .bl)→vs=ns.map .bl
 | _,[],.nil=>rfl
 | _,n::ns,.cons h1 h2=>by rw[h1.blR,HReps.bls h2];rfl
theorem HReps.ofInts:∀ (ns:List Int),HReps K S H (ns.map .int) (ns.map .int)
 | []=>.nil
 | n::ns=>.cons (.int n) (HReps.ofInts ns)
end
theorem Same.upd {H:Hp} {a:Addr} {o:HO} (h:H a=none):Same H (upd H a o):=fun b u e=>by
 rw[upd_ne (ne_of_none e h)]
 exact e
end L2
namespace L2
open PySem PySem.Spec PyProof.Rows
inductive BOp where
 | add | sub | mul | fdiv | mod | pow
 deriving DecidableEq
inductive COp where
 | eq | ne | lt | le | gt | ge | in_ | nin | is_ | isn
 deriving DecidableEq
inductive Kd where
 | str | int | bool | list | tuple
 deriving DecidableEq
inductive Bi where
 | len | sum | min2 | max2 | sorted | list | tuple | ord | int | all | any | str | set | abs
 deriving DecidableEq
inductive Mt where
 | join | index | starts
 deriving DecidableEq
inductive Tg where
 | nm (i:Nat) | tp (ts:List Tg)
structure Gm where
 N:List Str
 kd:List NameKind
 gl:List Nat
 df:Bool
 cm:Bool:=true
 rs:Bool:=true
 tr:Bool:=false
mutual
inductive IR where
 | c (d:D)
 | g (n:Nat) (d:D)
 | v (i:Nat)
 | bin (op:BOp) (a b:IR)
 | neg (a:IR)
 | cmp (op:COp) (a b:IR)
 | chain (op op':COp) (a b c:IR)
 | and_ (a b:IR)
 | or_ (a b:IR)
 | not_ (a:IR)
 | ite (t a b:IR)
 | tup (es:List IR)
 | lst (es:List IR)
 | idx (a i:IR)
 | sl (a:IR) (lo hi:Option IR)
 | call (f:Nat) (es:List IR)
 | bi (f:Bi) (es:List IR)
 | isi (a:IR) (k:Kd)
 | isx (a:IR) (ns:List Nat) (tb:List (Str×Bool))
 | lrev (a:IR)
 | ftr (x:Str) (a:IR) (y:Option Str)
 | mth (m:Mt) (o:IR) (es:List IR)
 | comp (G:Gm) (fr:List Nat) (tg:Tg) (src:Sr) (ifs:List IR) (elt:IR)
inductive Sr where
 | rng1 (n:IR) | rng2 (a b:IR) | val (e:IR) | zip (a b:IR)
end
inductive IS where
 | asg (tg:Tg) (e:IR)
 | par (i j:Nat) (a b:IR)
 | setix (i:Nat) (k e:IR)
 | app (i:Nat) (e:IR)
 | appx (i:Nat) (k:Nat) (e:IR)
 | rvs (i:Nat)
 | clr (i:Nat)
 | exp (e:IR)
 | ret (e:IR)
 | retN
 | if_ (t:IR) (a b:List IS)
 | for_ (tg:Tg) (src:Sr) (body:List IS)
 | while_ (t:IR) (body:List IS)
 | brk | cnt | pass
 | never
 | raise_ (n:Nat) (c:Str) (w:Str)
 | raisee (n:Nat) (c:Str) (e:IR)
 | tryc (i f:Nat) (es:List IR) (n:Nat) (cs:List Str) (k:Nat) (h:List IS)
 | tryx (body:List IS) (n:Nat) (cs:List Str) (i:Nat) (h:List IS)
noncomputable abbrev Ev:=List (Option D)
inductive Fl where
 | nx (τ:Ev) | rt (d:D) | bk (τ:Ev) | ct (τ:Ev)
noncomputable def cutG {α:Type} (xs:List α) (lo hi:Option Int):List α:=(xs.drop (HT.sIx xs.length 0 lo)).take (HT.sIx xs.length xs.length hi - HT.sIx xs.length 0 lo)
noncomputable def szOk (n:Nat):Bool:=decide (n≤sizeLine)
noncomputable def szLt (n:Nat):Bool:=decide (n < sizeLine)
noncomputable def opB:BOp→D→D→Res D
 | .add,.int a,.int b=>.ok (.int (a + b))
 | .add,.str a,.str b=>grd (szOk (a.length + b.length)) (.ok (.str (a++b)))
 | .add,.lst _ a,.lst _ b=>grd (szOk (a.length + b.length)) (.ok (.lst true (a++b)))
 | .sub,.int a,.int b=>.ok (.int (a - b))
 | .mul,.int a,.int b=>grd (decide (-(2 ^ 64) < a∧a < 2 ^ 64) || decide (-(2 ^ 64) < b∧b < 2 ^ 64)) (.ok (.int (a * b)))
 | .mul,.str a,.int b=>grd (decide (-16000≤b∧b≤16000∧a.length≤1000)) (.ok (.str (Txt.mul a b)))
 | .mul,.lst _ a,.int b=>grd (decide (0≤b∧b≤16000∧a.length≤1000)) (.ok (.lst true (List.flatten (List.replicate b.toNat a))))
 | .fdiv,.int a,.int b=>grd (decide (0 < b∧b < 1073741824)) (.ok (.int (a / b)))
 | .mod,.int a,.int b=>grd (decide (0 < b)) (.ok (.int (a % b)))
 | .pow,.int a,.int b=>grd (decide (0≤b∧b≤1000000∧a.natAbs < 2 ^ 64)) (.ok (.int (a ^ b.toNat)))
 | _,_,_=>stk
noncomputable def opIx:D→D→Res D
 | .lst _ ds,.int i=>match atI ds i with
  | some d=>.ok d
  | none=>stk
 | .tup ds,.int i=>match atI ds i with
  | some d=>.ok d
  | none=>stk
 | .str z,.int i=>grd (szOk z.length) (match atI z.cps.toList i with
  | some c=>.ok (.str ⟨#[c]⟩)
  | none=>stk)
 | _,_=>stk
noncomputable def opSl:D→Option Int→Option Int→Res D
 | .lst _ ds,lo,hi=>.ok (.lst true (cutG ds lo hi))
 | .str z,lo,hi=>grd (szOk z.length) (.ok (.str (Txt.slice z lo hi)))
 | _,_,_=>stk
noncomputable def truD:D→Res Bool
 | .non=>.ok false
 | .bl b=>.ok b
 | .int i=>.ok (i != 0)
 | .str x=>grd (szOk x.length) (.ok ((x.length:Int) != 0))
 | .tup ds=>.ok (!ds.isEmpty)
 | .lst _ ds=>.ok (!ds.isEmpty)
 | .exc _=>stk
noncomputable def eqsG (f:D→D→Res Bool):List D→List D→Res Bool
 | [],[]=>.ok true
 | a::r,b::t=>bnd (f a b) fun x=>bnd (eqsG f r t) fun y=>.ok (x && y)
 | _,_=>.ok false
noncomputable def eqN:Nat→D→D→Res Bool
 | 0,_,_=>stk
 | _ + 1,.exc _,_=>stk
 | _ + 1,_,.exc _=>stk
 | _ + 1,.non,.non=>.ok true
 | _ + 1,.non,_=>.ok false
 | _ + 1,.bl a,.bl b=>.ok (a == b)
 | _ + 1,.bl a,.int b=>.ok ((if a then 1 else 0) == b)
 | _ + 1,.bl _,_=>.ok false
 | _ + 1,.int a,.bl b=>.ok (a == (if b then 1 else 0))
 | _ + 1,.int a,.int b=>.ok (a == b)
 | _ + 1,.int _,_=>.ok false
 | _ + 1,.str a,.str b=>.ok (a == b)
 | _ + 1,.str _,_=>.ok false
 | n + 1,.tup a,.tup b=>eqsG (eqN n) a b
 | _ + 1,.tup _,_=>.ok false
 | n + 1,.lst _ a,.lst _ b=>eqsG (eqN n) a b
 | _ + 1,.lst _ _,_=>.ok false
noncomputable def anyN (d:D):List D→Res Bool
 | []=>.ok false
 | e::r=>bnd (eqN 40 e d) fun x=>bnd (anyN d r) fun y=>.ok (x || y)
noncomputable def inStr (x y:Str):Bool:=!(Builtin.Str.occurrences x y 0 x.length 1).isEmpty
noncomputable def isNon:D→Bool
 | .non=>true
 | _=>false
noncomputable def notX:D→Bool
 | .exc _=>false
 | _=>true
noncomputable def opC:COp→D→D→Res Bool
 | .eq,a,b=>eqN 40 a b
 | .ne,a,b=>bnd (eqN 40 a b) fun r=>.ok !r
 | .lt,.int a,.int b=>.ok (decide (a < b))
 | .le,.int a,.int b=>.ok (decide (a≤b))
 | .gt,.int a,.int b=>.ok (decide (b < a))
 | .ge,.int a,.int b=>.ok (decide (b≤a))
 | .in_,.str y,.str x=>.ok (inStr x y)
 | .nin,.str y,.str x=>.ok (!inStr x y)
 | .in_,a,.lst _ ds=>anyN a ds
 | .nin,a,.lst _ ds=>bnd (anyN a ds) fun r=>.ok !r
 | .in_,a,.tup ds=>anyN a ds
 | .nin,a,.tup ds=>bnd (anyN a ds) fun r=>.ok !r
 | .is_,a,.non=>.ok (isNon a)
 | .isn,a,.non=>.ok (!isNon a)
 | .isn,.bl a,.bl b=>.ok (a != b)
 | .isn,.non,.bl _=>.ok true
 | _,_,_=>stk
noncomputable def asInts:List D→Option (List Int)
 | []=>some []
 | .int i::r=>(asInts r).map (i::·)
 | _::_=>none
noncomputable def asStrs:List D→Option (List Str)
 | []=>some []
 | .str i::r=>(asStrs r).map (i::·)
 | _::_=>none
noncomputable def asBls:List D→Option (List Bool)
 | []=>some []
 | .bl i::r=>(asBls r).map (i::·)
 | _::_=>none
noncomputable def isiD:Kd→D→Bool
 | .str,.str _=>true
 | .int,.int _=>true
 | .int,.bl _=>true
 | .bool,.bl _=>true
 | .list,.lst _ _=>true
 | .tuple,.tup _=>true
 | _,_=>false
noncomputable def isxD (tb:List (Str×Bool)):D→Res D
 | .exc c=>match tb.lookup c with
  | some b=>.ok (.bl b)
  | none=>stk
 | _=>stk
noncomputable def charsD (x:Str):List D:=x.cps.toList.map fun c=>.str ⟨#[c]⟩
noncomputable def asTups:List D→Option (List (List Int))
 | []=>some []
 | .tup ds::r=>match asInts ds,asTups r with
  | some (n::ns),some nss=>some ((n::ns)::nss)
  | _,_=>none
 | _::_=>none
noncomputable def sortD (ds:List D):Res D:=match asInts ds with
 | some ns=>grd (decide (ns.length < 64)) (.ok (.lst true ((PySem.W.sortI ns).map .int)))
 | none=>match asTups ds with
  | some nss=>grd (decide (ds.length < 64)) (.ok (.lst true ((ordT nss).map fun i=>ds.getD i .non)))
  | none=>stk
noncomputable def opBi:Bi→List D→Res D
 | .len,[.str x]=>grd (szOk x.length) (.ok (.int x.length))
 | .len,[.tup ds]=>.ok (.int ds.length)
 | .len,[.lst _ ds]=>.ok (.int ds.length)
 | .min2,[.int a,.int b]=>.ok (.int (if b < a then b else a))
 | .max2,[.int a,.int b]=>.ok (.int (if b > a then b else a))
 | .ord,[.str x]=>grd (decide (x.length=1)) (.ok (.int (x.cps.getD 0 0:Nat)))
 | .int,[.int i]=>.ok (.int i)
 | .int,[.bl b]=>.ok (.int (if b then 1 else 0))
 | .sorted,[.lst _ ds]=>sortD ds
 | .list,[.lst _ ds]=>.ok (.lst true ds)
 | .list,[.tup ds]=>.ok (.lst true ds)
 | .list,[.str x]=>grd (szOk x.length) (.ok (.lst true (charsD x)))
 | .tuple,[.str x]=>grd (szOk x.length) (.ok (.tup (charsD x)))
 | .sum,[.lst _ ds]=>match asInts ds with
  | some ns=>grd (decide (ns.length≤1000000)) (.ok (.int ns.sum))
  | none=>stk
 | .all,[.lst _ ds]=>match asBls ds with
  | some bs=>.ok (.bl (bs.all id))
  | none=>stk
 | .any,[.lst _ ds]=>match asBls ds with
  | some bs=>.ok (.bl (bs.any id))
  | none=>stk
 | .abs,[.int i]=>.ok (.int (if i < 0 then -i else i))
 | _,_=>stk
noncomputable def isStrD:D→Bool
 | .str _=>true
 | _=>false
noncomputable def opMt:Mt→D→List D→Res D
 | .join,.str x,[.lst _ ds]=>match asStrs ds with
  | some ys=>grd (decide ((ys.map (·.length)).sum + ys.length * x.length≤16777216)) (.ok (.str (Txt.join x ys)))
  | none=>stk
 | .index,.str x,[.str y]=>grd (decide (0≤Txt.find x y)) (.ok (.int (Txt.find x y)))
 | .starts,.str x,[.str y]=>.ok (.bl (Txt.startswith x y))
 | _,_,_=>stk
noncomputable def itemsD:D→Res (List D)
 | .lst _ ds=>.ok ds
 | .tup ds=>.ok ds
 | .str x=>grd (szOk x.length) (.ok (charsD x))
 | _=>stk
noncomputable def seqD:D→Res (List D)
 | .lst _ ds=>.ok ds
 | .tup ds=>.ok ds
 | _=>stk
noncomputable def zipD (ds es:List D):List D:=List.zipWith (fun a b=>.tup [a,b]) ds es
noncomputable def zipR (x y:D):Res (List D):=bnd (seqD x) fun ds=>bnd (seqD y) fun es=>.ok (zipD ds es)
noncomputable def rngD (a b:Int):List D:=(List.range (b - a).toNat).map fun k=>.int (a + (k:Nat))
noncomputable def revD:D→Res D
 | .lst _ ds=>.ok (.lst true ds.reverse)
 | _=>stk
noncomputable def ftrD (x:Str) (y:Option Str):D→Res D
 | .str z=>grd (szOk (x.length + (reprText z).length + (y.getD Str.empty).length)) (.ok (.str (x++reprText z++y.getD Str.empty)))
 | _=>stk
noncomputable def rngOk (i:Int):Bool:=decide (-(2 ^ 62)≤i∧i < 2 ^ 62)
noncomputable def fmapM {α β:Type} (f:α→Res (Option β)):List α→Res (List β)
 | []=>.ok []
 | x::xs=>bnd (f x) fun
  | some d=>bnd (fmapM f xs) fun r=>.ok (d::r)
  | none=>fmapM f xs
noncomputable def noX {α:Type}:Res α→Res α
 | .error _=>stk
 | .ok a=>.ok a
mutual
noncomputable def setT:Tg→D→Ev→Res Ev
 | .nm i,d,τ=>.ok (τ.set i (some d))
 | .tp ts,.tup ds,τ=>grd (decide (ds.length=ts.length)) (setTs ts ds τ)
 | .tp ts,.lst _ ds,τ=>grd (decide (ds.length=ts.length)) (setTs ts ds τ)
 | .tp _,_,_=>stk
noncomputable def setTs:List Tg→List D→Ev→Res Ev
 | t::ts,d::ds,τ=>bnd (setT t d τ) fun τ'=>setTs ts ds τ'
 | [],[],τ=>.ok τ
 | _,_,_=>stk
end
noncomputable def slotD (τ:Ev) (i:Nat):Option D:=(τ[i]?).join
mutual
noncomputable def vars:IR→List Nat
 | .c _=>[]
 | .g _ _=>[]
 | .v i=>[i]
 | .bin _ a b=>vars a++vars b
 | .neg a=>vars a
 | .cmp _ a b=>vars a++vars b
 | .chain _ _ a b c=>vars a++vars b++vars c
 | .and_ a b=>vars a++vars b
 | .or_ a b=>vars a++vars b
 | .not_ a=>vars a
 | .ite t a b=>vars t++vars a++vars b
 | .tup es=>varss es
 | .lst es=>varss es
 | .idx a i=>vars a++vars i
 | .sl a lo hi=>vars a++varsO lo++varsO hi
 | .call _ es=>varss es
 | .bi _ es=>varss es
 | .isi a _=>vars a
 | .isx a _ _=>vars a
 | .lrev a=>vars a
 | .ftr _ a _=>vars a
 | .mth _ o es=>vars o++varss es
 | .comp _ fr _ src _ _=>fr++varsS src
noncomputable def varss:List IR→List Nat
 | []=>[]
 | e::es=>vars e++varss es
noncomputable def varsO:Option IR→List Nat
 | none=>[]
 | some e=>vars e
noncomputable def varsS:Sr→List Nat
 | .rng1 n=>vars n
 | .rng2 a b=>vars a++vars b
 | .val e=>vars e
 | .zip a b=>vars a++vars b
end
mutual
noncomputable def evR (cl:Nat→List D→Res D):IR→Ev→Res D
 | .c d,_=>.ok d
 | .g _ d,_=>.ok d
 | .v i,τ=>match slotD τ i with
  | some d=>.ok d
  | none=>stk
 | .bin op a b,τ=>bnd (evR cl a τ) fun x=>bnd (evR cl b τ) fun y=>opB op x y
 | .neg a,τ=>bnd (evR cl a τ) fun
  | .int i=>.ok (.int (-i))
  | _=>stk
 | .cmp op a b,τ=>bnd (evR cl a τ) fun x=>bnd (evR cl b τ) fun y=>bnd (opC op x y) fun r=>.ok (.bl r)
 | .chain op op' a b c,τ=>bnd (evR cl a τ) fun x=>bnd (evR cl b τ) fun y=>bnd (opC op x y) fun r=>
  if r=true then bnd (evR cl c τ) fun z=>bnd (opC op' y z) fun r'=>.ok (.bl r') else .ok (.bl false)
 | .and_ a b,τ=>bnd (evR cl a τ) fun x=>bnd (truD x) fun r=>if r=true then evR cl b τ else .ok x
 | .or_ a b,τ=>bnd (evR cl a τ) fun x=>bnd (truD x) fun r=>if r=true then .ok x else evR cl b τ
 | .not_ a,τ=>bnd (evR cl a τ) fun x=>bnd (truD x) fun r=>.ok (.bl !r)
 | .ite t a b,τ=>bnd (evR cl t τ) fun x=>bnd (truD x) fun r=>if r=true then evR cl a τ else evR cl b τ
 | .tup es,τ=>bnd (evRs cl es τ) fun ds=>grd (szOk ds.length) (.ok (.tup ds))
 | .lst es,τ=>bnd (evRs cl es τ) fun ds=>grd (szOk ds.length) (.ok (.lst true ds))
 | .idx a i,τ=>bnd (evR cl a τ) fun x=>bnd (evR cl i τ) fun y=>opIx x y
 | .sl a lo hi,τ=>bnd (evR cl a τ) fun x=>bnd (evRO cl lo τ) fun l=>bnd (evRO cl hi τ) fun h=>opSl x l h
 | .call f es,τ=>bnd (evRs cl es τ) fun ds=>cl f (ers ds)
 | .bi f es,τ=>bnd (evRs cl es τ) fun ds=>opBi f ds
 | .isi a k,τ=>bnd (evR cl a τ) fun x=>grd (notX x) (.ok (.bl (isiD k x)))
 | .isx a _ tb,τ=>bnd (evR cl a τ) (isxD tb)
 | .lrev a,τ=>bnd (evR cl a τ) revD
 | .ftr x a y,τ=>bnd (evR cl a τ) (ftrD x y)
 | .mth m o es,τ=>bnd (evR cl o τ) fun x=>grd (isStrD x) (bnd (evRs cl es τ) fun ds=>opMt m x ds)
 | .comp G fr tg src ifs elt,τ=>bnd (evSr cl src τ) fun its=>grd (szLt its.length) (bnd (noX (fmapM (fun x=>bnd (setT tg x (fr.map (slotD τ)++List.replicate (G.N.length - fr.length) none)) fun τ1=>
   bnd (evTs cl ifs τ1) fun r=>if r=true then bnd (evR cl elt τ1) fun d=>.ok (some d) else .ok none) its)) fun ds=>.ok (.lst true ds))
noncomputable def evRs (cl:Nat→List D→Res D):List IR→Ev→Res (List D)
 | [],_=>.ok []
 | e::es,τ=>bnd (evR cl e τ) fun d=>bnd (evRs cl es τ) fun ds=>.ok (d::ds)
noncomputable def evRO (cl:Nat→List D→Res D):Option IR→Ev→Res (Option Int)
 | none,_=>.ok none
 | some e,τ=>bnd (evR cl e τ) fun
  | .int i=>.ok (some i)
  | _=>stk
noncomputable def evTs (cl:Nat→List D→Res D):List IR→Ev→Res Bool
 | [],_=>.ok true
 | e::es,τ=>bnd (bnd (evR cl e τ) truD) fun r=>if r=true then evTs cl es τ else .ok false
noncomputable def evSr (cl:Nat→List D→Res D):Sr→Ev→Res (List D)
 | .rng1 n,τ=>bnd (evR cl n τ) fun
  | .int i=>grd (rngOk i) (.ok (rngD 0 i))
  | _=>stk
 | .rng2 a b,τ=>bnd (evR cl a τ) fun x=>bnd (evR cl b τ) fun y=>match x,y with
  | .int i,.int j=>grd (rngOk i && rngOk j) (.ok (rngD i j))
  | _,_=>stk
 | .val e,τ=>bnd (evR cl e τ) itemsD
 | .zip a b,τ=>bnd (evR cl a τ) fun x=>bnd (evR cl b τ) fun y=>zipR x y
end
noncomputable def evT (cl:Nat→List D→Res D) (t:IR) (τ:Ev):Res Bool:=bnd (evR cl t τ) truD
noncomputable def frzA (is:List Nat):Nat→Ev→Ev
 | _,[]=>[]
 | k,o::τ=>(if is.contains k then o.map er else o)::frzA is (k + 1) τ
noncomputable abbrev frz (is:List Nat) (τ:Ev):Ev:=frzA is 0 τ
noncomputable def newList? : IR→Bool
 | .bin .add _ _=>true
 | .sl _ _ _=>true
 | .bi .list _=>true
 | .comp _ _ _ _ _ _=>true
 | _=>false
noncomputable def keepD (e:IR) (d:D) (τ:Ev):D×Ev:=
 if lfree d=true then (d,τ)
 else match newList? e,d with
  | true,.lst _ ds=>if lfrees ds=true then (.lst true ds,τ) else (.lst true (ers ds),frz (vars e) τ)
  | _,_=>(er d,frz (vars e) τ)
mutual
noncomputable def evO (cl:Nat→List D→Res D) (mv:Bool):IR→Ev→Res (D×Ev)
 | .v i,τ=>match slotD τ i with
  | some d=>if mv=true then .ok (d,τ.set i none) else .ok (er d,τ.set i (some (er d)))
  | none=>stk
 | .tup es,τ=>bnd (evOs cl mv es τ) fun p=>grd (szOk p.1.length) (.ok (.tup p.1,p.2))
 | .lst es,τ=>bnd (evOs cl mv es τ) fun p=>grd (szOk p.1.length) (.ok (.lst true p.1,p.2))
 | .ite t a b,τ=>bnd (evT cl t τ) fun r=>if r=true then evO cl mv a τ else evO cl mv b τ
 | .call f es,τ=>bnd (evRs cl es τ) fun ds=>bnd (cl f (ers ds)) fun d=>if lfree d=true then .ok (d,τ) else .ok (d,frz (varss es) τ)
 | e,τ=>bnd (evR cl e τ) fun d=>.ok (keepD e d τ)
noncomputable def evOs (cl:Nat→List D→Res D) (mv:Bool):List IR→Ev→Res (List D×Ev)
 | [],τ=>.ok ([],τ)
 | e::es,τ=>bnd (evO cl mv e τ) fun p=>bnd (evOs cl mv es p.2) fun q=>.ok (p.1::q.1,q.2)
end
noncomputable def forM (body:D→Ev→Res Fl):List D→Ev→Res Fl
 | [],τ=>.ok (.nx τ)
 | x::xs,τ=>bnd (body x τ) fun
  | .nx τ'=>forM body xs τ'
  | .ct τ'=>forM body xs τ'
  | .bk τ'=>.ok (.nx τ')
  | .rt d=>.ok (.rt d)
noncomputable def whileM (test:Ev→Res Bool) (body:Ev→Res Fl):Nat→Ev→Res Fl
 | 0,_=>stk
 | n + 1,τ=>bnd (test τ) fun r=>if r=true then bnd (body τ) fun
  | .nx τ'=>whileM test body n τ'
  | .ct τ'=>whileM test body n τ'
  | .bk τ'=>.ok (.nx τ')
  | .rt d=>.ok (.rt d)
  else .ok (.nx τ)
noncomputable def srcO (cl:Nat→List D→Res D) (s:Sr) (τ:Ev):Res (List D×Ev):=bnd (evSr cl s τ) fun its=>match s with
 | .rng1 _=>.ok (its,τ)
 | .rng2 _ _=>.ok (its,τ)
 | s=>.ok (ers its,frz (varsS s) τ)
noncomputable def wfuel:Nat:=1000000
mutual
noncomputable def evS (cl:Nat→List D→Res D):IS→Ev→Res Fl
 | .asg tg e,τ=>bnd (evO cl false e τ) fun p=>bnd (setT tg p.1 p.2) fun τ'=>.ok (.nx τ')
 | .par i j a b,τ=>bnd (evOs cl false [a,b] τ) fun p=>match p.1 with
  | [x,y]=>.ok (.nx ((p.2.set i (some x)).set j (some y)))
  | _=>stk
 | .setix i k e,τ=>bnd (evO cl false e τ) fun p=>match slotD p.2 i with
  | some (.lst true ds)=>bnd (evR cl k p.2) fun
   | .int z=>(match ixN ds.length z with
    | some j=>.ok (.nx (p.2.set i (some (.lst true (ds.set j p.1)))))
    | none=>stk)
   | _=>stk
  | _=>stk
 | .app i e,τ=>match slotD τ i with
  | some (.lst _ _)=>bnd (evO cl false e τ) fun p=>(match slotD p.2 i with
   | some (.lst true ds)=>grd (szLt ds.length) (.ok (.nx (p.2.set i (some (.lst true (ds++[p.1]))))))
   | _=>stk)
  | _=>stk
 | .appx _ _ _,_=>stk
 | .rvs i,τ=>match slotD τ i with
  | some (.lst true ds)=>.ok (.nx (τ.set i (some (.lst true ds.reverse))))
  | _=>stk
 | .clr i,τ=>match slotD τ i with
  | some (.lst true _)=>.ok (.nx (τ.set i (some (.lst true []))))
  | _=>stk
 | .exp e,τ=>bnd (evR cl e τ) fun _=>.ok (.nx τ)
 | .ret e,τ=>bnd (evO cl true e τ) fun p=>.ok (.rt p.1)
 | .retN,_=>.ok (.rt .non)
 | .if_ t a b,τ=>bnd (evT cl t τ) fun r=>if r=true then evSs cl a τ else evSs cl b τ
 | .for_ tg s body,τ=>bnd (srcO cl s τ) fun p=>forM (fun x τ=>bnd (setT tg x τ) fun τ'=>evSs cl body τ') p.1 p.2
 | .while_ t body,τ=>whileM (evT cl t) (evSs cl body) wfuel τ
 | .brk,τ=>.ok (.bk τ)
 | .cnt,τ=>.ok (.ct τ)
 | .pass,τ=>.ok (.nx τ)
 | .never,_=>stk
 | .raise_ _ c _,_=>.error (.exc c)
 | .raisee _ c e,τ=>bnd (noX (evR cl e τ)) fun _=>.error (.exc c)
 | .tryc i f es _ cs k h,τ=>bnd (noX (evRs cl es τ)) fun ds=>match cl f (ers ds) with
  | .ok d=>if lfree d=true then .ok (.nx (τ.set i (some d))) else .ok (.nx ((frz (varss es) τ).set i (some d)))
  | .error (.exc c)=>grd (cs.contains c) (bnd (noX (evSs cl h (τ.set k (some (.exc c))))) fun
   | .nx τ'=>.ok (.nx (τ'.set k none))
   | _=>stk)
  | .error .stuck=>stk
 | .tryx body _ cs i h,τ=>match evSs cl body τ with
  | .ok (.nx τ')=>.ok (.nx τ')
  | .error (.exc c)=>grd (cs.contains c) (bnd (noX (evSs cl h ((List.replicate τ.length none).set i (some (.exc c))))) fun
   | .nx τ'=>.ok (.nx (τ'.set i none))
   | _=>stk)
  | _=>stk
noncomputable def evSs (cl:Nat→List D→Res D):List IS→Ev→Res Fl
 | [],τ=>.ok (.nx τ)
 | s::r,τ=>bnd (evS cl s τ) fun
  | .nx τ'=>evSs cl r τ'
  | .ct τ'=>.ok (.ct τ')
  | .bk τ'=>.ok (.bk τ')
  | .rt d=>.ok (.rt d)
end
structure Fn where
 np:Nat
 G:Gm
 body:List IS
noncomputable def runF (cl:Nat→List D→Res D) (fn:Fn) (ds:List D):Res D:=
 grd (decide (ds.length=fn.np)) (bnd (evSs cl fn.body (ds.map some++List.replicate (fn.G.N.length - fn.np) none)) fun
  | .nx _=>.ok .non
  | .rt d=>.ok d
  | _=>stk)
noncomputable abbrev Tb:=Nat→Option Fn
noncomputable def callF (T:Tb):Nat→Nat→List D→Res D
 | 0,_,_=>stk
 | n + 1,f,ds=>match T f with
  | some fn=>runF (callF T n) fn ds
  | none=>stk
theorem evR_v {cl:Nat→List D→Res D} {i:Nat} {τ:Ev}:evR cl (.v i) τ=(match slotD τ i with | some d=>.ok d | none=>stk):=rfl
theorem evO_v {cl:Nat→List D→Res D} {i:Nat} {τ:Ev} {mv:Bool}:evO cl mv (.v i) τ=(match slotD τ i with | some d=>if mv=true then .ok (d,τ.set i none) else .ok (er d,τ.set i (some (er d))) | none=>stk):=rfl
end L2
namespace L2
open PySem PySem.Spec PyProof.Rows PySem.SeqAt
section
variable {X:Cx} {pins:List (Addr×Obj)} {σ:St} {H:Hp} {S:Addr→Prop} {s:Shared}
theorem Inv.not_both (I:Inv X pins σ H s) {a:Addr} {xs ys:List V} (h1:SqL X.K H a xs) (h2:SqT X.K H a ys):False:=by
 obtain⟨its,_,⟨o,n,e,c,_⟩,_⟩:=I.list h1
 obtain⟨its',_,⟨o',e',c',_⟩,_⟩:=I.tuple h2
 rw[e] at e';cases e'
 rw[c] at c'
 injection c' with c'
 exact absurd c' (by decide)
theorem Inv.exc_at (I:Inv X pins σ H s) {a:Addr} {c:Str} (h:SqE X.K H a (.inr c)):∃ C o vs,PySem.W.nsIn X.K mainGlobals c=some (some (.ref C))∧nameIn X.K C=some c∧s.heap.get? a=some o∧o.cls=.ref C∧o.data=.fields vs:=by
 obtain⟨C,o,vs,h0,h1,h2,h3,h4⟩:=h
 exact⟨C,o,vs,h0,h1,(I.hok a _ h2).1,h3,h4⟩
theorem Inv.exc_one (I:Inv X pins σ H s) {a:Addr} {c c':Str} (h:SqE X.K H a (.inr c)) (k:SqE X.K H a (.inr c')):c=c':=by
 obtain⟨C,o,vs,_,n1,e,c1,_⟩:=I.exc_at h
 obtain⟨C',o',vs',_,n2,e',c2,_⟩:=I.exc_at k
 rw[e] at e';cases e'
 rw[c1] at c2;cases c2
 rw[n1] at n2;cases n2
 rfl
theorem Inv.exc_tup (I:Inv X pins σ H s) {a:Addr} {c:Str} {xs:List V} (h:SqE X.K H a (.inr c)) (k:SqT X.K H a xs):False:=by
 obtain⟨C,o,vs,_,_,e,c1,_⟩:=I.exc_at h
 obtain⟨its',_,⟨o',e',c',_⟩,_⟩:=I.tuple k
 rw[e] at e';cases e'
 rw[c1] at c';cases c'
theorem Inv.exc_lst (I:Inv X pins σ H s) {a:Addr} {c:Str} {xs:List V} (h:SqE X.K H a (.inr c)) (k:SqL X.K H a xs):False:=by
 obtain⟨C,o,vs,_,_,e,c1,_⟩:=I.exc_at h
 obtain⟨its',_,⟨o',n,e',c',_⟩,_⟩:=I.list k
 rw[e] at e';cases e'
 rw[c1] at c';cases c'
mutual
theorem HRep.one (I:Inv X pins σ H s):∀ {v:V} {d e:D},HRep X.K S H v d→HRep X.K S H v e→er d=er e
 | _,_,_,.non,h=>by cases h;rfl
 | _,_,_,.bl b,h=>by cases h;rfl
 | _,_,_,.int i,h=>by cases h;rfl
 | _,_,_,.str x,h=>by cases h;rfl
 | _,_,_,.exc h0,h=>by
  cases h with
  | exc k1=>exact congrArg D.exc (I.exc_one h0 k1)
  | tup k1 k2=>exact(I.exc_tup h0 k1).elim
  | lst k0 k1 k2=>exact(I.exc_lst h0 (.inl k1)).elim
  | lstK k1 k2=>exact(I.exc_lst h0 k1.sq).elim
 | _,_,_,.tup h1 h2,h=>by
  cases h with
  | exc k1=>exact(I.exc_tup k1 h1).elim
  | tup k1 k2=>
   have e:=I.tuple_inj h1 k1
   subst e
   rw[er,er,HReps.one I h2 k2]
  | lst k0 k1 k2=>exact(I.not_both (.inl k1) h1).elim
  | lstK k1 k2=>exact(I.not_both k1.sq h1).elim
 | _,_,_,.lst h0 h1 h2,h=>by
  cases h with
  | exc k1=>exact(I.exc_lst k1 (.inl h1)).elim
  | tup k1 k2=>exact(I.not_both (.inl h1) k1).elim
  | lst k0 k1 k2=>
   have e:=I.list_inj (.inl h1) (.inl k1)
   subst e
   rw[er,er,HReps.one I h2 k2]
  | lstK k1 k2=>
   have e:=I.list_inj (.inl h1) k1.sq
   subst e
   rw[er,er,HReps.one I h2 k2]
 | _,_,_,.lstK h1 h2,h=>by
  cases h with
  | exc k1=>exact(I.exc_lst k1 h1.sq).elim
  | tup k1 k2=>exact(I.not_both h1.sq k1).elim
  | lst k0 k1 k2=>
   have e:=I.list_inj h1.sq (.inl k1)
   subst e
   rw[er,er,HReps.one I h2 k2]
  | lstK k1 k2=>
   have e:=I.list_inj h1.sq k1.sq
   subst e
   rw[er,er,HReps.one I h2 k2]
theorem HReps.one (I:Inv X pins σ H s):∀ {vs:List V} {ds es:List D},HReps X.K S H vs ds→HReps X.K S H vs es→ers ds=ers es
 | _,_,_,.nil,h=>by cases h;rfl
 | _,_,_,.cons h1 h2,h=>by
  cases h with
  | cons k1 k2=>rw[ers,ers,HRep.one I h1 k1,HReps.one I h2 k2]
end
end
theorem bnd_ok {α β:Type} {x:Res α} {f:α→Res β} {b:β} (h:bnd x f=.ok b):∃ a,x=.ok a∧f a=.ok b:=by
 cases x with
 | error e=>cases h
 | ok a=>exact⟨a,rfl,h⟩
theorem grd_ok {α:Type} {c:Bool} {x:Res α} {b:α} (h:grd c x=.ok b):c=true∧x=.ok b:=by
 unfold grd at h
 cases c with
 | true=>exact⟨rfl,h⟩
 | false=>cases h
theorem eqsG_refl {f:D→D→Res Bool} (hf:∀ d e r,f d e=.ok r→er d=er e→r=true):∀ {ds es:List D} {r:Bool},eqsG f ds es=.ok r→ers ds=ers es→r=true
 | [],[],r,h,_=>by cases h;rfl
 | [],_::_,_,_,h=>by rw[ers,ers] at h;cases h
 | _::_,[],_,_,h=>by rw[ers,ers] at h;cases h
 | a::ds,b::es,r,h,h'=>by
  rw[ers,ers] at h'
  injection h' with e1 e2
  obtain⟨x,hx,h⟩:=bnd_ok (show bnd (f a b) (fun x=>bnd (eqsG f ds es) fun y=>.ok (x && y))=.ok r from h)
  obtain⟨y,hy,h⟩:=bnd_ok h
  cases h
  rw[hf a b x hx e1,eqsG_refl hf hy e2]
  rfl
theorem eqN_refl:∀ (n:Nat) (d e:D) (r:Bool),eqN n d e=.ok r→er d=er e→r=true
 | 0,_,_,_,h,_=>by cases h
 | n + 1,d,e,r,h,h'=>by
  cases d with
  | tup ds=>
   cases e with
   | tup es=>
    rw[er,er] at h'
    injection h' with e1
    exact eqsG_refl (eqN_refl n) h e1
   | non=>rw[er,er] at h';cases h'
   | bl _=>rw[er,er] at h';cases h'
   | int _=>rw[er,er] at h';cases h'
   | str _=>rw[er,er] at h';cases h'
   | lst _ _=>rw[er,er] at h';cases h'
   | exc _=>cases h
  | lst o ds=>
   cases e with
   | lst o' es=>
    rw[er,er] at h'
    injection h' with _ e1
    exact eqsG_refl (eqN_refl n) h e1
   | non=>rw[er,er] at h';cases h'
   | bl _=>rw[er,er] at h';cases h'
   | int _=>rw[er,er] at h';cases h'
   | str _=>rw[er,er] at h';cases h'
   | tup _=>rw[er,er] at h';cases h'
   | exc _=>cases h
  | exc _=>cases h
  | non=>cases e<;>first | (cases h;done) | (cases h;rfl) | (exfalso;simp[er] at h')
  | bl b=>cases e<;>first | (simp only[er,D.bl.injEq] at h';subst h';cases h;simp) | (exfalso;simp[er] at h')
  | int b=>cases e<;>first | (simp only[er,D.int.injEq] at h';subst h';cases h;simp) | (exfalso;simp[er] at h')
  | str b=>cases e<;>first | (simp only[er,D.str.injEq] at h';subst h';cases h;simp) | (exfalso;simp[er] at h')
theorem eqsG_len {f:D→D→Res Bool}:∀ {ds es:List D} {r:Bool},eqsG f ds es=.ok r→ds.length≠es.length→r=false
 | [],[],_,_,h=>absurd rfl h
 | [],_::_,_,h,_=>by cases h;rfl
 | _::_,[],_,h,_=>by cases h;rfl
 | a::ds,b::es,r,h,n=>by
  obtain⟨x,hx,h⟩:=bnd_ok (show bnd (f a b) (fun x=>bnd (eqsG f ds es) fun y=>.ok (x && y))=.ok r from h)
  obtain⟨y,hy,h⟩:=bnd_ok h
  cases h
  rw[eqsG_len hy (fun z=>n (by rw[List.length_cons,List.length_cons,z]))]
  simp
theorem eqsG_at {f:D→D→Res Bool}:∀ {ds es:List D} {r:Bool},eqsG f ds es=.ok r→ds.length=es.length→
  ∃ e:Nat→Bool,(∀ j a b,ds[j]? = some a→es[j]? = some b→f a b=.ok (e j))∧r=(List.range ds.length).all e
 | [],[],r,h,_=>by cases h;exact⟨fun _=>true,fun j a b h=>by simp at h,rfl⟩
 | [],_::_,_,_,h=>by cases h
 | _::_,[],_,_,h=>by cases h
 | a::ds,b::es,r,h,n=>by
  obtain⟨x,hx,h⟩:=bnd_ok (show bnd (f a b) (fun x=>bnd (eqsG f ds es) fun y=>.ok (x && y))=.ok r from h)
  obtain⟨y,hy,h⟩:=bnd_ok h
  cases h
  obtain⟨e,h1,h2⟩:=eqsG_at hy (by simpa using n)
  refine⟨fun j=>match j with | 0=>x | k + 1=>e k,fun j a' b' e1 e2=>?_,?_⟩
  ·cases j with
   | zero=>simp at e1 e2;subst e1 e2;exact hx
   | succ k=>exact h1 k a' b' (by simpa using e1) (by simpa using e2)
  ·rw[h2,List.length_cons,List.range_succ_eq_map,List.all_cons,List.all_map]
   rfl
section
variable {X:Cx} {pins:List (Addr×Obj)} {σ:St} {H:Hp} {S:Addr→Prop} {s:Shared}
structure EqAll (A:Around) (s:Shared) (v u:Value) (r:Bool):Prop where
 eq:EqAt A s v u r
 rc:RcAt A s v u r
 ne:RcNeAt A s v u (!r)
theorem items_eq (n:Nat) (A:Around) (ih:∀ (x y:V) (v u:Value) (d e:D) (r:Bool),HRep X.K S H x d→HRep X.K S H y e→RelV x v→RelV y u→eqN n d e=.ok r→EqAt A.in1 s v u r)
  {xs ys:List V} {ds es:List D} {its its':List Value} {r:Bool} (rv:Vals xs its) (rv':Vals ys its') (h2:HReps X.K S H xs ds) (k2:HReps X.K S H ys es) (hr:eqsG (eqN n) ds es=.ok r) :
  ∃ e:Nat→Bool,(∀ j (q1:j < its.toArray.size) (q2:j < its'.toArray.size),EqAt A.in1 s its.toArray[j] its'.toArray[j] (e j))∧r=((List.range (min its.toArray.size its'.toArray.size)).all e && its.toArray.size == its'.toArray.size):=by
 have l1:=h2.length
 have l2:=k2.length
 have l3:=rv.length
 have l4:=rv'.length
 have pair:∀ j (j1:j < its.toArray.size) (j2:j < its'.toArray.size) (b:Bool) (d1:j < ds.length) (d2:j < es.length),eqN n ds[j] es[j]=.ok b→EqAt A.in1 s its.toArray[j] its'.toArray[j] b:=by
  intro j j1 j2 b d1 d2 hb
  obtain⟨x',e1,m1⟩:=h2.get (i:=j) (d:=ds[j]) (by simp)
  obtain⟨y',e2,m2⟩:=k2.get (i:=j) (d:=es[j]) (by simp)
  obtain⟨v',ev,rv1⟩:=rv.get e1
  obtain⟨u',eu,ru1⟩:=rv'.get e2
  have hv:its.toArray[j]=v':=by
   have:=(List.getElem?_eq_some_iff.mp ev).2
   simpa using this
  have hu':its'.toArray[j]=u':=by
   have:=(List.getElem?_eq_some_iff.mp eu).2
   simpa using this
  rw[hv,hu']
  exact ih x' y' v' u' _ _ _ m1 m2 rv1 ru1 hb
 have z1:its.toArray.size=ds.length:=by simp;omega
 have z2:its'.toArray.size=es.length:=by simp;omega
 by_cases hl:ds.length=es.length
 ·obtain⟨e,q1,q2⟩:=eqsG_at hr hl
  refine⟨e,fun j j1 j2=>pair j j1 j2 _ (by omega) (by omega) (q1 j _ _ (by simp) (by simp)),?_⟩
  rw[q2,z1,z2,hl]
  simp
 ·have hr':=eqsG_len hr hl
  have each:∀ (ds es:List D) (r:Bool),eqsG (eqN n) ds es=.ok r→∀ j (q1:j < ds.length) (q2:j < es.length),∃ b,eqN n ds[j] es[j]=.ok b:=by
   intro ds
   induction ds with
   | nil=>intro es r _ j q1;simp at q1
   | cons a ds ih=>
    intro es r h j q1 q2
    cases es with
    | nil=>simp at q2
    | cons b es=>
     obtain⟨x,hx,h⟩:=bnd_ok (show bnd (eqN n a b) (fun x=>bnd (eqsG (eqN n) ds es) fun y=>.ok (x && y))=.ok r from h)
     obtain⟨y,hy,h⟩:=bnd_ok h
     cases j with
     | zero=>exact⟨x,hx⟩
     | succ k=>exact ih es y hy k (by simpa using q1) (by simpa using q2)
  refine⟨fun j=>if q:j < ds.length∧j < es.length then ((match eqN n (ds[j]'q.1) (es[j]'q.2) with | .ok b=>b | .error _=>false)) else false,fun j j1 j2=>?_,?_⟩
  ·have d1:j < ds.length:=by omega
   have d2:j < es.length:=by omega
   obtain⟨b,hb⟩:=each ds es r hr j d1 d2
   have q:=pair j j1 j2 b d1 d2 hb
   show EqAt A.in1 s its.toArray[j] its'.toArray[j] (dite _ _ _)
   rw[dif_pos (show j < ds.length∧j < es.length from ⟨d1,d2⟩),hb]
   exact q
  ·rw[hr']
   have:(its.toArray.size == its'.toArray.size)=false:=by
    rw[beq_eq_false_iff_ne,z1,z2]
    exact hl
   rw[this,Bool.and_false]
theorem lists_eq (I:Inv X pins σ H s) (n:Nat) (A:Around) (ih:∀ (x y:V) (v u:Value) (d e:D) (r:Bool),HRep X.K S H x d→HRep X.K S H y e→RelV x v→RelV y u→eqN n d e=.ok r→EqAt A.in1 s v u r)
  {a b:Addr} {o o':Bool} {xs ys:List V} {ds es:List D} {r:Bool} (ha:SqL X.K H a xs) (hb:SqL X.K H b ys) (h2:HReps X.K S H xs ds) (k2:HReps X.K S H ys es)
  (m1:HRep X.K S H (.ref a) (.lst o ds)) (m2:HRep X.K S H (.ref b) (.lst o' es)) (hr:eqsG (eqN n) ds es=.ok r) (hu0:A.units < cLine):EqAll A s (.ref a) (.ref b) r:=by
 obtain⟨its,rv,p,_⟩:=I.list ha
 obtain⟨its',rv',p',_⟩:=I.list hb
 obtain⟨e,he,hre⟩:=items_eq n A ih rv rv' h2 k2 hr
 have both:RcAt A s (.ref a) (.ref b) r∧RcNeAt A s (.ref a) (.ref b) (!r):=by
  by_cases hl:its.toArray.size=its'.toArray.size
  ·have hre':r=(List.range its.toArray.size).all e:=by
    rw[hre,← hl,Nat.min_self]
    simp
   rw[hre']
   exact⟨.lists p.isList p'.isList hl hu0 he,.lists p.isList p'.isList hl hu0 he⟩
  ·have hne:(its.toArray.size != its'.toArray.size)=true:=by simpa using hl
   have hre':r=false:=by
    rw[hre]
    have:(its.toArray.size == its'.toArray.size)=false:=by rw[beq_eq_false_iff_ne];exact hl
    rw[this,Bool.and_false]
   rw[hre']
   exact⟨.lists_lengths p.isList p'.isList hne hu0,.lists_lengths p.isList p'.isList hne hu0⟩
 refine⟨?_,both.1,both.2⟩
 by_cases hab:a=b
 ·subst hab
  have hd:=HRep.one I m1 m2
  rw[er,er] at hd
  injection hd with _ hd
  rw[eqsG_refl (eqN_refl n) hr hd]
  exact .same _
 ·exact .of_refs hab both.1
set_option maxHeartbeats 4000000 in
theorem eqN_ok (I:Inv X pins σ H s):∀ (n:Nat) (A:Around) (x y:V) (v u:Value) (d e:D) (r:Bool),HRep X.K S H x d→HRep X.K S H y e→RelV x v→RelV y u→eqN n d e=.ok r→
  A.units + n < cLine→EqAll A s v u r
 | 0,_,_,_,_,_,_,_,_,_,_,_,_,h,_=>by cases h
 | n + 1,A,x,y,v,u,d,e,r,hx,hy,rx,ry,h,hu=>by
  have hu0:A.units < cLine:=by omega
  have hu1:A.in1.units + n < cLine:=by show A.units + 1 + n < cLine;omega
  have ih:∀ (x y:V) (v u:Value) (d e:D) (r:Bool),HRep X.K S H x d→HRep X.K S H y e→RelV x v→RelV y u→eqN n d e=.ok r→EqAt A.in1 s v u r:=
   fun x y v u d e r a1 a2 a3 a4 a5=>(eqN_ok I n A.in1 x y v u d e r a1 a2 a3 a4 a5 hu1).eq
  cases d with
  | non=>
   cases hx.nonR;cases rx
   cases e with
   | non=>cases hy.nonR;cases ry;cases h;exact⟨.same _,.none_none,.none_none⟩
   | bl b'=>cases hy.blR;cases ry;cases h;exact⟨.none_bool _,.none_bool _,.none_bool _⟩
   | int i'=>cases hy.intR;obtain⟨t2,rfl⟩:=ry;cases h;exact⟨.none_int _ _,.none_int _ _,.none_int _ _⟩
   | str z'=>cases hy.strR;obtain⟨t2,rfl⟩:=ry;cases h;exact⟨.none_str _ _,.none_str _ _,.none_str _ _⟩
   | tup es=>obtain⟨a2,xs2,rfl,q2,m2⟩:=hy.tupR;cases ry;obtain⟨its2,rv2,p2,_⟩:=I.tuple q2;cases h;exact⟨.none_tuple p2 hu0,.none_tuple p2 hu0,.none_tuple p2 hu0⟩
   | lst o' es=>obtain⟨a2,xs2,rfl,q2,m2⟩:=hy.lstR;cases ry;obtain⟨its2,rv2,p2,_⟩:=I.list q2;cases h;exact⟨.none_list p2.isList hu0,.none_list p2.isList hu0,.none_list p2.isList hu0⟩
   | exc _=>cases h
  | bl b=>
   cases hx.blR;cases rx
   cases e with
   | non=>cases hy.nonR;cases ry;cases h;exact⟨.bool_none _,.bool_none _,.bool_none _⟩
   | bl b'=>cases hy.blR;cases ry;cases h;exact⟨.bool_bool _ _,.bool_bool _ _,.bool_bool _ _⟩
   | int i'=>cases hy.intR;obtain⟨t2,rfl⟩:=ry;cases h;exact⟨.bool_int _ _ _,.bool_int _ _ _,.bool_int _ _ _⟩
   | str z'=>cases hy.strR;obtain⟨t2,rfl⟩:=ry;cases h;exact⟨.bool_str _ _ _,.bool_str _ _ _,.bool_str _ _ _⟩
   | tup es=>obtain⟨a2,xs2,rfl,q2,m2⟩:=hy.tupR;cases ry;obtain⟨its2,rv2,p2,_⟩:=I.tuple q2;cases h;exact⟨.bool_tuple _ p2 hu0,.bool_tuple _ p2 hu0,.bool_tuple _ p2 hu0⟩
   | lst o' es=>obtain⟨a2,xs2,rfl,q2,m2⟩:=hy.lstR;cases ry;obtain⟨its2,rv2,p2,_⟩:=I.list q2;cases h;exact⟨.bool_list _ p2.isList hu0,.bool_list _ p2.isList hu0,.bool_list _ p2.isList hu0⟩
   | exc _=>cases h
  | int i=>
   cases hx.intR;obtain⟨t1,rfl⟩:=rx
   cases e with
   | non=>cases hy.nonR;cases ry;cases h;exact⟨.int_none _ _,.int_none _ _,.int_none _ _⟩
   | bl b'=>cases hy.blR;cases ry;cases h;exact⟨.int_bool _ _ _,.int_bool _ _ _,.int_bool _ _ _⟩
   | int i'=>cases hy.intR;obtain⟨t2,rfl⟩:=ry;cases h;exact⟨.int_int _ _ _ _,.int_int _ _ _ _,.int_int _ _ _ _⟩
   | str z'=>cases hy.strR;obtain⟨t2,rfl⟩:=ry;cases h;exact⟨.int_str _ _ _ _,.int_str _ _ _ _,.int_str _ _ _ _⟩
   | tup es=>obtain⟨a2,xs2,rfl,q2,m2⟩:=hy.tupR;cases ry;obtain⟨its2,rv2,p2,_⟩:=I.tuple q2;cases h;exact⟨.int_tuple _ _ p2 hu0,.int_tuple _ _ p2 hu0,.int_tuple _ _ p2 hu0⟩
   | lst o' es=>obtain⟨a2,xs2,rfl,q2,m2⟩:=hy.lstR;cases ry;obtain⟨its2,rv2,p2,_⟩:=I.list q2;cases h;exact⟨.int_list _ _ p2.isList hu0,.int_list _ _ p2.isList hu0,.int_list _ _ p2.isList hu0⟩
   | exc _=>cases h
  | str z=>
   cases hx.strR;obtain⟨t1,rfl⟩:=rx
   cases e with
   | non=>cases hy.nonR;cases ry;cases h;exact⟨.str_none _ _,.str_none _ _,.str_none _ _⟩
   | bl b'=>cases hy.blR;cases ry;cases h;exact⟨.str_bool _ _ _,.str_bool _ _ _,.str_bool _ _ _⟩
   | int i'=>cases hy.intR;obtain⟨t2,rfl⟩:=ry;cases h;exact⟨.str_int _ _ _ _,.str_int _ _ _ _,.str_int _ _ _ _⟩
   | str z'=>cases hy.strR;obtain⟨t2,rfl⟩:=ry;cases h;exact⟨.str_str _ _ _ _,.str_str _ _ _ _,.str_str _ _ _ _⟩
   | tup es=>obtain⟨a2,xs2,rfl,q2,m2⟩:=hy.tupR;cases ry;obtain⟨its2,rv2,p2,_⟩:=I.tuple q2;cases h;exact⟨.str_tuple _ _ p2 hu0,.str_tuple _ _ p2 hu0,.str_tuple _ _ p2 hu0⟩
   | lst o' es=>obtain⟨a2,xs2,rfl,q2,m2⟩:=hy.lstR;cases ry;obtain⟨its2,rv2,p2,_⟩:=I.list q2;cases h;exact⟨.str_list _ _ p2.isList hu0,.str_list _ _ p2.isList hu0,.str_list _ _ p2.isList hu0⟩
   | exc _=>cases h
  | tup ds=>
   obtain⟨a1,xs1,rfl,q1,m1⟩:=hx.tupR;cases rx;obtain⟨its1,rv1,p1,_⟩:=I.tuple q1
   cases e with
   | non=>cases hy.nonR;cases ry;cases h;exact⟨.tuple_none p1 hu0,.tuple_none p1 hu0,.tuple_none p1 hu0⟩
   | bl b'=>cases hy.blR;cases ry;cases h;exact⟨.tuple_bool _ p1 hu0,.tuple_bool _ p1 hu0,.tuple_bool _ p1 hu0⟩
   | int i'=>cases hy.intR;obtain⟨t2,rfl⟩:=ry;cases h;exact⟨.tuple_int _ _ p1 hu0,.tuple_int _ _ p1 hu0,.tuple_int _ _ p1 hu0⟩
   | str z'=>cases hy.strR;obtain⟨t2,rfl⟩:=ry;cases h;exact⟨.tuple_str _ _ p1 hu0,.tuple_str _ _ p1 hu0,.tuple_str _ _ p1 hu0⟩
   | tup es=>
    have hx':=hx
    have hy':=hy
    obtain⟨a2,xs2,rfl,q2,m2⟩:=hy.tupR;cases ry;obtain⟨its2,rv2,p2,_⟩:=I.tuple q2
    have hr:eqsG (eqN n) ds es=.ok r:=h
    obtain⟨e,he,hre⟩:=items_eq n A ih rv1 rv2 m1 m2 hr
    refine⟨?_,?_,?_⟩
    ·by_cases hab:a1=a2
     ·subst hab
      have hd:=HRep.one I hx' hy'
      rw[er,er] at hd
      injection hd with hd
      rw[eqsG_refl (eqN_refl n) hr hd]
      exact .same _
     ·rw[hre]
      exact .of_refs hab (.tuples p1 p2 hu0 he)
    ·rw[hre]
     exact .tuples p1 p2 hu0 he
    ·rw[hre]
     exact .tuples p1 p2 hu0 he
   | lst o' es=>obtain⟨a2,xs2,rfl,q2,m2⟩:=hy.lstR;cases ry;obtain⟨its2,rv2,p2,_⟩:=I.list q2;cases h;exact⟨.tuple_list p1 p2.isList hu0,.tuple_list p1 p2.isList hu0,.tuple_list p1 p2.isList hu0⟩
   | exc _=>cases h
  | lst o ds=>
   obtain⟨a1,xs1,rfl,q1,m1⟩:=hx.lstR;cases rx;obtain⟨its1,rv1,p1,_⟩:=I.list q1
   cases e with
   | non=>cases hy.nonR;cases ry;cases h;exact⟨.list_none p1.isList hu0,.list_none p1.isList hu0,.list_none p1.isList hu0⟩
   | bl b'=>cases hy.blR;cases ry;cases h;exact⟨.list_bool _ p1.isList hu0,.list_bool _ p1.isList hu0,.list_bool _ p1.isList hu0⟩
   | int i'=>cases hy.intR;obtain⟨t2,rfl⟩:=ry;cases h;exact⟨.list_int _ _ p1.isList hu0,.list_int _ _ p1.isList hu0,.list_int _ _ p1.isList hu0⟩
   | str z'=>cases hy.strR;obtain⟨t2,rfl⟩:=ry;cases h;exact⟨.list_str _ _ p1.isList hu0,.list_str _ _ p1.isList hu0,.list_str _ _ p1.isList hu0⟩
   | tup es=>obtain⟨a2,xs2,rfl,q2,m2⟩:=hy.tupR;cases ry;obtain⟨its2,rv2,p2,_⟩:=I.tuple q2;cases h;exact⟨.list_tuple p1.isList p2 hu0,.list_tuple p1.isList p2 hu0,.list_tuple p1.isList p2 hu0⟩
   | lst o' es=>
    have hx':=hx
    have hy':=hy
    obtain⟨a2,xs2,rfl,q2,m2⟩:=hy.lstR;cases ry;obtain⟨its2,rv2,p2,_⟩:=I.list q2
    exact lists_eq I n A ih q1 q2 m1 m2 hx' hy' h hu0
   | exc _=>cases h
  | exc _=>cases h
end
end L2
namespace L2
open PySem PySem.Spec PyProof.Rows PySem.SeqAt
noncomputable abbrev nw (S:Addr→Prop) (H:Hp):Addr→Prop:=fun a=>S a∨H a=none
noncomputable abbrev Kk (K:PySem.W.Frag) (S:Addr→Prop) (H:Hp) (Q:VK):D→Prop:=fun d=>∀ w H',Same H H'→HRep K (nw S H) H' w d→Q w H'
theorem HRep.nw {K:PySem.W.Frag} {S:Addr→Prop} {H:Hp} {v:V} {d:D} (h:HRep K S H v d):HRep K (nw S H) H v d:=h.mono (fun _=>.inl) (.refl _)
theorem newT {K:PySem.W.Frag} {S:Addr→Prop} {H:Hp} {p:Addr} {vs:List V} {ds:List D} (hp:H p=none) (h:HReps K S H vs ds):HRep K (nw S H) (upd H p (.tup vs)) (.ref p) (.tup ds):=
 .tup (.inl (.inl upd_same)) (h.mono (fun _=>.inl) (.upd hp))
theorem newL {K:PySem.W.Frag} {S:Addr→Prop} {H:Hp} {p:Addr} {vs:List V} {ds:List D} {o:Bool} (hp:H p=none) (h:HReps K S H vs ds):HRep K (nw S H) (upd H p (.lst vs)) (.ref p) (.lst o ds):=
 .lst (.inr hp) (.inl upd_same) (h.mono (fun _=>.inl) (.upd hp))
noncomputable def bop:BOp→Operator
 | .add=>.Add | .sub=>.Sub | .mul=>.Mult | .fdiv=>.FloorDiv | .mod=>.Mod | .pow=>.Pow
noncomputable def cop:COp→CmpOp
 | .eq=>.Eq | .ne=>.NotEq | .lt=>.Lt | .le=>.LtE | .gt=>.Gt | .ge=>.GtE | .in_=>.In | .nin=>.NotIn | .is_=>.Is | .isn=>.IsNot
noncomputable def rBin (K:PySem.W.Frag) (ex:Str→Prop) (op:BOp):R2:=fun x y H Q=>∃ S d e,HRep K S H x d∧HRep K S H y e∧PO' ex (opB op d e) (Kk K S H Q)
noncomputable def rCmp (K:PySem.W.Frag) (ex:Str→Prop) (op:COp):R2:=fun x y H Q=>∃ S d e,HRep K S H x d∧HRep K S H y e∧PO' ex (opC op d e) fun r=>Q (.bl r) H
section
variable {X:Cx} {ex:Str→Prop}
theorem szOk_le {n:Nat} (h:szOk n=true):n≤sizeLine:=of_decide_eq_true h
theorem szLt_lt {n:Nat} (h:szLt n=true):n < sizeLine:=of_decide_eq_true h
theorem op_catL:OpR X (binaryOp .Add) (fun x y H Q=>∃ l b xs zs,x=.ref l∧y=.ref b∧Ls X.K H l xs∧Ls X.K H b zs∧xs.length + zs.length≤sizeLine∧∀ p,H p=none→Q (.ref p) (upd H p (.lst (xs++zs)))):=by
 intro pins s σ H x y v u Q I rx ry h
 obtain⟨l,b,xs,zs,rfl,rfl,hH,hB,hz,q⟩:=h
 cases rx
 cases ry
 obtain⟨hl,its,n,r,e⟩:=I.ls hH
 obtain⟨hl2,its2,n2,r2,e'⟩:=I.ls hB
 have e1:=r.length
 have e2:=r2.length
 refine PySem.P.add_list e e' ?_ (by rw[List.size_toArray,List.size_toArray];omega)
 have ea:its.toArray++its2.toArray=(its++its2).toArray:=by simp
 rw[ea]
 exact⟨.ref _,_,I.lnew (t':=s.toks) (r.append r2) (by rw[List.length_append];omega),rfl,q _ I.fresh⟩
theorem vals_rep {vs:List V} {its:List Value} (r:Vals vs its):∀ k:Nat,Vals (List.replicate k vs).flatten (List.replicate k its).flatten:=r.rep
theorem op_repL:OpR X (binaryOp .Mult) (fun x y H Q=>∃ l k xs,x=.ref l∧y=.int k∧Ls X.K H l xs∧0≤k∧k≤16000∧xs.length≤1000∧∀ p,H p=none→Q (.ref p) (upd H p (.lst (List.replicate k.toNat xs).flatten))):=by
 intro pins s σ H x y v u Q I rx ry h
 obtain⟨l,k,xs,rfl,rfl,hH,h1,h2,hx,q⟩:=h
 cases rx
 obtain⟨t,rfl⟩:=ry
 obtain⟨hl,its,n,r,e⟩:=I.ls hH
 have el:=r.length
 have hz:xs.length * k.toNat≤1000 * 16000:=Nat.mul_le_mul hx (by omega)
 have big:1000 * 16000≤sizeLine:=by decide
 have hsz:its.toArray.size * k.toNat≤sizeLine:=by rw[List.size_toArray,← el];omega
 have c1:¬ its.toArray.size * k.toNat > (2 ^ 63 - 1) / 8:=by
  have:(sizeLine:Nat)≤(2 ^ 63 - 1) / 8:=by decide
  omega
 have c2:¬ (!Builtin.List.listFitsIndex k)=true:=by
  rw[fitsIndex_both (by omega) (by omega)]
  exact Bool.false_ne_true
 have c3:¬ Builtin.List.listTooLong (its.toArray.size * k.toNat)=true:=by
  rw[notLongL hsz]
  exact Bool.false_ne_true
 have f0:∀ m:Nat,List.foldl (fun a b=>a++b) #[] (List.replicate m its.toArray)=(List.replicate m its).flatten.toArray:=fun m=>by
  have z:=foldl_rep its m []
  rw[List.nil_append] at z
  exact z
 have f1:List.foldl (fun a b=>a++b) #[] (List.replicate (if its.toArray.isEmpty=true then 0 else k.toNat) its.toArray)=(List.replicate k.toNat its).flatten.toArray:=by
  rw[f0]
  cases its with
  | nil=>simp
  | cons _ _=>rw[if_neg (by simp)]
 refine wpAny_binaryOp_repeat_ref (T:="list") (U:="int") (by decide) ⟨_,e,rfl⟩ (fun s'=>typeIs_int s' k t) noFill_list_mul F.fills_int_mul F.slot_int_rmul repeat_list F.slot_int_index.lookup (call_meets F.slot_int_rmul (typeIs_int s k t) F.entry_int_rmul (F.args_int_rmul_2 _ _) (int___rmul___int_list k t l its.toArray n) ⟨e,rfl,⟨_,e,rfl⟩,call_meets F.slot_list_mul ⟨_,e,rfl⟩ F.entry_list_mul (F.args_list_mul_2 _ _) (AutoListH.list___mul___list_int_3 l its.toArray n k t c2 c1 c3) ⟨e,?_⟩⟩)
 rw[f1]
 exact⟨.ref _,_,I.lnew (t':=s.toks) (vals_rep r k.toNat) (by rw[len_rep,Nat.mul_comm];omega),rfl,q _ I.fresh⟩
theorem HReps.rep {K:PySem.W.Frag} {S:Addr→Prop} {H:Hp} {vs:List V} {ds:List D} (m:HReps K S H vs ds):∀ k:Nat,HReps K S H (List.replicate k vs).flatten (List.replicate k ds).flatten
 | 0=>.nil
 | k + 1=>by
  rw[List.replicate_succ,List.replicate_succ,List.flatten_cons,List.flatten_cons]
  exact m.append (HReps.rep m k)
theorem opB_ok (op:BOp):OpR X (binaryOp (bop op)) (rBin X.K ex op):=by
 intro pins s σ H x y v u Q I rx ry h
 obtain⟨S,d,e,hx,hy,h⟩:=h
 have stuck:∀ {P:Prop},opB op d e=stk→P:=fun z=>by rw[z] at h;exact h.no.elim
 cases op with
 | add=>
  cases d with
  | int a=>
   cases e with
   | int b=>cases hx.intR;cases hy.intR;exact op_add pins s σ H _ _ v u Q I rx ry ⟨a,b,rfl,rfl,h.ok _ _ (.refl _) (.int _)⟩
   | _=>exact stuck rfl
  | str a=>
   cases e with
   | str b=>
    cases hx.strR;cases hy.strR
    obtain⟨g,h⟩:=PO'.grd h
    exact op_add_str pins s σ H _ _ v u Q I rx ry ⟨a,b,rfl,rfl,szOk_le g,h.ok _ _ (.refl _) (.str _)⟩
   | _=>exact stuck rfl
  | lst o a=>
   cases e with
   | lst o' b=>
    obtain⟨p,xs,rfl,q1,m1⟩:=hx.lstL
    obtain⟨p',ys,rfl,q2,m2⟩:=hy.lstL
    obtain⟨g,h⟩:=PO'.grd h
    have g':=szOk_le g
    have l1:=m1.length
    have l2:=m2.length
    exact op_catL pins s σ H _ _ v u Q I rx ry ⟨p,p',xs,ys,rfl,rfl,q1,q2,by omega,fun z hz=>h.ok _ _ (.upd hz) (newL hz (m1.append m2))⟩
   | _=>exact stuck rfl
  | _=>exact stuck rfl
 | sub=>
  cases d with
  | int a=>
   cases e with
   | int b=>cases hx.intR;cases hy.intR;exact op_sub pins s σ H _ _ v u Q I rx ry ⟨a,b,rfl,rfl,h.ok _ _ (.refl _) (.int _)⟩
   | _=>exact stuck rfl
  | _=>exact stuck rfl
 | mul=>
  cases d with
  | int a=>
   cases e with
   | int b=>
    cases hx.intR;cases hy.intR
    obtain⟨g,h⟩:=PO'.grd h
    rw[Bool.or_eq_true] at g
    exact op_mul pins s σ H _ _ v u Q I rx ry ⟨a,b,rfl,rfl,g.elim (fun z=>.inl (of_decide_eq_true z)) (fun z=>.inr (of_decide_eq_true z)),h.ok _ _ (.refl _) (.int _)⟩
   | _=>exact stuck rfl
  | str a=>
   cases e with
   | int b=>
    cases hx.strR;cases hy.intR
    obtain⟨g,h⟩:=PO'.grd h
    have g':=of_decide_eq_true g
    exact op_mul_str pins s σ H _ _ v u Q I rx ry ⟨a,b,rfl,rfl,g'.1,g'.2.1,g'.2.2,h.ok _ _ (.refl _) (.str _)⟩
   | _=>exact stuck rfl
  | lst o a=>
   cases e with
   | int b=>
    obtain⟨p,xs,rfl,q1,m1⟩:=hx.lstL
    cases hy.intR
    obtain⟨g,h⟩:=PO'.grd h
    have g':=of_decide_eq_true g
    have l1:=m1.length
    exact op_repL pins s σ H _ _ v u Q I rx ry ⟨p,b,xs,rfl,rfl,q1,g'.1,g'.2.1,by rw[l1];exact g'.2.2,fun z hz=>h.ok _ _ (.upd hz) (newL hz (m1.rep _))⟩
   | _=>exact stuck rfl
  | _=>exact stuck rfl
 | fdiv=>
  cases d with
  | int a=>
   cases e with
   | int b=>
    cases hx.intR;cases hy.intR
    obtain⟨g,h⟩:=PO'.grd h
    exact op_fdiv pins s σ H _ _ v u Q I rx ry ⟨a,b,rfl,rfl,show 0 < b∧b < 1073741824 from of_decide_eq_true g,h.ok _ _ (.refl _) (.int _)⟩
   | _=>exact stuck rfl
  | _=>exact stuck rfl
 | mod=>
  cases d with
  | int a=>
   cases e with
   | int b=>
    cases hx.intR;cases hy.intR
    obtain⟨g,h⟩:=PO'.grd h
    exact op_mod pins s σ H _ _ v u Q I rx ry ⟨a,b,rfl,rfl,of_decide_eq_true g,h.ok _ _ (.refl _) (.int _)⟩
   | _=>exact stuck rfl
  | _=>exact stuck rfl
 | pow=>
  cases d with
  | int a=>
   cases e with
   | int b=>
    cases hx.intR;cases hy.intR
    obtain⟨g,h⟩:=PO'.grd h
    exact op_pow pins s σ H _ _ v u Q I rx ry ⟨a,b,rfl,rfl,show 0≤b∧b≤1000000∧a.natAbs < 2 ^ 64 from of_decide_eq_true g,h.ok _ _ (.refl _) (.int _)⟩
   | _=>exact stuck rfl
  | _=>exact stuck rfl
theorem PO'.eqN {ex:Str→Prop}:∀ {n:Nat} {d e:D} {k:Bool→Prop},PO' ex (L2.eqN n d e) k→∃ r,L2.eqN n d e=.ok r∧k r:=by
 have no:∀ (n:Nat) (d e:D) (c:Str),L2.eqN n d e≠.error (.exc c):=by
  intro n
  have seqs:∀ (f:D→D→Res Bool),(∀ d e c,f d e≠.error (.exc c))→∀ (ds es:List D) (c:Str),eqsG f ds es≠.error (.exc c):=by
   intro f hf ds
   induction ds with
   | nil=>intro es c h;cases es<;>cases h
   | cons a ds ih=>
    intro es c h
    cases es with
    | nil=>cases h
    | cons b es=>
     have h':L2.bnd (f a b) (fun x=>L2.bnd (eqsG f ds es) fun y=>.ok (x && y))=.error (.exc c):=h
     cases q:f a b with
     | error z=>rw[q] at h';exact hf a b c (by rw[q];exact h')
     | ok x=>
      rw[q] at h'
      have h2:L2.bnd (eqsG f ds es) (fun y=>.ok (x && y))=.error (.exc c):=h'
      cases q2:eqsG f ds es with
      | error z=>rw[q2] at h2;exact ih es c (by rw[q2];exact h2)
      | ok y=>rw[q2] at h2;cases h2
  induction n with
  | zero=>intro d e c h;cases h
  | succ n ih=>
   intro d e c h
   cases d<;>cases e<;>first | cases h | exact seqs _ ih _ _ _ h
 intro n d e k h
 cases q:L2.eqN n d e with
 | ok r=>rw[q] at h;exact⟨r,rfl,h⟩
 | error z=>
  rw[q] at h
  cases z with
  | stuck=>exact h.no.elim
  | exc c=>exact absurd q (no n d e c)
theorem PO'.anyN {ex:Str→Prop} {d:D}:∀ {ds:List D} {k:Bool→Prop},PO' ex (L2.anyN d ds) k→∃ f:Nat→Bool,(∀ i e,ds[i]? = some e→L2.eqN 40 e d=.ok (f i))∧k ((List.range ds.length).any f)
 | [],k,h=>⟨fun _=>false,fun i e z=>by simp at z,h⟩
 | e::r,k,h=>by
  obtain⟨x,ex',h1⟩:=PO'.eqN (PO'.bnd h)
  obtain⟨f,h2,h3⟩:=PO'.anyN (PO'.bnd h1)
  refine⟨fun i=>match i with | 0=>x | j + 1=>f j,fun i e' z=>?_,?_⟩
  ·cases i with
   | zero=>simp at z;subst z;exact ex'
   | succ j=>exact h2 j e' (by simpa using z)
  ·rw[List.length_cons,List.range_succ_eq_map,List.any_cons,List.any_map]
   exact h3
theorem any_choose {A:Around} {s:Shared} {v:Value} (its:List Value) (f:Nat→Bool) (h:∀ i u,its[i]? = some u→EqAt A s u v (f i)) :
  ∃ e:Value→Bool,(∀ y,y ∈ its.toArray→EqAt A s y v (e y))∧its.toArray.any e=(List.range its.length).any f:=by
 classical
 refine⟨fun y=>decide (∃ i,its[i]? = some y∧f i=true),fun y hy=>?_,?_⟩
 ·have hy':y ∈ its:=by simpa using hy
  obtain⟨j,hj⟩:=List.getElem?_of_mem hy'
  show EqAt A s y v (decide (∃ i,its[i]? = some y∧f i=true))
  by_cases q:∃ i,its[i]? = some y∧f i=true
  ·rw[decide_eq_true q]
   obtain⟨i,hi,fi⟩:=q
   have:=h i y hi
   rw[fi] at this
   exact this
  ·rw[decide_eq_false q]
   have:=h j y hj
   have fj:f j=false:=by
    cases z:f j with
    | false=>rfl
    | true=>exact absurd ⟨j,hj,z⟩ q
   rw[fj] at this
   exact this
 ·rw[Bool.eq_iff_iff]
  simp only[List.any_toArray,List.any_eq_true,List.mem_range,decide_eq_true_eq]
  constructor
  ·rintro ⟨y,hy,i,hi,fi⟩
   exact⟨i,(List.getElem?_eq_some_iff.mp hi).1,fi⟩
  ·rintro ⟨i,hi,fi⟩
   exact⟨its[i],List.getElem_mem hi,i,by simp[hi],fi⟩
theorem in_seq_ok (hu:X.A.units + 42 < cLine) {pins:List (Addr×Obj)} {s:Shared} {σ:St} {H:Hp} {S:Addr→Prop} {x:V} {v:Value} {d:D} {k:Bool→Prop} (I:Inv X pins σ H s) (rx:RelV x v) (hx:HRep X.K S H x d)
  {xs:List V} {its:List Value} {ds:List D} (rv:Vals xs its) (m:HReps X.K S H xs ds) (h:PO' ex (anyN d ds) k) :
  ∃ e:Value→Bool,(∀ y,y ∈ its.toArray→EqAt X.A.in1 s y v (e y))∧k (its.toArray.any e):=by
 obtain⟨f,h1,h2⟩:=PO'.anyN h
 have l1:=rv.length
 have l2:=m.length
 obtain⟨e,h3,h4⟩:=any_choose (A:=X.A.in1) (s:=s) (v:=v) its f fun i u hi=>by
  have hlt:i < its.length:=(List.getElem?_eq_some_iff.mp hi).1
  obtain⟨y,hy,my⟩:=m.get (i:=i) (d:=ds[i]'(by omega)) (by simp)
  obtain⟨u',hu',ru⟩:=rv.get hy
  rw[hi] at hu';cases hu'
  exact(eqN_ok I 40 X.A.in1 y x u v _ d _ my hx ru rx (h1 i _ (by simp)) (by show X.A.units + 1 + 40 < cLine;omega)).eq
 refine⟨e,h3,?_⟩
 rw[h4,show its.length=ds.length by omega]
 exact h2
theorem opC_ok (hu:X.A.units + 42 < cLine) (op:COp):OpR X (compareOp (cop op)) (rCmp X.K ex op):=by
 intro pins s σ H x y v u Q I rx ry h
 obtain⟨S,d,e,hx,hy,h⟩:=h
 have stuck:∀ {P:Prop},opC op d e=stk→P:=fun z=>by rw[z] at h;exact h.no.elim
 have fin:∀ {b:Bool},Q (.bl b) H→EP X pins σ Q (.bool b) s:=fun q=>⟨.bl _,H,I,rfl,q⟩
 cases op with
 | eq=>
  obtain⟨r,h1,h2⟩:=PO'.eqN h
  exact(eqN_ok I 40 X.A x y v u d e r hx hy rx ry h1 (by omega)).rc _ _ _ _ (fin h2)
 | ne=>
  obtain⟨r,h1,h2⟩:=PO'.eqN (PO'.bnd h)
  exact(eqN_ok I 40 X.A x y v u d e r hx hy rx ry h1 (by omega)).ne _ _ _ _ (fin h2.ok)
 | lt=>
  cases d with
  | int a=>
   cases e with
   | int b=>cases hx.intR;cases hy.intR;obtain⟨t,rfl⟩:=rx;obtain⟨t',rfl⟩:=ry;exact lt_int (fin h.ok)
   | _=>exact stuck rfl
  | _=>exact stuck rfl
 | le=>
  cases d with
  | int a=>
   cases e with
   | int b=>cases hx.intR;cases hy.intR;obtain⟨t,rfl⟩:=rx;obtain⟨t',rfl⟩:=ry;exact le_int (fin h.ok)
   | _=>exact stuck rfl
  | _=>exact stuck rfl
 | gt=>
  cases d with
  | int a=>
   cases e with
   | int b=>cases hx.intR;cases hy.intR;obtain⟨t,rfl⟩:=rx;obtain⟨t',rfl⟩:=ry;exact gt_int (fin h.ok)
   | _=>exact stuck rfl
  | _=>exact stuck rfl
 | ge=>
  cases d with
  | int a=>
   cases e with
   | int b=>cases hx.intR;cases hy.intR;obtain⟨t,rfl⟩:=rx;obtain⟨t',rfl⟩:=ry;exact ge_int (fin h.ok)
   | _=>exact stuck rfl
  | _=>exact stuck rfl
 | in_=>
  cases e with
  | str b=>
   cases d with
   | str a=>cases hx.strR;cases hy.strR;obtain⟨t,rfl⟩:=rx;obtain⟨t',rfl⟩:=ry;exact in_str (fin h.ok)
   | _=>exact stuck rfl
  | lst o ds=>
   obtain⟨a,xs,rfl,q1,m1⟩:=hy.lstR
   cases ry
   obtain⟨its,rv,pl,_⟩:=I.list q1
   obtain⟨e,h1,h2⟩:=in_seq_ok (ex:=ex) hu I rx hx rv m1 (by cases d<;>exact h)
   exact in_listAt e pl.isList h1 (fin h2)
  | tup ds=>
   obtain⟨a,xs,rfl,q1,m1⟩:=hy.tupR
   cases ry
   obtain⟨its,rv,pl,_⟩:=I.tuple q1
   obtain⟨e,h1,h2⟩:=in_seq_ok (ex:=ex) hu I rx hx rv m1 (by cases d<;>exact h)
   exact in_tupleAt e pl h1 (fin h2)
  | non=>cases d<;>exact stuck rfl
  | bl _=>cases d<;>exact stuck rfl
  | int _=>cases d<;>exact stuck rfl
  | exc _=>cases d<;>exact stuck rfl
 | nin=>
  cases e with
  | str b=>
   cases d with
   | str a=>cases hx.strR;cases hy.strR;obtain⟨t,rfl⟩:=rx;obtain⟨t',rfl⟩:=ry;exact notIn_str (fin h.ok)
   | _=>exact stuck rfl
  | lst o ds=>
   obtain⟨a,xs,rfl,q1,m1⟩:=hy.lstR
   cases ry
   obtain⟨its,rv,pl,_⟩:=I.list q1
   obtain⟨e,h1,h2⟩:=in_seq_ok (ex:=ex) (k:=fun r=>Q (.bl !r) H) hu I rx hx rv m1 ((PO'.bnd (show PO' ex (bnd (anyN d ds) fun r=>.ok !r) (fun r=>Q (.bl r) H) by cases d<;>exact h)).mono fun _ z=>z)
   exact notIn_listAt e pl.isList h1 (fin h2)
  | tup ds=>
   obtain⟨a,xs,rfl,q1,m1⟩:=hy.tupR
   cases ry
   obtain⟨its,rv,pl,_⟩:=I.tuple q1
   obtain⟨e,h1,h2⟩:=in_seq_ok (ex:=ex) (k:=fun r=>Q (.bl !r) H) hu I rx hx rv m1 ((PO'.bnd (show PO' ex (bnd (anyN d ds) fun r=>.ok !r) (fun r=>Q (.bl r) H) by cases d<;>exact h)).mono fun _ z=>z)
   exact notIn_tupleAt e pl h1 (fin h2)
  | non=>cases d<;>exact stuck rfl
  | bl _=>cases d<;>exact stuck rfl
  | int _=>cases d<;>exact stuck rfl
  | exc _=>cases d<;>exact stuck rfl
 | is_=>
  cases e with
  | non=>
   cases hy.nonR;cases ry
   have ev:isNon d=(v == Value.none):=by
    cases hx with
    | non=>cases rx;rfl
    | bl b=>cases rx;rfl
    | int i=>obtain⟨t,rfl⟩:=rx;rfl
    | str z=>obtain⟨t,rfl⟩:=rx;rfl
    | tup _ _=>cases rx;rfl
    | lst _ _ _=>cases rx;rfl
    | lstK _ _=>cases rx;rfl
    | exc _=>cases rx;rfl
   have h':Q (.bl (isNon d)) H:=by cases d<;>exact h
   rw[ev] at h'
   exact is_none_gen (fin h')
  | _=>cases d<;>exact stuck rfl
 | isn=>
  cases e with
  | non=>
   cases hy.nonR;cases ry
   have ev:isNon d=(v == Value.none):=by
    cases hx with
    | non=>cases rx;rfl
    | bl b=>cases rx;rfl
    | int i=>obtain⟨t,rfl⟩:=rx;rfl
    | str z=>obtain⟨t,rfl⟩:=rx;rfl
    | tup _ _=>cases rx;rfl
    | lst _ _ _=>cases rx;rfl
    | lstK _ _=>cases rx;rfl
    | exc _=>cases rx;rfl
   have h':Q (.bl (!isNon d)) H:=by cases d<;>exact h
   rw[ev] at h'
   exact isnot_none_gen (fin h')
  | bl b'=>
   cases hy.blR;cases ry
   cases d with
   | bl b=>
    cases hx.blR;cases rx
    have ee:(!(Value.bool b == Value.bool b'))=(b != b'):=by cases b<;>cases b'<;>rfl
    exact wpAny_isNot_plain rfl (by rw[ee];exact fin h)
   | non=>cases hx.nonR;cases rx;exact wpAny_isNot_plain rfl (fin h)
   | _=>exact stuck rfl
  | _=>cases d<;>exact stuck rfl
theorem truD_ok {pins:List (Addr×Obj)} {s:Shared} {σ:St} {H:Hp} {S:Addr→Prop} {x:V} {v:Value} {d:D} {Q:Bool→Hp→Prop} (I:Inv X pins σ H s) (rx:RelV x v) (hx:HRep X.K S H x d) (h:PO' ex (truD d) fun b=>Q b H) :
  wpAny (model X.prog X.w) X.A (truthy v) (TP X pins σ Q) X.xe s:=by
 refine tru_ok pins s σ H x v Q I rx ?_
 cases d with
 | exc c=>exact h.no.elim
 | non=>cases hx.nonR;exact⟨false,rfl,h⟩
 | bl b=>cases hx.blR;exact⟨b,rfl,h⟩
 | int i=>cases hx.intR;exact⟨_,rfl,h⟩
 | str z=>
  cases hx.strR
  obtain⟨g,h⟩:=PO'.grd h
  exact⟨_,⟨szOk_le g,rfl⟩,h⟩
 | tup ds=>
  obtain⟨a,xs,rfl,q,m⟩:=hx.tupR
  refine⟨!ds.isEmpty,.inr (.inl ⟨xs,q,?_⟩),h⟩
  have:=m.length
  cases xs<;>cases ds<;>simp_all
 | lst o ds=>
  obtain⟨a,xs,rfl,q,m⟩:=hx.lstR
  refine⟨!ds.isEmpty,.inl ⟨xs,q,?_⟩,h⟩
  have:=m.length
  cases xs<;>cases ds<;>simp_all
theorem atI_rep {K:PySem.W.Frag} {S:Addr→Prop} {H:Hp} {vs:List V} {ds:List D} {i:Int} {d:D} (m:HReps K S H vs ds) (h:atI ds i=some d):∃ v,atI vs i=some v∧HRep K S H v d:=by
 unfold atI at h ⊢
 rw[m.length]
 cases q:ixN ds.length i with
 | none=>rw[q] at h;cases h
 | some j=>rw[q] at h;exact m.get h
noncomputable def rIdx (K:PySem.W.Frag) (ex:Str→Prop):R2:=fun x y H Q=>∃ S d e,HRep K S H x d∧HRep K S H y e∧PO' ex (opIx d e) (Kk K S H Q)
theorem opIx_ok:IxR X (rIdx X.K ex):=by
 intro value slice pins s σ H x y v u Q I rx ry h hs
 obtain⟨S,d,e,hx,hy,h⟩:=h
 refine ix_seq value slice pins s σ H x y v u Q I rx ry ?_ hs
 have stuck:∀ {P:Prop},opIx d e=stk→P:=fun z=>by rw[z] at h;exact h.no.elim
 cases e with
 | int i=>
  cases hy.intR
  cases d with
  | lst o ds=>
   obtain⟨a,xs,rfl,q,m⟩:=hx.lstR
   have h':PO' ex (match atI ds i with | some d=>.ok d | none=>stk) (Kk X.K S H Q):=h
   cases z:atI ds i with
   | none=>rw[z] at h';exact h'.no.elim
   | some d=>
    rw[z] at h'
    obtain⟨w,ew,mw⟩:=atI_rep m z
    exact .inl ⟨a,xs,i,w,rfl,rfl,q,ew,h'.ok _ _ (.refl _) mw.nw⟩
  | tup ds=>
   obtain⟨a,xs,rfl,q,m⟩:=hx.tupR
   have h':PO' ex (match atI ds i with | some d=>.ok d | none=>stk) (Kk X.K S H Q):=h
   cases z:atI ds i with
   | none=>rw[z] at h';exact h'.no.elim
   | some d=>
    rw[z] at h'
    obtain⟨w,ew,mw⟩:=atI_rep m z
    exact .inr (.inl ⟨a,xs,i,w,rfl,rfl,q,ew,h'.ok _ _ (.refl _) mw.nw⟩)
  | str z=>
   cases hx.strR
   obtain⟨g,h⟩:=PO'.grd h
   cases q:atI z.cps.toList i with
   | none=>rw[q] at h;exact h.no.elim
   | some c=>
    rw[q] at h
    exact .inr (.inr ⟨z,i,c,rfl,rfl,szOk_le g,q,h.ok _ _ (.refl _) (.str _)⟩)
  | _=>exact stuck rfl
 | _=>cases d<;>exact stuck rfl
noncomputable def rSli (K:PySem.W.Frag) (ex:Str→Prop):V→Option Int→Option Int→Hp→VK→Prop:=fun x lo hi H Q=>∃ S d,HRep K S H x d∧PO' ex (opSl d lo hi) (Kk K S H Q)
theorem sl_str:SlR X (fun x lo hi H Q=>∃ z,x=.str z∧z.length≤sizeLine∧Q (.str (Txt.slice z lo hi)) H):=by
 intro pins s σ H x v vl vu lo hi sl Q I rx hs pl pu h
 obtain⟨z,rfl,hz,q⟩:=h
 obtain⟨t,rfl⟩:=rx
 refine⟨"str",_,F.slot_str_getitem.lookup,typeIs_str s z t,?_⟩
 have fin:∀ (l u:Option (Int×Tok)),vl=partValue l→vu=partValue u→l.map (·.1)=lo→u.map (·.1)=hi→wpAny (model X.prog X.w) X.A (getItem (.str z t) (.ref sl)) (EP X pins σ Q) X.xe s:=by
  intro l u e1 e2 e3 e4
  subst e1 e2 e3 e4
  refine wpAny_getItem_str_slice (l:=l) (u:=u) (st:=none) hs rfl ?_
  exact post_val_or_str ⟨Nat.le_trans (Txt.slice_le z _ _) hz,fun t' k=>⟨.str _,H,I.tok _,⟨_,rfl⟩,q⟩⟩
 cases pl with
 | none=>
  cases pu with
  | none=>exact fin none none rfl rfl rfl rfl
  | int j t'=>exact fin none (some (j,t')) rfl rfl rfl rfl
 | int i t'=>
  cases pu with
  | none=>exact fin (some (i,t')) none rfl rfl rfl rfl
  | int j t''=>exact fin (some (i,t')) (some (j,t'')) rfl rfl rfl rfl
end
end L2
namespace L2
open PySem PySem.Spec PyProof.Rows PySem.W
section
variable {prog:Program} {w:World} {A:Around} {E:Value→Shared→Prop} {K:Frag} {x C:Addr} {hh:Heap} {g:Array GenState} {d:Drawn} {t:Nat} {os:OsState}
structure ExcAt (K:Frag) (C:Addr):Prop where
 ga:findIn K (.ref C) "__getattribute__" = some (some (.builtin "BaseException.__getattribute__"))
 no:findIn K (.ref C) "__getattr__" = some none
 cl:findIn K (.ref C) "__class__" = some (some (.builtin "object.__class__"))
 be:mroIn K C (.type "BaseException")=some true
 ob:mroIn K C (.type "object")=some true
 is:(clsIn K C).isSome=true
noncomputable def IX (h:Heap) (x C:Addr):Prop:=∃ o,h.get? x=some o∧o.cls=.ref C
theorem IX.type {M:Model} {h:Heap} (I:IX h x C):Looks M h (typeOf (.ref x)) (.ref C):=by
 obtain⟨o,h1,h2⟩:=I
 exact h2 ▸ (Looks.ld h1).andThen .now
open Builtin Builtin.ObjectAttr Builtin.Getset_descriptor in
theorem exc_cget {R:Result→Shared→Prop} {tp:Value} (X:K.In hh) (I:IX hh x C) (hm:mroIn K C (.type "object")=some true) (hq:R (.ok (.ret (.ref C))) ⟨hh,g,d,t,os⟩) :
  codeAny (model prog w) A (.call (.builtin "getset_descriptor.__get__") ⟨[.builtin "object.__class__",.ref x,tp],[]⟩) R ⟨hh,g,d,t,os⟩:=by
 have y0:=I.type (M:=model prog w)
 have y1:=looks_mroIn (M:=model prog w) X hm
 refine codeAny_call_builtin KF.slot_gs.plain KF.entry_gs (KF.slot_gs.check _ _ _ _ _ _ _ _ KF.type_class (KF.args_gs _ _ _) ?_);unfold Builtin.«getset_descriptor.__get__» descrGet;rw[dga_obj]
 refine wpAny_bind (wpAny_pure ?_);unfold descrGetter descrCheckInstance descrNameAndClass isInstance
 simp only[KF.owner_class];repeat lk
 refine⟨Code.quiet_builtin _ (by decide +kernel),codeAny_builtin KF.entry_class ?_⟩;unfold Builtin.«object.__class__» shownTypeOf
 repeat lk
 exact hq
theorem exc_entry (a:ExcAt K C) {tk:Tok} {Q:Fin→Shared→Prop} (X:K.In hh) (I:IX hh x C) (hq:Q (.done (.ret (.ref C))) ⟨hh,g,d,t,os⟩) :
  wpAny (model prog w) A (Builtin.«object.__getattribute__» ⟨[.ref x,.str "__class__" tk],[]⟩) Q E ⟨hh,g,d,t,os⟩:=by
 have y0:=I.type (M:=model prog w)
 have y1:=looks_findIn (M:=model prog w) X a.cl
 have y5:=F.typeOf_object_class;have y6:=F.slot_gs_get.lookup;have y7:=F.slot_gs_set.lookup
 repeat (any_goals (first | assumption | with_reducible refine Looks.at (by assumption) ?_ | wp_step))
 refine exc_cget X I a.ob ?_
 repeat (any_goals (first | assumption | wp_step))
theorem exc_check (a:ExcAt K C) {M:Model} {nameV:Value} {Q:Unit→Shared→Prop} (X:K.In hh) (I:IX hh x C) (hq:Q () ⟨hh,g,d,t,os⟩) :
  wpAny M A (checkBuiltinCall "BaseException.__getattribute__" ⟨[.ref x,nameV],[]⟩) Q E ⟨hh,g,d,t,os⟩:=by
 have e1:builtinKind "BaseException.__getattribute__" = some .slot:=by decide +kernel
 have e2:splitId "BaseException.__getattribute__" = some ("BaseException","__getattribute__"):=by decide +kernel
 have y0:=I.type (M:=M)
 have y1:=looks_mroIn (M:=M) X a.be
 have ha:=F.args_bexc_ga (.ref x) nameV
 simp only[checkBuiltinCall,e1,e2]
 refine wpAny_bind ?_
 unfold isInstance
 repeat (any_goals (first | assumption | with_reducible refine Looks.at (by assumption) ?_ | wp_step))
theorem exc_by (a:ExcAt K C) {tk:Tok} {fill:Bool} {Q:Value→Shared→Prop} (X:K.In hh) (I:IX hh x C) (hq:Q (.ref C) ⟨hh,g,d,t,os⟩) :
  wpAny (model prog w) A (getAttrBy (.ref x) (.str "__class__" tk) fill) Q E ⟨hh,g,d,t,os⟩:=by
 have y0:=I.type (M:=model prog w)
 have y1:=looks_findIn (M:=model prog w) X a.ga
 have y2:=looks_findIn (M:=model prog w) X a.no
 have f3:=F.attr_ValueError.ga.bind (.ref x)
 have y4:(onTheHeap (Value.ref C) && Value.builtin "BaseException.__getattribute__" == Value.builtin "object.__getattribute__")=false:=by rw[show (Value.builtin "BaseException.__getattribute__" == Value.builtin "object.__getattribute__")=false by decide +kernel];rfl
 repeat (any_goals (first | assumption | with_reducible refine Looks.at (by assumption) ?_ | wp_step))
 refine codeAny_call_builtin F.attr_ValueError.ga.plain F.entry_bexc_ga (exc_check a X I (exc_entry a X I ?_))
 repeat (any_goals (first | assumption | wp_step))
theorem exc_attr (a:ExcAt K C) {Q:Option Value→Shared→Prop} (X:K.In hh) (I:IX hh x C) (hq:Q (some (.ref C)) ⟨hh,g,d,t + 1,os⟩) :
  wpAny (model prog w) A (getAttr? (.ref x) "__class__") Q E ⟨hh,g,d,t,os⟩:=by
 unfold getAttr? getAttrBy?
 repeat (any_goals (first | assumption | with_reducible apply exc_by a X I | wp_step))
theorem kitx_exc (a:ExcAt K C):KitX K (.ref x) (.ref C) (fun h=>IX h x C) where
 ty:=fun _ _ _ I=>I.type
 it:=fun _ _ X _=>by
  have z:=a.is
  unfold clsIn at z
  split at z
  ·rename_i ho
   intro A' Q' E' s' k q
   unfold isType loadHead
   exact wpAny_bind (wpAny_loadPart (k _ _ (X _ _ ho)) (wpAny_pure q))
  ·cases z
 ne:=fun h tp dd its n sl X htp=>by
  have z:=a.is
  refine Bool.eq_false_iff.mpr fun q=>?_
  have e:C=tp:=Value.ref.inj (beq_iff_eq.mp q)
  subst e
  unfold clsIn at z
  split at z
  ·rename_i ho
   cases (X _ _ ho).symm.trans htp
  ·cases z
 ca:=fun {_ _ _ _ _ s} X I k=>by
  obtain⟨hh,g,d,t,os⟩:=s
  exact exc_attr a X I k
end
end L2
namespace L2
open PySem PySem.Spec PyProof.Rows PySem.SeqAt
section
variable {X:Cx} {ex:Str→Prop}
theorem cut_rep {K:PySem.W.Frag} {S:Addr→Prop} {H:Hp} {vs:List V} {ds:List D} (lo hi:Option Int) (m:HReps K S H vs ds):HReps K S H (cutV vs lo hi) (cutG ds lo hi):=by
 unfold cutV cutG
 rw[m.length]
 exact(m.drop _).take _
theorem opSl_ok:SlR X (rSli X.K ex):=by
 intro pins s σ H x v vl vu lo hi sl Q I rx hs pl pu h
 obtain⟨S,d,hx,h⟩:=h
 cases d with
 | lst o ds=>
  obtain⟨a,xs,rfl,q,m⟩:=hx.lstR
  exact sl_list pins s σ H _ v vl vu lo hi sl Q I rx hs pl pu ⟨a,xs,rfl,q,fun p hp=>h.ok _ _ (.upd hp) (newL hp (cut_rep lo hi m))⟩
 | str z=>
  cases hx.strR
  obtain⟨g,h⟩:=PO'.grd h
  exact sl_str pins s σ H _ v vl vu lo hi sl Q I rx hs pl pu ⟨z,rfl,szOk_le g,h.ok _ _ (.refl _) (.str _)⟩
 | _=>exact h.no.elim
theorem intsAre_ofV {ns:List Int} {us:List Value} (r:Vals (ns.map V.int) us):IntsAre us ns:=intsAre_of r
theorem strsAre_ofV {ns:List Str}:∀ {us:List Value},Vals (ns.map V.str) us→StrsAre us ns:=by
 induction ns with
 | nil=>intro us r;rw[List.map_nil] at r;cases r;exact .nil
 | cons n ns ih=>
  intro us r
  rw[List.map_cons] at r
  cases r with
  | cons r1 r2=>
   obtain⟨t,e⟩:=r1
   subst e
   exact .cons n t (ih r2)
theorem asInts_map:∀ {ds:List D} {ns:List Int},asInts ds=some ns→ds=ns.map .int
 | [],ns,h=>by cases h;rfl
 | .int i::r,ns,h=>by
  have h':(asInts r).map (i::·)=some ns:=h
  cases q:asInts r with
  | none=>rw[q] at h';cases h'
  | some ms=>
   rw[q] at h'
   cases h'
   rw[asInts_map q]
   rfl
 | .non::_,_,h=>by cases h
 | .bl _::_,_,h=>by cases h
 | .str _::_,_,h=>by cases h
 | .tup _::_,_,h=>by cases h
 | .lst _ _::_,_,h=>by cases h
theorem asStrs_map:∀ {ds:List D} {ns:List Str},asStrs ds=some ns→ds=ns.map .str
 | [],ns,h=>by cases h;rfl
 | .str i::r,ns,h=>by
  have h':(asStrs r).map (i::·)=some ns:=h
  cases q:asStrs r with
  | none=>rw[q] at h';cases h'
  | some ms=>
   rw[q] at h'
   cases h'
   rw[asStrs_map q]
   rfl
 | .non::_,_,h=>by cases h
 | .bl _::_,_,h=>by cases h
 | .int _::_,_,h=>by cases h
 | .tup _::_,_,h=>by cases h
 | .lst _ _::_,_,h=>by cases h
theorem asBls_map:∀ {ds:List D} {ns:List Bool},asBls ds=some ns→ds=ns.map .bl
 | [],ns,h=>by cases h;rfl
 | .bl i::r,ns,h=>by
  have h':(asBls r).map (i::·)=some ns:=h
  cases q:asBls r with
  | none=>rw[q] at h';cases h'
  | some ms=>
   rw[q] at h'
   cases h'
   rw[asBls_map q]
   rfl
 | .non::_,_,h=>by cases h
 | .str _::_,_,h=>by cases h
 | .int _::_,_,h=>by cases h
 | .tup _::_,_,h=>by cases h
 | .lst _ _::_,_,h=>by cases h
theorem call_sumL (hc:X.calm=true):CallR X (.builtin "sum") (fun xs H Q=>∃ (p:Addr) (ns:List Int),xs=[.ref p]∧SqL X.K H p (ns.map V.int)∧Q (.int ns.sum) H):=by
 intro pins s σ H xs us Q I r h
 obtain⟨p,ns,rfl,hq,q⟩:=h
 obtain⟨u,rfl,rx⟩:=vals1 r
 cases rx
 obtain⟨its,rv,pl,hz⟩:=I.list hq
 have hi:=intsAre_ofV rv
 refine call_sum_walkG (wpAny_pyIter_list pl.isList ?_)
 have hlt:p < s.heap.objs.size:=by
  obtain⟨o,e,_⟩:=pl.isList
  exact Heap.lt_size e
 refine⟨s.heap.objs.size,_,_,_,_,_,fun i=>ns.getD i 0,rfl,Walks.list (A:=X.A.in1) (show X.A.in1.handled=none from I.ok.hd hc) s.heap.objs.size p (Nat.ne_of_lt hlt) its.toArray,⟨⟨_,Heap.get?_push_size _ rfl,rfl,rfl⟩,?_⟩,?_,?_,?_⟩
 ·obtain⟨o,e,c,n,d⟩:=pl.isList
  exact⟨o,Heap.get?_push_of_some _ e,c,n,d⟩
 ·intro b hb
  have:b=s.heap.objs.size∨b=p:=by simpa using hb
  have hs:(s.heap.push {cls:=.type "list_iterator",data:=.fields #[.ref p,.int 0 0]}).objs.size=s.heap.objs.size + 1:=Heap.size_push ..
  show b < (s.heap.push _).objs.size
  rw[Heap.size_push]
  rcases this with rfl | rfl
  ·exact Nat.lt_succ_self _
  ·exact Nat.lt_succ_of_lt hlt
 ·intro i v hv
  have hv':its[i]? = some v:=by simpa using hv
  have key:∀ {us:List Value} {ns:List Int},IntsAre us ns→∀ i v,us[i]? = some v→∃ t,v=Value.int (ns.getD i 0) t:=by
   intro us ns hI
   induction hI with
   | nil=>intro i v z;simp at z
   | cons n t _ ih=>
    intro i v z
    cases i with
    | zero=>simp at z;exact⟨t,by rw[← z];simp⟩
    | succ j=>simpa using ih j v (by simpa using z)
  exact key hi i v hv'
 ·intro h' tk t' kp
  refine⟨.int ns.sum,H,?_,⟨t',?_⟩,q⟩
  ·refine I.kept (t':=tk) fun b o e=>kp b o ?_ (Heap.get?_push_of_some _ e)
   intro hm
   have hb:b=s.heap.objs.size:=by simpa using hm
   subst hb
   exact absurd (Heap.lt_size e) (Nat.lt_irrefl _)
  ·have hl:=rv.length
   rw[List.length_map] at hl
   rw[preSum_getD,show its.toArray.size=ns.length by simp[hl],List.take_length]
theorem call_allL (hc:X.calm=true):CallR X (.builtin "all") (fun xs H Q=>∃ (p:Addr) (bs:List Bool),xs=[.ref p]∧SqL X.K H p (bs.map V.bl)∧Q (.bl (bs.all id)) H):=by
 intro pins s σ H xs us Q I r h
 obtain⟨p,bs,rfl,hq,q⟩:=h
 obtain⟨u,rfl,rx⟩:=vals1 r
 cases rx
 obtain⟨its,rv,pl,hz⟩:=I.list hq
 have hl:=rv.length
 rw[List.length_map] at hl
 have hlt:p < s.heap.objs.size:=by
  obtain⟨o,e,_⟩:=pl.isList
  exact Heap.lt_size e
 refine call_all_walk (wpAny_pyIter_list pl.isList ?_)
 refine⟨s.heap.objs.size,_,_,_,_,_,fun i=>bs.getD i true,rfl,Walks.list (A:=X.A.in1) (show X.A.in1.handled=none from I.ok.hd hc) s.heap.objs.size p (Nat.ne_of_lt hlt) its.toArray,⟨⟨_,Heap.get?_push_size _ rfl,rfl,rfl⟩,?_⟩,?_,?_⟩
 ·obtain⟨o,e,c,n,d⟩:=pl.isList
  exact⟨o,Heap.get?_push_of_some _ e,c,n,d⟩
 ·intro i v s' Q' E' hv hq'
  have hv':its[i]? = some v:=by simpa using hv
  have hlt':i < bs.length:=by
   have:=(List.getElem?_eq_some_iff.mp hv').1
   omega
  obtain⟨u,hu,ru⟩:=rv.get (i:=i) (x:=.bl bs[i]) (by rw[List.getElem?_map,List.getElem?_eq_getElem hlt'];rfl)
  rw[hv'] at hu
  cases hu
  cases ru
  refine wpAny_truthy_bool ?_
  have e:bs.getD i true=bs[i]:=by simp[List.getD,hlt']
  rw[← e]
  exact hq'
 ·intro h' tk kp
  have hall:(List.range its.toArray.size).all (fun i=>bs.getD i true)=bs.all id:=by
   rw[show its.toArray.size=bs.length by simp[hl]]
   rw[Bool.eq_iff_iff,List.all_eq_true,List.all_eq_true]
   constructor
   ·intro z b hb
    obtain⟨i,hi,rfl⟩:=List.getElem_of_mem hb
    have:=z i (List.mem_range.mpr hi)
    simpa[List.getD,hi] using this
   ·intro z i hi
    have hi':=List.mem_range.mp hi
    have:=z bs[i] (List.getElem_mem hi')
    simpa[List.getD,hi'] using this
  rw[hall]
  refine⟨.bl (bs.all id),H,I.kept (t':=tk) fun b o e=>kp b o ?_ (Heap.get?_push_of_some _ e),rfl,q⟩
  intro hm
  have hb:b=s.heap.objs.size:=by simpa using hm
  subst hb
  exact absurd (Heap.lt_size e) (Nat.lt_irrefl _)
theorem call_anyL (hc:X.calm=true):CallR X (.builtin "any") (fun xs H Q=>∃ (p:Addr) (bs:List Bool),xs=[.ref p]∧SqL X.K H p (bs.map V.bl)∧Q (.bl (bs.any id)) H):=by
 intro pins s σ H xs us Q I r h
 obtain⟨p,bs,rfl,hq,q⟩:=h
 obtain⟨u,rfl,rx⟩:=vals1 r
 cases rx
 obtain⟨its,rv,pl,hz⟩:=I.list hq
 have hl:=rv.length
 rw[List.length_map] at hl
 have hlt:p < s.heap.objs.size:=by
  obtain⟨o,e,_⟩:=pl.isList
  exact Heap.lt_size e
 refine call_any_walk (wpAny_pyIter_list pl.isList ?_)
 refine⟨s.heap.objs.size,_,_,_,_,_,fun i=>bs.getD i false,rfl,Walks.list (A:=X.A.in1) (show X.A.in1.handled=none from I.ok.hd hc) s.heap.objs.size p (Nat.ne_of_lt hlt) its.toArray,⟨⟨_,Heap.get?_push_size _ rfl,rfl,rfl⟩,?_⟩,?_,?_⟩
 ·obtain⟨o,e,c,n,d⟩:=pl.isList
  exact⟨o,Heap.get?_push_of_some _ e,c,n,d⟩
 ·intro i v s' Q' E' hv hq'
  have hv':its[i]? = some v:=by simpa using hv
  have hlt':i < bs.length:=by
   have:=(List.getElem?_eq_some_iff.mp hv').1
   omega
  obtain⟨u,hu,ru⟩:=rv.get (i:=i) (x:=.bl bs[i]) (by rw[List.getElem?_map,List.getElem?_eq_getElem hlt'];rfl)
  rw[hv'] at hu
  cases hu
  cases ru
  refine wpAny_truthy_bool ?_
  have e:bs.getD i false=bs[i]:=by simp[List.getD,hlt']
  rw[← e]
  exact hq'
 ·intro h' tk kp
  have hall:(List.range its.toArray.size).any (fun i=>bs.getD i false)=bs.any id:=by
   rw[show its.toArray.size=bs.length by simp[hl]]
   rw[Bool.eq_iff_iff,List.any_eq_true,List.any_eq_true]
   constructor
   ·rintro ⟨i,hi,z⟩
    have hi':=List.mem_range.mp hi
    exact⟨bs[i],List.getElem_mem hi',by simpa[List.getD,hi'] using z⟩
   ·rintro ⟨b,hb,z⟩
    obtain⟨i,hi,rfl⟩:=List.getElem_of_mem hb
    exact⟨i,List.mem_range.mpr hi,by simpa[List.getD,hi] using z⟩
  rw[hall]
  refine⟨.bl (bs.any id),H,I.kept (t':=tk) fun b o e=>kp b o ?_ (Heap.get?_push_of_some _ e),rfl,q⟩
  intro hm
  have hb:b=s.heap.objs.size:=by simpa using hm
  subst hb
  exact absurd (Heap.lt_size e) (Nat.lt_irrefl _)
noncomputable def biName:Bi→Str
 | .len=>"len" | .sum=>"sum" | .min2=>"min" | .max2=>"max" | .sorted=>"sorted" | .list=>"list" | .tuple=>"tuple" | .ord=>"ord" | .int=>"int" | .all=>"all" | .any=>"any" | .str=>"str" | .set=>"set" | .abs=>"abs"
noncomputable def biTy:Bi→Bool
 | .list=>true | .tuple=>true | .int=>true | .str=>true | .set=>true
 | _=>false
noncomputable def biId:Bi→String
 | .len=>"len" | .sum=>"sum" | .min2=>"min" | .max2=>"max" | .sorted=>"sorted" | .list=>"list" | .tuple=>"tuple" | .ord=>"ord" | .int=>"int" | .all=>"all" | .any=>"any" | .str=>"str" | .set=>"set" | .abs=>"abs"
noncomputable def biVal (f:Bi):Value:=if biTy f=true then .type (biId f) else .builtin (biId f)
theorem bi_boot (f:Bi):bootBuiltins (biName f)=some (biVal f):=by cases f<;>decide +kernel
noncomputable def rBi (K:PySem.W.Frag) (ex:Str→Prop) (f:Bi):List V→Hp→VK→Prop:=fun xs H Q=>∃ S ds,HReps K S H xs ds∧PO' ex (opBi f ds) (Kk K S H Q)
theorem HReps.one1 {K:PySem.W.Frag} {S:Addr→Prop} {H:Hp} {xs:List V} {d:D} (h:HReps K S H xs [d]):∃ x,xs=[x]∧HRep K S H x d:=by
 cases h with
 | cons h1 h2=>cases h2;exact⟨_,rfl,h1⟩
theorem HReps.two2 {K:PySem.W.Frag} {S:Addr→Prop} {H:Hp} {xs:List V} {d e:D} (h:HReps K S H xs [d,e]):∃ x y,xs=[x,y]∧HRep K S H x d∧HRep K S H y e:=by
 cases h with
 | cons h1 h2=>
  cases h2 with
  | cons h3 h4=>cases h4;exact⟨_,_,rfl,h1,h3⟩
theorem ints_rep {K:PySem.W.Frag} {S:Addr→Prop} {H:Hp} (ns:List Int):HReps K S H (ns.map V.int) (ns.map D.int):=by
 induction ns with
 | nil=>exact .nil
 | cons c cs ih=>exact .cons (.int _) ih
theorem asTups_len:∀ {ds:List D} {nss:List (List Int)},asTups ds=some nss→nss.length=ds.length:=by
 intro ds
 induction ds with
 | nil=>intro nss h;cases h;rfl
 | cons d ds ih=>
  intro nss h
  cases d with
  | tup es=>
   unfold asTups at h
   split at h
   ·rename_i n ns nss' e1 e2
    cases h
    rw[List.length_cons,List.length_cons,ih e2]
   ·cases h
  | _=>cases h
theorem tupsV_of {K:PySem.W.Frag} {S:Addr→Prop} {H:Hp}:∀ {ys:List V} {ds:List D} {nss:List (List Int)},HReps K S H ys ds→asTups ds=some nss→TupsV K H ys nss:=by
 intro ys
 induction ys with
 | nil=>
  intro ds nss m h
  cases m
  cases h
  exact True.intro
 | cons y ys ih=>
  intro ds nss m h
  cases m with
  | cons h1 h2=>
   rename_i d ds
   cases d with
   | tup es=>
    unfold asTups at h
    split at h
    ·rename_i n ns nss' e1 e2
     cases h
     obtain⟨a,vs,rfl,q,m'⟩:=h1.tupR
     rw[asInts_map e1] at m'
     rw[m'.ints] at q
     exact⟨⟨a,rfl,q,by simp⟩,ih h2 e2⟩
    ·cases h
   | _=>cases h
theorem pick_rep {K:PySem.W.Frag} {S:Addr→Prop} {H:Hp} {ys:List V} {ds:List D} (m:HReps K S H ys ds):∀ is:List Nat,(∀ i ∈ is,i < ds.length)→HReps K S H (is.map fun i=>ys.getD i .non) (is.map fun i=>ds.getD i .non):=by
 intro is
 induction is with
 | nil=>intro _;exact .nil
 | cons i is ih=>
  intro hi
  have h1:i < ds.length:=hi i (by simp)
  have h2:atI ds (i:Int)=some (ds.getD i .non):=by
   unfold atI ixN
   rw[if_pos (by omega),if_pos (by omega)]
   show ds[((i:Nat):Int).toNat]? = _
   rw[Int.toNat_natCast,List.getElem?_eq_getElem h1,List.getD_eq_getElem?_getD,List.getElem?_eq_getElem h1]
   rfl
  obtain⟨v,e,hv⟩:=atI_rep m h2
  have ev:ys.getD i .non=v:=by
   unfold atI ixN at e
   rw[if_pos (by omega),if_pos (by rw[m.length];omega)] at e
   have e':ys[((i:Nat):Int).toNat]? = some v:=e
   rw[Int.toNat_natCast] at e'
   rw[List.getD_eq_getElem?_getD,e']
   rfl
  refine .cons ?_ (ih fun j hj=>hi j (List.mem_cons_of_mem _ hj))
  show HRep K S H (ys.getD i .non) _
  rw[ev]
  exact hv
theorem chars_rep {K:PySem.W.Frag} {S:Addr→Prop} {H:Hp} (z:Str):HReps K S H (charsV z) (charsD z):=by
 unfold charsV charsD
 induction z.cps.toList with
 | nil=>exact .nil
 | cons c cs ih=>exact .cons (.str _) ih
theorem opBi_ok (hc:X.calm=true) (f:Bi):CallR X (biVal f) (rBi X.K ex f):=by
 intro pins s σ H xs us Q I r h
 obtain⟨S,ds,hx,h⟩:=h
 have stuck:∀ {P:Prop},opBi f ds=stk→P:=fun z=>by rw[z] at h;exact h.no.elim
 have one:∀ {d e:D} {r':List D},ds=d::e::r'→¬ (f=.min2∨f=.max2)→opBi f ds=stk:=by
  intro d e r' z nf
  subst z
  cases f<;>first | rfl | (exfalso;exact nf (.inl rfl)) | (exfalso;exact nf (.inr rfl)) | (cases d<;>rfl)
 have two:∀ {d e g:D} {r':List D},ds=d::e::g::r'→opBi f ds=stk:=by
  intro d e g r' z
  subst z
  cases f<;>first | rfl | (cases d<;>rfl) | (cases d<;>cases e<;>rfl)
 have nil:ds=[]→opBi f ds=stk:=by
  intro z
  subst z
  cases f<;>rfl
 match ds,hx with
 | [],hx=>exact stuck (nil rfl)
 | d::e::g::r',hx=>exact stuck (two rfl)
 | [d,e],hx=>
  by_cases nf:f=.min2∨f=.max2
  ·obtain⟨x,y,rfl,hd,he⟩:=hx.two2
   rcases nf with rfl | rfl
   ·cases d with
    | int a=>
     cases e with
     | int b=>cases hd.intR;cases he.intR;exact call_min2 hc pins s σ H _ us Q I r ⟨a,b,rfl,h.ok _ _ (.refl _) (.int _)⟩
     | _=>exact stuck rfl
    | _=>exact stuck rfl
   ·cases d with
    | int a=>
     cases e with
     | int b=>cases hd.intR;cases he.intR;exact call_max2 hc pins s σ H _ us Q I r ⟨a,b,rfl,h.ok _ _ (.refl _) (.int _)⟩
     | _=>exact stuck rfl
    | _=>exact stuck rfl
  ·exact stuck (one rfl nf)
 | [d],hx=>
  obtain⟨x,rfl,hd⟩:=hx.one1
  cases f with
  | len=>
   cases d with
   | str z=>cases hd.strR;obtain⟨g,h⟩:=PO'.grd h;exact call_len pins s σ H _ us Q I r ⟨_,_,rfl,⟨szOk_le g,rfl⟩,h.ok _ _ (.refl _) (.int _)⟩
   | tup ds=>
    obtain⟨a,ys,rfl,q,m⟩:=hd.tupR
    exact call_len pins s σ H _ us Q I r ⟨_,ds.length,rfl,.inr ⟨ys,q,m.length.symm⟩,h.ok _ _ (.refl _) (.int _)⟩
   | lst o ds=>
    obtain⟨a,ys,rfl,q,m⟩:=hd.lstR
    exact call_len pins s σ H _ us Q I r ⟨_,ds.length,rfl,.inl ⟨ys,q,m.length.symm⟩,h.ok _ _ (.refl _) (.int _)⟩
   | _=>exact stuck rfl
  | sum=>
   cases d with
   | lst o ds=>
    obtain⟨a,ys,rfl,q,m⟩:=hd.lstR
    have h':PO' ex (match asInts ds with | some ns=>grd (decide (ns.length≤1000000)) (.ok (.int ns.sum)) | none=>stk) (Kk X.K S H Q):=h
    cases z:asInts ds with
    | none=>rw[z] at h';exact h'.no.elim
    | some ns=>
     rw[z] at h'
     obtain⟨_,h'⟩:=PO'.grd h'
     rw[asInts_map z] at m
     rw[m.ints] at q
     exact call_sumL hc pins s σ H _ us Q I r ⟨a,ns,rfl,q,h'.ok _ _ (.refl _) (.int _)⟩
   | _=>exact stuck rfl
  | all=>
   cases d with
   | lst o ds=>
    obtain⟨a,ys,rfl,q,m⟩:=hd.lstR
    have h':PO' ex (match asBls ds with | some bs=>.ok (.bl (bs.all id)) | none=>stk) (Kk X.K S H Q):=h
    cases z:asBls ds with
    | none=>rw[z] at h';exact h'.no.elim
    | some ns=>
     rw[z] at h'
     rw[asBls_map z] at m
     rw[m.bls] at q
     exact call_allL hc pins s σ H _ us Q I r ⟨a,ns,rfl,q,h'.ok _ _ (.refl _) (.bl _)⟩
   | _=>exact stuck rfl
  | any=>
   cases d with
   | lst o ds=>
    obtain⟨a,ys,rfl,q,m⟩:=hd.lstR
    have h':PO' ex (match asBls ds with | some bs=>.ok (.bl (bs.any id)) | none=>stk) (Kk X.K S H Q):=h
    cases z:asBls ds with
    | none=>rw[z] at h';exact h'.no.elim
    | some ns=>
     rw[z] at h'
     rw[asBls_map z] at m
     rw[m.bls] at q
     exact call_anyL hc pins s σ H _ us Q I r ⟨a,ns,rfl,q,h'.ok _ _ (.refl _) (.bl _)⟩
   | _=>exact stuck rfl
  | ord=>
   cases d with
   | str z=>cases hd.strR;obtain⟨g,h⟩:=PO'.grd h;exact call_ord pins s σ H _ us Q I r ⟨z,rfl,of_decide_eq_true g,h.ok _ _ (.refl _) (.int _)⟩
   | _=>exact stuck rfl
  | int=>
   cases d with
   | int i=>cases hd.intR;exact call_int1 pins s σ H _ us Q I r (.inl ⟨i,rfl,h.ok _ _ (.refl _) (.int _)⟩)
   | bl i=>cases hd.blR;exact call_int1 pins s σ H _ us Q I r (.inr ⟨i,rfl,h.ok _ _ (.refl _) (.int _)⟩)
   | _=>exact stuck rfl
  | list=>
   cases d with
   | tup ds=>
    obtain⟨a,ys,rfl,q,m⟩:=hd.tupR
    exact call_list_of pins s σ H _ us Q I r ⟨a,ys,rfl,.inr q,fun p hp=>h.ok _ _ (.upd hp) (newL hp m)⟩
   | lst o ds=>
    obtain⟨a,ys,rfl,q,m⟩:=hd.lstR
    exact call_list_of pins s σ H _ us Q I r ⟨a,ys,rfl,.inl q,fun p hp=>h.ok _ _ (.upd hp) (newL hp m)⟩
   | str z=>
    cases hd.strR
    obtain⟨g,h⟩:=PO'.grd h
    exact call_list_txt hc pins s σ H _ us Q I r ⟨z,rfl,szOk_le g,fun p hp=>h.ok _ _ (.upd hp) (newL hp (chars_rep z))⟩
   | _=>exact stuck rfl
  | abs=>
   cases d with
   | int i=>cases hd.intR;exact call_abs pins s σ H _ us Q I r ⟨i,rfl,h.ok _ _ (.refl _) (.int _)⟩
   | _=>exact stuck rfl
  | min2=>cases d<;>exact stuck rfl
  | max2=>cases d<;>exact stuck rfl
  | sorted=>
   cases d with
   | lst o ds=>
    obtain⟨a,ys,rfl,q,m⟩:=hd.lstR
    have h':PO' ex (sortD ds) (Kk X.K S H Q):=h
    unfold sortD at h'
    cases z:asInts ds with
    | some ns=>
     rw[z] at h'
     obtain⟨g,h'⟩:=PO'.grd h'
     rw[asInts_map z] at m
     rw[m.ints] at q
     exact call_sortedI pins s σ H _ us Q I r ⟨a,ns,rfl,q,of_decide_eq_true g,fun p hp=>h'.ok _ _ (.upd hp) (newL hp (ints_rep _))⟩
    | none=>
     rw[z] at h'
     cases z2:asTups ds with
     | none=>simp only[z2] at h';exact h'.no.elim
     | some nss=>
      simp only[z2] at h'
      obtain⟨g,h'⟩:=PO'.grd h'
      have tv:=tupsV_of m z2
      have ln:=m.length
      refine call_sortedT pins s σ H _ us Q I r ⟨a,ys,nss,rfl,q,tv,by have:=of_decide_eq_true g;omega,fun p hp=>h'.ok _ _ (.upd hp) (newL hp ?_)⟩
      refine pick_rep m (ordT nss) fun i hi=>?_
      have:=List.mem_range.mp ((ordT_perm nss).mem_iff.mp hi)
      rw[asTups_len z2] at this
      exact this
   | _=>exact stuck rfl
  | tuple=>
   cases d with
   | str z=>
    cases hd.strR
    obtain⟨g,h⟩:=PO'.grd h
    exact call_tuple_txt hc pins s σ H _ us Q I r ⟨z,rfl,szOk_le g,fun p hp=>h.ok _ _ (.upd hp) (newT hp (chars_rep z))⟩
   | _=>exact stuck rfl
  | str=>exact stuck rfl
  | set=>exact stuck rfl
noncomputable def kdName:Kd→Str
 | .str=>"str" | .int=>"int" | .bool=>"bool" | .list=>"list" | .tuple=>"tuple"
noncomputable def kdTy:Kd→Value
 | .str=>.type "str" | .int=>.type "int" | .bool=>.type "bool" | .list=>.type "list" | .tuple=>.type "tuple"
theorem kd_boot (k:Kd):bootBuiltins (kdName k)=some (kdTy k):=by cases k<;>decide +kernel
noncomputable def dTy:D→Value
 | .non=>.type "NoneType" | .bl _=>.type "bool" | .int _=>.type "int" | .str _=>.type "str" | .tup _=>.type "tuple" | .lst _ _=>.type "list" | .exc _=>.none
theorem kit_dTy (K:PySem.W.Frag) (k:Kd) (d:D) (hn:notX d=true):PySem.W.kitOne K (dTy d) (kdTy k)=some (isiD k d):=by
 cases k<;>cases d<;>first | rfl | cases hn
theorem isiD_ok {pins:List (Addr×Obj)} {s:Shared} {σ:St} {H:Hp} {S:Addr→Prop} {x:V} {v:Value} {d:D} {Q:VK} (I:Inv X pins σ H s) (rx:RelV x v) (hx:HRep X.K S H x d) (k:Kd) (hn:notX d=true) (h:Q (.bl (isiD k d)) H) :
  wpAny (model X.prog X.w) X.A (call (.builtin "isinstance") [v,kdTy k]) (EP X pins σ Q) X.xe s:=by
 have e:=kit_dTy X.K k d hn
 have fin:∀ tk,EP X pins σ Q (.bool (isiD k d)) {s with toks:=tk}:=fun tk=>⟨.bl _,H,I.tok _,rfl,h⟩
 cases d with
 | non=>cases hx.nonR;cases rx;exact PySem.W.kia_one PySem.W.kitx_none I.kIn True.intro e (fun z=>nomatch z) fin
 | bl b=>cases hx.blR;cases rx;exact PySem.W.kia_one PySem.W.kitx_bool I.kIn True.intro e (fun z=>nomatch z) fin
 | int b=>cases hx.intR;obtain⟨t,rfl⟩:=rx;exact PySem.W.kia_one PySem.W.kitx_int I.kIn True.intro e (fun z=>nomatch z) fin
 | str b=>cases hx.strR;obtain⟨t,rfl⟩:=rx;exact PySem.W.kia_one PySem.W.kitx_str I.kIn True.intro e (fun z=>nomatch z) fin
 | tup ds=>
  obtain⟨a,ys,rfl,q,m⟩:=hx.tupR
  cases rx
  obtain⟨its,_,⟨o,h1,h2,_⟩,_⟩:=I.tuple q
  exact PySem.W.kia_one PySem.W.kitx_tuple I.kIn ⟨o,h1,h2⟩ e (fun z=>nomatch z) fin
 | lst o ds=>
  obtain⟨a,ys,rfl,q,m⟩:=hx.lstR
  cases rx
  obtain⟨its,_,pl,_⟩:=I.list q
  obtain⟨o,h1,h2,_⟩:=pl.isList
  exact PySem.W.kia_one PySem.W.kitx_list I.kIn ⟨o,h1,h2⟩ e (fun z=>nomatch z) fin
 | exc c=>cases hn
noncomputable def CV (X:Cx) (x:Str) (v:V):Prop:=(∃ C,v=.ref C∧X.mg x=some (.ref C))∨(∃ T,v=.ty T∧X.mg x=none∧bootBuiltins x=some (.type T))
noncomputable def vv:V→Value
 | .ref C=>.ref C
 | .ty T=>.type T
 | _=>.none
theorem CV.rel {x:Str} {v:V} {u:Value} (h:CV X x v) (r:RelV v u):u=vv v:=by
 rcases h with ⟨C,rfl,_⟩ | ⟨T,rfl,_⟩<;>exact r
theorem isx_one {pins:List (Addr×Obj)} {s:Shared} {σ:St} {H:Hp} {a C:Addr} {c:Str} {cv:Value} {b:Bool} {Q:VK} (I:Inv X pins σ H s) (h:SqE X.K H a (.inr c)) (hC:PySem.W.nsIn X.K mainGlobals c=some (some (.ref C))) (hA:ExcAt X.K C) (hk:PySem.W.kitOne X.K (.ref C) cv=some b) (q:Q (.bl b) H) :
  wpAny (model X.prog X.w) X.A (call (.builtin "isinstance") [.ref a,cv]) (EP X pins σ Q) X.xe s:=by
 obtain⟨C',o,vs,h1,_,h3,h4,_⟩:=I.exc_at h
 rw[hC] at h1
 cases h1
 exact PySem.W.kia_one (kitx_exc hA) I.kIn ⟨o,h3,h4⟩ hk (fun z=>nomatch z) fun tk=>⟨.bl _,H,I.tok _,rfl,q⟩
theorem isx_two {pins:List (Addr×Obj)} {s:Shared} {σ:St} {H:Hp} {a p C:Addr} {c:Str} {v1 v2:V} {b:Bool} {Q:VK} {x1 x2:Str} (I:Inv X pins σ H s) (h:SqE X.K H a (.inr c)) (hC:PySem.W.nsIn X.K mainGlobals c=some (some (.ref C))) (hA:ExcAt X.K C) (c1:CV X x1 v1) (c2:CV X x2 v2) (hp:SqT X.K H p [v1,v2]) (hk:PySem.W.kitAny X.K (.ref C) [vv v1,vv v2]=some b) (q:Q (.bl b) H) :
  wpAny (model X.prog X.w) X.A (call (.builtin "isinstance") [.ref a,.ref p]) (EP X pins σ Q) X.xe s:=by
 obtain⟨C',o,vs,h1,_,h3,h4,_⟩:=I.exc_at h
 rw[hC] at h1
 cases h1
 obtain⟨its,rv,⟨ot,e1,e2,e3⟩,_⟩:=I.tuple hp
 obtain⟨u1,u2,rfl,r1,r2⟩:=vals2 rv
 rw[← c1.rel r1,← c2.rel r2] at hk
 obtain⟨k1,k2,k3,k4⟩:=ot
 dsimp only at e2 e3
 subst e2
 obtain⟨n,e3⟩:=e3
 subst e3
 exact PySem.W.kia_tup (kitx_exc hA) I.kIn ⟨o,h3,h4⟩ e1 hk (fun z=>nomatch z) fun tk=>⟨.bl _,H,I.tok _,rfl,q⟩
noncomputable def mtName:Mt→Str
 | .join=>"join" | .index=>"index" | .starts=>"startswith"
noncomputable def mtId:Mt→String
 | .join=>"str.join" | .index=>"str.index" | .starts=>"str.startswith"
noncomputable def rMt (K:PySem.W.Frag) (ex:Str→Prop) (m:Mt):V→List V→Hp→VK→Prop:=fun x xs H Q=>∃ S d ds,HRep K S H x d∧HReps K S H xs ds∧PO' ex (opMt m d ds) (Kk K S H Q)
theorem opMt_str {m:Mt} {d:D} {ds:List D} {k:D→Prop} (h:PO' ex (opMt m d ds) k):∃ x,d=.str x:=by
 cases m<;>cases d<;>first | exact⟨_,rfl⟩ | exact h.no.elim
theorem opMt_ok (m:Mt) (hc:m=.index→X.calm=true):MtR X (mtId m) (rMt X.K ex m):=by
 intro pins s σ H x xs v us Q I rx rs h
 obtain⟨S,d,ds,hx,hs,h⟩:=h
 obtain⟨z,rfl⟩:=opMt_str h
 cases hx.strR
 obtain⟨t,rfl⟩:=rx
 have stuck:∀ {P:Prop},opMt m (.str z) ds=stk→P:=fun z=>by rw[z] at h;exact h.no.elim
 match ds,hs with
 | [],_=>cases m<;>exact stuck rfl
 | d::e::r,_=>cases m<;>cases d<;>exact stuck rfl
 | [d],hs=>
  obtain⟨y,rfl,hd⟩:=hs.one1
  obtain⟨u,rfl,ru⟩:=vals1 rs
  cases m with
  | join=>
   cases d with
   | lst o ds=>
    obtain⟨a,ys,rfl,q,m⟩:=hd.lstR
    cases ru
    have h':PO' ex (match asStrs ds with | some ys=>grd (decide ((ys.map (·.length)).sum + ys.length * z.length≤16777216)) (.ok (.str (Txt.join z ys))) | none=>stk) (Kk X.K S H Q):=h
    cases w:asStrs ds with
    | none=>rw[w] at h';exact h'.no.elim
    | some ns=>
     rw[w] at h'
     obtain⟨g,h'⟩:=PO'.grd h'
     rw[asStrs_map w] at m
     rw[m.strs] at q
     obtain⟨its,rv,pl,_⟩:=I.list q
     exact join_list pl.isList (by simpa using strsAre_ofV rv) (of_decide_eq_true g) fun t' k=>⟨.str _,H,I.tok _,⟨_,rfl⟩,h'.ok _ _ (.refl _) (.str _)⟩
   | _=>exact stuck rfl
  | index=>
   cases d with
   | str y=>
    cases hd.strR
    obtain⟨t',rfl⟩:=ru
    obtain⟨g,h⟩:=PO'.grd h
    have g':0≤Txt.find z y:=of_decide_eq_true g
    exact index_or (I.ok.hd (hc rfl)) (fun e=>by omega) fun _ _=>⟨.int _,H,I.tok _,⟨_,rfl⟩,h.ok _ _ (.refl _) (.int _)⟩
   | _=>exact stuck rfl
  | starts=>
   cases d with
   | str y=>
    cases hd.strR
    obtain⟨t',rfl⟩:=ru
    exact SC.startswith ⟨.bl _,H,I,rfl,PO'.ok h _ _ (.refl _) (.bl _)⟩
   | _=>exact stuck rfl
noncomputable def Its (x:Str):It:=⟨fun i _=>i < x.cps.size,fun i H v H'=>H'=H∧∃ c,x.cps[i]? = some c∧v=.str ⟨#[c]⟩,fun i _=>x.cps.size≤i⟩
theorem turn_str {P:Program} {w:World} {K:PySem.W.Frag} {tg:Expr} {it:Addr} {x:Str} {t:Tok} {ty:String} (hty:ty = "str_ascii_iterator"∨ty = "str_iterator")
  (W:∀ A':Around,A'.handled=none→Walks P w A' it [it] [it] x.cps.size (SignAt x) (fun i h=>h.IsStrIter it ty x t i)):Turn P w K tg (Its x) [it] it (fun i h=>i≤x.cps.size∧h.IsStrIter it ty x t i) where
 mem:=by simp
 obj:=fun i h st b hb=>by
  have e:b=it:=by simpa using hb
  subst e
  obtain⟨_,o,e,c,d⟩:=st
  exact⟨o,e,fun v z=>by rw[d] at z;cases z⟩
 keep:=fun i h h' st k=>by
  obtain⟨l,o,e,c,d⟩:=st
  exact⟨l,o,k it (by simp) o e,c,d⟩
 item:=by
  intro X hP hw hK hc i pins s σ H E I hf st hg
  subst hP hw hK
  obtain⟨f0,f1,f2,f3,f4,f5⟩:=hf it (by simp)
  refine(W X.A (I.ok.hd hc)).item i s _ _ hg st.2 fun v h' tk hv st' kk=>?_
  obtain⟨c,u,hcx,rfl⟩:=hv
  have I1:Inv X pins σ H {s with heap:=h',toks:=tk}:=I.turned (fun b o hb e=>kk b o (by simpa using hb) e) f0 f1 f3 f4 f5
  obtain⟨o,e,cc,d⟩:=id st'
  refine⟨_,rfl,go_of (s:={s with heap:=h',toks:=tk}) (n:=ty) e cc d (by rcases hty with rfl | rfl<;>decide) ⟨.str ⟨#[c]⟩,H,I1,⟨u,rfl⟩,⟨rfl,c,hcx,rfl⟩,⟨hg,st'⟩,fun b hb=>(hf b hb).1⟩⟩
 done:=by
  intro X hP hw hK hc i pins s σ H E I hf st hg
  subst hP hw hK
  obtain⟨f0,f1,f2,f3,f4,f5⟩:=hf it (by simp)
  have e:i=x.cps.size:=Nat.le_antisymm st.1 hg
  refine(W X.A (I.ok.hd hc)).done s _ _ (by rw[← e];exact st.2) fun h' tk kk=>⟨rfl,I.turned (fun b o hb e=>kk b o (by simpa using hb) e) f0 f1 f3 f4 f5⟩
 self:=fun A i s Q E st h=>by
  obtain⟨_,st⟩:=st
  rcases hty with rfl | rfl
  ·exact wpAny_pyIter_striter_ascii st h
  ·exact wpAny_pyIter_striter_wide st h
theorem it_str {tg:Expr} {pins:List (Addr×Obj)} {s:Shared} {σ:St} {H:Hp} {x:Str} {t:Tok} {R:It→Hp→Prop} (I:Inv X pins σ H s) (q:R (Its x) H):wpAny (model X.prog X.w) X.A (pyIter (.str x t)) (PIE X pins σ tg R) X.xe s:=by
 have fin:∀ ty,(ty = "str_ascii_iterator"∨ty = "str_iterator")→(∀ A':Around,A'.handled=none→Walks X.prog X.w A' s.heap.objs.size [s.heap.objs.size] [s.heap.objs.size] x.cps.size (SignAt x) (fun i h=>h.IsStrIter s.heap.objs.size ty x t i))→
   PIE X pins σ tg R (.ref s.heap.objs.size) {s with heap:=s.heap.push {cls:=.type ty,data:=.fields #[.str x t,.int 0 0]}}:=fun ty hty W=>by
  refine⟨s.heap.objs.size,[s.heap.objs.size],_,_,H,rfl,I.kept (t':=s.toks) fun b o e=>Heap.get?_push_of_some _ e,turn_str hty W,⟨Nat.zero_le _,_,Heap.get?_push_size _ rfl,rfl,rfl⟩,fun b hb=>?_,q⟩
  have e:b=s.heap.objs.size:=by simpa using hb
  subst e
  exact I.fpOk (Nat.le_refl _) (I.hok.fresh (Nat.le_refl _))
 cases ha:x.cps.all (· < 128)
 ·exact wpAny_pyIter_wide ha (fin _ (.inr rfl) fun A' hA=>Walks.strWide hA _ x t)
 ·exact wpAny_pyIter_ascii ha (fin _ (.inl rfl) fun A' hA=>Walks.strAscii hA _ x t)
end
end L2
namespace L2
open PySem PySem.Spec PyProof.Rows PySem.SeqAt
theorem ObjOk.at {P:Program} {w:World} {H:Hp} {h:Heap} {a:Addr} {o:HO} (x:ObjOk P w H h a o):∃ ob,h.get? a=some ob:=by
 cases o with
 | lst xs=>obtain⟨_,_,_,_,e⟩:=x;exact⟨_,e⟩
 | tup xs=>obtain⟨_,_,_,ob,e,_⟩:=x;exact⟨_,e⟩
 | dK kvs=>obtain⟨_,_,_,_,o,_,_,e,_⟩:=x;exact⟨_,e⟩
 | dT kvs=>obtain⟨_,_,_,_,o,_,_,e,_⟩:=x;exact⟨_,e⟩
 | set S n=>obtain⟨o,_,_,_,e,_⟩:=x;exact⟨_,e⟩
 | ins C dx fs=>obtain⟨_,_,_,e,_⟩:=x;exact⟨_,e⟩
 | own y=>exact x
 | xd fs=>obtain⟨_,⟨_,_,_,e,_⟩,_⟩:=x;exact⟨_,e⟩
 | rng lo hi=>obtain⟨_,_,_,e⟩:=x;exact⟨_,e⟩
 | frz ob u=>exact⟨_,x.1⟩
 | tbl ps=>exact⟨_,x⟩
 | met f y=>exact⟨_,x⟩
 | ext φ=>exact x.2.1
noncomputable def indep:HO→Bool
 | .lst _=>true
 | .tup _=>true
 | .ext _=>true
 | _=>false
theorem indep_ok {P:Program} {w:World} {H H':Hp} {h:Heap} {a:Addr} {u:HO} (i:indep u=true) (x:ObjOk P w H h a u):ObjOk P w H' h a u:=by
 cases u with
 | lst _=>exact x
 | tup _=>exact x
 | ext _=>exact x
 | _=>cases i
noncomputable def hidC (h:Heap) (H:Hp):Hp:=fun b=>match H b with
 | some (.lst xs)=>(h.get? b).map fun o=>.frz o (.lst xs)
 | some (.tup xs)=>some (.tup xs)
 | some (.frz o u)=>if indep u=true then some (.frz o u) else none
 | _=>none
noncomputable def resC (H H':Hp):Hp:=fun b=>match H b with
 | some o=>some o
 | none=>H' b
noncomputable def LTH (H:Hp):Prop:=∀ b o,H b=some o→(∃ ob u,o=.frz ob u)∨∃ xs,o=.tup xs
theorem hid_lt (h:Heap) (H:Hp):LTH (hidC h H):=fun b o e=>by
 unfold hidC at e
 split at e
 ·obtain⟨ob,_,rfl⟩:=Option.map_eq_some_iff.mp e
  exact .inl ⟨_,_,rfl⟩
 ·cases e;exact .inr ⟨_,rfl⟩
 ·split at e
  ·cases e;exact .inl ⟨_,_,rfl⟩
  ·cases e
 ·cases e
structure Pers (h:Heap) (Hc H':Hp):Prop where
 frzs:∀ b o u,Hc b=some (.frz o u)→H' b=some (.frz o u)
 tups:∀ b xs,Hc b=some (.tup xs)→H' b=some (.tup xs)
 free:∀ b o,h.get? b=some o→Hc b=none→H' b=none
inductive Bk (h:Heap) (H H':Hp) (b:Addr):HO→Prop where
 | lst {xs:List V} {ob:Obj}:h.get? b=some ob→H' b=some (.frz ob (.lst xs))→Bk h H H' b (.lst xs)
 | tup {xs:List V}:H' b=some (.tup xs)→Bk h H H' b (.tup xs)
 | frz {o:Obj} {u:HO}:indep u=true→H' b=some (.frz o u)→Bk h H H' b (.frz o u)
 | oth {o:HO} {ob:Obj}:h.get? b=some ob→hidC h H b=none→H' b=none→(∀ xs,o≠.lst xs)→(∀ xs,o≠.tup xs)→Bk h H H' b o
section
variable {P:Program} {w:World} {H H':Hp} {h g:Heap}
theorem bk_of (x:HOk P w H h) (p:Pers h (hidC h H) H') {b:Addr} {o:HO} (e:H b=some o):Bk h H H' b o:=by
 obtain⟨ob,he⟩:=(x b o e).at
 have hc:hidC h H b=(match (some o:Option HO) with
  | some (.lst xs)=>(h.get? b).map fun o=>.frz o (.lst xs)
  | some (.tup xs)=>some (.tup xs)
  | some (.frz o u)=>if indep u=true then some (.frz o u) else none
  | _=>none):=by unfold hidC;rw[e]
 cases o with
 | lst xs=>
  have hc:hidC h H b=(h.get? b).map fun o=>.frz o (.lst xs):=hc
  rw[he] at hc
  exact .lst he (p.frzs _ _ _ hc)
 | tup xs=>exact .tup (p.tups _ _ hc)
 | frz o' u=>
  have hc:hidC h H b=if indep u=true then some (.frz o' u) else none:=hc
  by_cases i:indep u=true
  ·rw[if_pos i] at hc
   exact .frz i (p.frzs _ _ _ hc)
  ·rw[if_neg i] at hc
   exact .oth he hc (p.free _ _ he hc) (fun _ z=>by cases z) (fun _ z=>by cases z)
 | _=>exact .oth he hc (p.free _ _ he hc) (fun _ z=>by cases z) (fun _ z=>by cases z)
theorem hid_ok (x:HOk P w H h):HOk P w (hidC h H) h:=fun b o e=>by
 cases q:H b with
 | none=>unfold hidC at e;rw[q] at e;cases e
 | some u=>
  have y:=x b u q
  unfold hidC at e
  rw[q] at e
  cases u with
  | lst xs=>
   obtain⟨ob,he⟩:=y.at
   have e:(h.get? b).map (fun o=>HO.frz o (.lst xs))=some o:=e
   rw[he] at e
   cases e
   exact⟨he,y⟩
  | tup xs=>cases e;exact y
  | frz o' u=>
   have e:(if indep u=true then some (HO.frz o' u) else none)=some o:=e
   by_cases i:indep u=true
   ·rw[if_pos i] at e;cases e;exact⟨y.1,indep_ok i y.2⟩
   ·rw[if_neg i] at e;cases e
  | _=>cases e
theorem hid_none (e:H a=none):hidC h H a=none:=by unfold hidC;rw[e]
theorem res_some {b:Addr} {o:HO} (e:H b=some o):resC H H' b=some o:=by unfold resC;rw[e]
theorem res_none {b:Addr} (e:H b=none):resC H H' b=H' b:=by unfold resC;rw[e]
theorem res_same:Same H (resC H H'):=fun b o e=>res_some e
theorem res_ok (x:HOk P w H h) (y:HOk P w H' g) (p:Pers h (hidC h H) H') {fs:List Addr} (keep:∀ b o,h.get? b=some o→hidC h H b=none→b ∉ fs→g.get? b=some o) (fr:∀ b ∈ fs,H b=none):HOk P w (resC H H') g:=by
 have tp:∀ c xs,H' c=some (.tup xs)→resC H H' c=some (.tup xs):=fun c xs e=>by
  cases q:H c with
  | none=>rw[res_none q];exact e
  | some o=>
   rw[res_some q]
   cases bk_of x p q with
   | lst _ z=>rw[z] at e;cases e
   | tup z=>rw[z] at e;exact e
   | frz _ z=>rw[z] at e;cases e
   | oth _ _ z _ _=>rw[z] at e;cases e
 intro b o e
 cases q:H b with
 | some o'=>
  rw[res_some q] at e
  cases e
  cases bk_of x p q with
  | lst h1 z=>
   have h2:=(y b _ z).1
   obtain⟨a1,its,n,a2,a3⟩:=x b _ q
   rw[h1] at a3
   exact⟨a1,its,n,a2,by rw[h2,← a3]⟩
  | tup z=>exact y b _ z
  | frz i z=>exact⟨(y b _ z).1,indep_ok i (y b _ z).2⟩
  | oth h1 h2 z n1 n2=>
   refine(x b _ q).stay (fun c u hc hu=>?_) (fun c hc=>res_some hc) fun c xs hc=>res_some hc
   rcases hc with rfl | hc
   ·exact keep _ _ hu h2 fun z=>by rw[fr _ z] at q;cases q
   ·refine keep _ _ hu ?_ fun z=>by rw[fr _ z] at hc;cases hc
    unfold hidC
    rw[hc]
 | none=>
  rw[res_none q] at e
  refine(y b o e).stay (fun _ _ _ z=>z) (fun c hc=>?_) tp
  cases q':H c with
  | none=>rw[res_none q'];exact hc
  | some o'=>
   exfalso
   cases bk_of x p q' with
   | lst _ z=>rw[z] at hc;cases hc
   | tup z=>rw[z] at hc;cases hc
   | frz _ z=>rw[z] at hc;cases hc
   | oth _ _ z _ _=>rw[z] at hc;cases hc
theorem un_pers {fs:List Addr} (u:Un fs [] (hidC h H) H' h g):Pers h (hidC h H) H':=⟨u.frzs,u.tups,fun b o e n=>u.free b o e n (by simp)⟩
theorem res_un {fs:List Addr} (x:HOk P w H h) (u:Un fs [] (hidC h H) H' h g):Un fs [] H (resC H H') h g where
 keep:=fun b o e n f i=>u.keep b o e (hid_none n) f i
 slot:=fun b o e n f i=>u.slot b o e (hid_none n) f i
 free:=fun b o e n i=>by rw[res_none n];exact u.free b o e (hid_none n) i
 there:=u.there
 tups:=fun b xs e=>res_some e
 frzs:=fun b o v e=>res_some e
 tbls:=fun b ps e=>⟨#[],by rw[res_some e];simp⟩
end
end L2
namespace L2
open PySem PySem.Spec PyProof.Rows PySem.SeqAt
noncomputable def H0:Hp:=fun _=>none
noncomputable def CX1 (P:Program) (w:World):CXT:=fun outer H s E e s'=>∃ (a:Addr) (cls a0:Value) (H':Hp) (B:Heap),e=.ref a∧s'.os=s.os∧AllBare s'.gens∧Un (frs outer) [] H H' s.heap s'.heap∧HOk P w H' B∧Same H H'∧
 (∀ b o,s.heap.get? b=some o→H b=none→b ∉ frs outer→B.get? b=some o)∧Heap.FlyingW B outer a cls a0 s'.heap∧E cls none H0
noncomputable def xp1 (K:PySem.W.Frag):XK→Hp→Str→Prop:=fun E _ c=>∀ C,PySem.W.nsIn K mainGlobals c=some (some (.ref C))→E (.ref C) none H0
end L2
namespace L2
open PySem PySem.Spec PyProof.Rows PySem.SeqAt
noncomputable def bnames:List Str:=["len","sum","min","max","sorted","list","tuple","ord","int","all","any","str","set","abs","isinstance","range","bool","zip"]
noncomputable def biNum:Bi→Nat
 | .len=>0 | .sum=>1 | .min2=>2 | .max2=>3 | .sorted=>4 | .list=>5 | .tuple=>6 | .ord=>7 | .int=>8 | .all=>9 | .any=>10 | .str=>11 | .set=>12 | .abs=>13
noncomputable def kdNum:Kd→Nat
 | .str=>11 | .int=>8 | .bool=>16 | .list=>5 | .tuple=>6
theorem bi_num (f:Bi):bnames[biNum f]? = some (biName f):=by cases f<;>rfl
theorem kd_num (f:Kd):bnames[kdNum f]? = some (kdName f):=by cases f<;>rfl
mutual
noncomputable def dbeq:D→D→Bool
 | .non,.non=>true
 | .bl a,.bl b=>a == b
 | .int a,.int b=>a == b
 | .str a,.str b=>a == b
 | .tup a,.tup b=>dbeqs a b
 | .lst o a,.lst o' b=>o == o' && dbeqs a b
 | _,_=>false
noncomputable def dbeqs:List D→List D→Bool
 | [],[]=>true
 | a::r,b::s=>dbeq a b && dbeqs r s
 | _,_=>false
end
mutual
theorem dbeq_eq:∀ {a b:D},dbeq a b=true→a=b
 | .non,b,h=>by cases b<;>first | rfl | cases h
 | .bl a,b,h=>by cases b<;>first | (rw[eq_of_beq (show (a == _)=true from h)]) | cases h
 | .int a,b,h=>by cases b<;>first | (rw[eq_of_beq (show (a == _)=true from h)]) | cases h
 | .str a,b,h=>by cases b<;>first | (rw[eq_of_beq (show (a == _)=true from h)]) | cases h
 | .tup a,b,h=>by
  cases b with
  | tup b=>rw[dbeqs_eq (show dbeqs a b=true from h)]
  | _=>cases h
 | .lst o a,b,h=>by
  cases b with
  | lst o' b=>
   have h':(o == o' && dbeqs a b)=true:=h
   rw[Bool.and_eq_true] at h'
   rw[eq_of_beq h'.1,dbeqs_eq h'.2]
  | _=>cases h
theorem dbeqs_eq:∀ {a b:List D},dbeqs a b=true→a=b
 | [],b,h=>by cases b<;>first | rfl | cases h
 | a::r,b,h=>by
  cases b with
  | nil=>cases h
  | cons b s=>
   have h':(dbeq a b && dbeqs r s)=true:=h
   rw[Bool.and_eq_true] at h'
   rw[dbeq_eq h'.1,dbeqs_eq h'.2]
end
structure Sg where
 nm:List Str
 kst:List (Nat×D)
 fns:List Nat
 cls:List Nat:=[]
 xt:List (Str×Nat×Bool):=[]
 pl:List Nat:=[]
 rc:List (Nat×Str):=[]
 xm:List (Str×Nat):=[]
noncomputable def Sg.name (Z:Sg) (n:Nat):Option Str:=(bnames++Z.nm)[n]?
noncomputable def Gm.glc (G:Gm) (n:Nat):Bool:=G.cm && G.gl.contains n
theorem glc_gl {G:Gm} {n:Nat} (h:G.glc n=true):G.gl.contains n=true:=by
 unfold Gm.glc at h;rw[Bool.and_eq_true] at h;exact h.2
theorem glc_cm {G:Gm} {n:Nat} (h:G.glc n=true):G.cm=true:=by
 unfold Gm.glc at h;rw[Bool.and_eq_true] at h;exact h.1
noncomputable def Sg.fnc (Z:Sg) (G:Gm) (f:Nat):Bool:=Z.fns.contains f && (G.cm || Z.pl.contains f)
theorem fnc_fn {Z:Sg} {G:Gm} {f:Nat} (h:Z.fnc G f=true):f ∈ Z.fns∧(G.cm=true∨f ∈ Z.pl):=by
 unfold Sg.fnc at h
 rw[Bool.and_eq_true,Bool.or_eq_true] at h
 exact⟨by simpa using h.1,h.2.elim .inl fun z=>.inr (by simpa using z)⟩
noncomputable def isJoin:Mt→Bool
 | .join=>true
 | _=>false
noncomputable def notStar:Expr→Bool
 | .Starred ..=>false
 | _=>true
noncomputable def notSlice:Expr→Bool
 | .Slice ..=>false
 | _=>true
noncomputable def notCall0:Expr→Bool
 | .Call _ [] [] _=>false
 | _=>true
noncomputable def chkV (G:Gm) (i:Nat) (x:Str):Bool:=G.N[i]? == some x && (G.kd[i]? == some .local || G.kd[i]? == some .cell || G.kd[i]? == some .free)
noncomputable def chkG (Z:Sg) (G:Gm) (n:Nat) (x:Str):Bool:=Z.name n == some x && G.gl.contains n
noncomputable def chkC:D→Const→Bool
 | .int i,.int j=>i == j
 | .str x,.str y=>x == y
 | .bl a,.bool b=>a == b
 | .non,.none=>true
 | _,_=>false
mutual
noncomputable def chkT (G:Gm):Tg→Expr→Bool
 | .nm i,.Name x _=>G.N[i]? == some x && (G.kd[i]? == some .local || (G.df && G.kd[i]? == some .cell))
 | .tp ts,.Tuple es _ _=>G.cm && chkTs G ts es
 | _,_=>false
noncomputable def chkTs (G:Gm):List Tg→List Expr→Bool
 | [],[]=>true
 | t::ts,e::es=>notStar e && chkT G t e && chkTs G ts es
 | _,_=>false
end
mutual
noncomputable def tgs:Tg→List Nat
 | .nm i=>[i]
 | .tp ts=>tgss ts
noncomputable def tgss:List Tg→List Nat
 | []=>[]
 | t::ts=>tgs t++tgss ts
end
noncomputable def chkScope (Z : Sg) (G : Gm) (scope : Scope) (G' : Gm) (fr : List Nat) : Bool :=
  (G.cm && scope.kind == .function) && !G'.tr && !G'.df && G'.kd.length == G'.N.length
  && scope.names.all (fun y => y.2 != .cell) && scope.names.all (fun y => y.2 != .local || scope.names.lookup y.1 == some .local)
  && scope.names.all (fun y => y.2 != .free || (List.range G.N.length).any fun i => G.N[i]? == some y.1 && (G.kd[i]? == some .cell || G.kd[i]? == some .free))
  && (List.range fr.length).all (fun j => G'.N[j]? == (fr[j]?).bind (G.N[·]?) && ((G'.N[j]?).bind (scope.names.lookup ·) == some .free) && ((fr[j]?).bind (G.kd[·]?) == some .cell || (fr[j]?).bind (G.kd[·]?) == some .free)
      && (G'.kd[j]? == some (if ((fr[j]?).bind (G.kd[·]?) == some .cell) then .cell else .free)))
  && decide (fr.length ≤ G'.N.length)
  && ((List.range G'.N.length).drop fr.length).all (fun j => (G'.N[j]?).bind (scope.names.lookup ·) == some .local && G'.kd[j]? == some .local)
  && G'.N.all (fun x => !(x == "__debug__") && !(x == "__classdict__"))
  && decide (G'.N.Nodup)
  && G'.gl.all (fun n => match Z.name n with | some x => scope.names.lookup x == some .globalImplicit | none => false)
theorem no_h {P:Prop} (h:false=true):P:=by cases h
noncomputable def gen1:List Comprehension→(Expr→Expr→List Expr→Bool)→Bool
 | [⟨t,it,fs,0⟩],k=>k t it fs
 | _,_=>false
theorem gen1_ok {gens:List Comprehension} {k:Expr→Expr→List Expr→Bool} (h:gen1 gens k=true):∃ t it fs,gens=[⟨t,it,fs,0⟩]∧k t it fs=true:=by
 unfold gen1 at h
 split at h
 ·exact⟨_,_,_,rfl,h⟩
 ·cases h
noncomputable def nmv (k:Str→Bool):Expr→Bool
 | .Name z _=>k z
 | _=>false
theorem nmv_ok {k:Str→Bool} {e:Expr} (h:nmv k e=true):∃ z p,e=.Name z p∧k z=true:=by
 cases e with
 | Name z p=>exact⟨z,p,rfl,h⟩
 | _=>exact no_h h
noncomputable def tpv (k:List Expr→Bool):Expr→Bool
 | .Tuple es _ _=>k es
 | _=>false
theorem tpv_ok {k:List Expr→Bool} {e:Expr} (h:tpv k e=true):∃ es c p,e=.Tuple es c p∧k es=true:=by
 cases e with
 | Tuple es c p=>exact⟨es,c,p,rfl,h⟩
 | _=>exact no_h h
noncomputable def chk2 (k:Expr→Expr→Bool):List Expr→Bool
 | [a,b]=>k a b
 | _=>false
noncomputable def chkCl (Z:Sg) (G:Gm):List Nat→Expr→Bool
 | [n],e=>nmv (fun z=>chkG Z G n z && Z.cls.contains n) e
 | [n,m],e=>tpv (chk2 fun a b=>nmv (fun z=>chkG Z G n z && Z.cls.contains n) a && nmv (fun y=>chkG Z G m y && Z.cls.contains m) b) e
 | _,_=>false
noncomputable def tbOk (Z:Sg):List Nat→Str×Bool→Bool
 | [n],p=>Z.xt.contains (p.1,n,p.2)
 | [n,m],p=>Z.xt.contains (p.1,n,false) && Z.xt.contains (p.1,m,p.2)
 | _,_=>false
noncomputable def isTup0:Expr→Bool
 | .Tuple _ _ _=>true
 | _=>false
noncomputable def srOk:Sr→Expr→Bool
 | .zip _ _,t=>isTup0 t
 | _,_=>true
noncomputable def jrv:Expr→(Str→Expr→Option Str→Bool)→Bool
 | .JoinedStr [.Constant (.str x) _ _,.FormattedValue e n none _] _,k=>n == 114 && k x e none
 | .JoinedStr [.Constant (.str x) _ _,.FormattedValue e n none _,.Constant (.str y) _ _] _,k=>n == 114 && k x e (some y)
 | _,_=>false
theorem jrv_ok {e:Expr} {k:Str→Expr→Option Str→Bool} (h:jrv e k=true):∃ x e' y,k x e' y=true∧((∃ j p q pos,y=none∧e=.JoinedStr [.Constant (.str x) j p,.FormattedValue e' 114 none q] pos)∨
  ∃ w j p q j' r pos,y=some w∧e=.JoinedStr [.Constant (.str x) j p,.FormattedValue e' 114 none q,.Constant (.str w) j' r] pos):=by
 unfold jrv at h
 split at h
 ·rw[Bool.and_eq_true] at h
  rw[eq_of_beq h.1]
  exact⟨_,_,_,h.2,.inl ⟨_,_,_,_,rfl,rfl⟩⟩
 ·rw[Bool.and_eq_true] at h
  rw[eq_of_beq h.1]
  exact⟨_,_,_,h.2,.inr ⟨_,_,_,_,_,_,_,rfl,rfl⟩⟩
 ·cases h
mutual
noncomputable def chk (Z:Sg) (G:Gm):IR→Expr→Bool
 | .c d,.Constant k _ _=>chkC d k
 | .g n d,.Name x _=>chkG Z G n x && Z.kst.any fun p=>p.1 == n && dbeq p.2 d
 | .v i,.Name x _=>chkV G i x
 | .bin op a b,.BinOp l o r _=>o == bop op && chk Z G a l && chk Z G b r
 | .neg a,.UnaryOp .USub e _=>chk Z G a e
 | .cmp op a b,.Compare l [o] [r] _=>o == cop op && chk Z G a l && chk Z G b r && !behindInMarks o r
 | .chain op op' a b c,.Compare l [o,o'] [m,r] _=>o == cop op && o' == cop op' && chk Z G a l && chk Z G b m && chk Z G c r && !lastMarks [o,o'] [m,r]
 | .and_ a b,.BoolOp .And [e,e'] _=>chk Z G a e && chk Z G b e'
 | .and_ a b,.BoolOp .And (e::e'::e''::rest) p=>chk Z G a e && chk Z G b (.BoolOp .And (e'::e''::rest) p)
 | .or_ a b,.BoolOp .Or [e,e'] _=>chk Z G a e && chk Z G b e'
 | .or_ a b,.BoolOp .Or (e::e'::e''::rest) p=>chk Z G a e && chk Z G b (.BoolOp .Or (e'::e''::rest) p)
 | .not_ a,.UnaryOp .Not e _=>chk Z G a e
 | .ite t a b,.IfExp c x y _=>chk Z G t c && chk Z G a x && chk Z G b y
 | .tup es,.Tuple l _ _=>chks Z G es l
 | .lst es,.List l _=>chks Z G es l
 | .sl a lo hi,.Subscript e (.Slice l h none _) _=>chk Z G a e && chkO Z G lo l && chkO Z G hi h
 | .idx a i,.Subscript e s _=>notSlice s && chk Z G a e && chk Z G i s
 | .call f es,.Call (.Name x _) args [] _=>chkG Z G f x && Z.fnc G f && chks Z G es args
 | .bi f es,.Call (.Name x _) (a::args) [] _=>x == biName f && G.glc (biNum f) && chks Z G es (a::args)
 | .isi a k,.Call (.Name x _) [e,.Name y _] [] _=>x == "isinstance" && G.gl.contains 14 && y == kdName k && G.gl.contains (kdNum k) && notStar e && chk Z G a e
 | .isx a ns tb,.Call (.Name x _) [e,y] [] _=>x == "isinstance" && G.gl.contains 14 && notStar e && chkCl Z G ns y && tb.all (tbOk Z ns) && chk Z G a e
 | .ftr x a y,e=>jrv e fun x' e' y'=>x == x' && y == y' && decide (x.length≤1000) && chk Z G a e'
 | .mth m o es,.Call (.Attribute oe name apos) (a::args) [] cpos=>name == mtName m && notCall0 oe && apos.endLine == cpos.line && (decide ((a::args).length < 29) && (G.cm || isJoin m)) && chk Z G o oe && chks Z G es (a::args)
 | .comp G' fr tg src ifs elt,.ListComp e gens scope _=>gen1 gens fun t it fs=>chkScope Z G scope G' fr && chkT G' tg t && (tgs tg).all (fun i=>decide (fr.length≤i)) && (chkSr Z G src it && srOk src t) && chks Z G' ifs fs && chk Z G' elt e
 | _,_=>false
noncomputable def chks (Z:Sg) (G:Gm):List IR→List Expr→Bool
 | [],[]=>true
 | a::es,e::l=>notStar e && chk Z G a e && chks Z G es l
 | _,_=>false
noncomputable def chkO (Z:Sg) (G:Gm):Option IR→Option Expr→Bool
 | none,none=>true
 | some a,some e=>chk Z G a e
 | _,_=>false
noncomputable def chkSr (Z:Sg) (G:Gm):Sr→Expr→Bool
 | .rng1 n,.Call (.Name x _) [e] [] _=>x == "range" && G.gl.contains 15 && notStar e && chk Z G n e
 | .rng2 a b,.Call (.Name x _) [e,e'] [] _=>x == "range" && G.gl.contains 15 && notStar e && notStar e' && chk Z G a e && chk Z G b e'
 | .zip a b,.Call (.Name x _) [e,e'] [] _=>x == "zip" && G.gl.contains 17 && notStar e && notStar e' && chk Z G a e && chk Z G b e'
 | .val a,e=>chk Z G a e
 | _,_=>false
end
noncomputable def bmV:List Value:=[.type "ValueError",.type "Exception",.type "BaseException",.type "object"]
noncomputable def FOk (F:Addr→Prop) (H:Hp):Prop:=∀ a,F a→H a≠none
structure Out (K:PySem.W.Frag) (F:Addr→Prop) (H:Hp) (F':Addr→Prop) (H':Hp) (v:V) (d:D) (fv:List Addr):Prop where
 fok:FOk F' H'
 same:Same H H'
 rep:MRep K F' H' v d fv
 nod:fv.Nodup
 new:∀ a ∈ fv,H a=none
 inn:∀ a,F a→F' a
 out:∀ a,F' a→F a∨H a=none
noncomputable def spF (K:PySem.W.Frag) (cl:Nat→List D→Res D) (xp:XK→Hp→Str→Prop) (f:Nat) (ps:List Str):Sp:=fun vs H Q E=>vs.length=ps.length∧LTH H∧∃ F ds,FOk F H∧HReps K F H vs ds∧
 PO' (xp E H) (cl f (ers ds)) fun d=>∀ v H' F' fv,Out K F H F' H' v d fv→Q v H'
structure FnC (P:Program) (w:World) (K:PySem.W.Frag) (mg:Str→Option Value) (base:Heap) (CX:CXT) (A:Around) (cl:Nat→List D→Res D) (xp:XK→Hp→Str→Prop) (f:Nat) (x:Str):Prop where
 ex:∃ (k:Nat) (fa:Addr) (fd:FuncData) (ps:List Str),mg x=some (.ref fa)∧PySem.W.keepIn K (.ref fa)=true∧Binds K fd ps []∧FnOk P w K mg base CX k fa fd ps (spF K cl xp f ps)∧Room k A∧
  ∀ (ex:Str→Prop) ds (k:D→Prop),PO' ex (cl f ds) k→ds.length=ps.length
structure TrOk (Z:Sg) (CX:CXT) (cl:Nat→List D→Res D) (xp:XK→Hp→Str→Prop) (X:Cx):Prop where
 st:X.stack=X.env::X.outer
 fr:X.env.frame=some X.env.locals
 lt:LTH X.H₀
 pl:∀ a:Addr,∀ f ∈ Z.fns,f ∈ Z.pl→∀ x,Z.name f=some x→FnC X.prog X.w X.K X.mg X.base CX (X.A.mark (some (.ref a))) cl xp f x
 cx:∀ (outer:List Env) (H:Hp) (s:Shared) (E:XK) (e:Value) (s':Shared),CX outer H s E e s'→CX1 X.prog X.w outer H s E e s'
 xp:∀ (c:Str) (C:Addr) (H:Hp),PySem.W.nsIn X.K mainGlobals c=some (some (.ref C))→xp (fun cls _ _=>cls=.ref C) H c
structure GOk (Z:Sg) (CX:CXT) (cl:Nat→List D→Res D) (xp:XK→Hp→Str→Prop) (X:Cx) (ex:Str→Prop) (G:Gm):Prop where
 N:X.N=G.N
 nod:G.N.Nodup
 calm:G.cm=true→X.calm=true
 fk:X.env.scope.kind=.function
 un:X.A.units + 42 < cLine
 own:G.rs=true→PassesOwn (model X.prog X.w) X.A X.env X.xe
 kd:∀ (i:Nat) (x:Str),G.N[i]? = some x→X.env.kindOf x=G.kd[i]?
 noD:∀ (i:Nat) (x:Str),G.N[i]? = some x→(x == ("__debug__" : Str))=false∧(x == ("__classdict__" : Str))=false
 gl:∀ n ∈ G.gl,∀ x,Z.name n=some x→Gl X x
 nam:∀ n x,Z.name n=some x→x≠"__name__"∧(x == ("__debug__" : Str))=false
 df:G.df=true→∀ x,X.fn x=true
 blt:∀ (n:Nat) (x:Str),bnames[n]? = some x→X.mg x=none
 cst:∀ n d x,(n,d) ∈ Z.kst→Z.name n=some x→∃ u v,X.mg x=some u∧RelV v u∧∀ S H,HRep X.K S H v d
 fns:∀ f ∈ Z.fns,(G.cm=true∨f ∈ Z.pl)→∀ x,Z.name f=some x→FnC X.prog X.w X.K X.mg X.base CX X.A cl xp f x
 xcv:∀ n ∈ Z.cls,∀ x,Z.name n=some x→∃ v,CV X x v
 xcl:∀ c n b x,(c,n,b) ∈ Z.xt→Z.name n=some x→∃ C,PySem.W.nsIn X.K mainGlobals c=some (some (.ref C))∧ExcAt X.K C∧∀ v,CV X x v→PySem.W.kitOne X.K (.ref C) (vv v)=some b
 xmt:∀ c n x,(c,n) ∈ Z.xm→Z.name n=some x→∃ C C',PySem.W.nsIn X.K mainGlobals c=some (some (.ref C))∧PySem.W.nsIn X.K mainGlobals x=some (some (.ref C'))∧nameIn X.K C=some c∧X.mg x=some (.ref C')∧PySem.W.exmOne X.K (.ref C) (.ref C')=some true
 xrs:∀ n c,(n,c) ∈ Z.rc→Z.name n=some c∧∃ C,X.mg c=some (.ref C)∧PySem.W.nsIn X.K mainGlobals c=some (some (.ref C))∧PySem.W.excIn X.K C bmV "ValueError.__new__" = true
 rse:G.rs=true→∀ (pins:List (Addr×Obj)) (σ:St) (H:Hp) (s:Shared) (c:Str) (C:Addr) (h':Heap) (e:Addr) (vs:List Value),Inv X pins σ H s→ex c→PySem.W.nsIn X.K mainGlobals c=some (some (.ref C))→Heap.MadeExcOf s.heap h' e (.ref C) vs→X.xe (.ref e) {s with heap:=h'}
 tr:G.tr=true→TrOk Z CX cl xp X
 exs:∃ E:XK,Passes CX X E∧∀ c H,ex c→xp E H c
 hid:∀ (outer:List Env) (H:Hp) (s:Shared) (E:XK) (e:Value) (s':Shared),HOk X.prog X.w H s.heap→(∀ b ∈ frs outer,H b=none)→CX outer (hidC s.heap H) s E e s'→CX outer H s E e s'
 exn:∀ (H:Hp) (outer:List Env) (s:Shared) (e:Value) (s':Shared),¬ CX outer H s (fun _ _ _=>False) e s'
end L2
namespace L2
open PySem PySem.Spec PyProof.Rows PySem.SeqAt
section
variable {P:Program} {w:World} {H H':Hp} {h:Heap} {K:PySem.W.Frag} {Fc F':Addr→Prop}
theorem hid_rep {vs:List V} {ds:List D} (x:HOk P w H h) (m:HReps K Fc H vs ds):HReps K (fun a=>Fc a∧hidC h H a≠none) (hidC h H) vs ds:=by
 refine(m.step (S':=Fc) (H':=hidC h H) (fun a xs f r=>⟨f,?_⟩) fun a xs r=>?_).tight
 ·rcases r with r | ⟨o,r⟩
  ·obtain⟨ob,he⟩:=(x a _ r).at
   refine .inr ⟨ob,?_⟩
   unfold hidC
   rw[r]
   show (h.get? a).map _=_
   rw[he]
   rfl
  ·refine .inr ⟨o,?_⟩
   unfold hidC
   rw[r]
   rfl
 ·cases xs with
  | inl xs=>
   rcases r with (r | ⟨o,r⟩) | r
   ·refine .inl (.inl ?_)
    unfold hidC
    rw[r]
   ·refine .inl (.inr ⟨o,?_⟩)
    unfold hidC
    rw[r]
    rfl
   ·exact .inr r
  | inr c=>
   obtain⟨C,o,vs,h0,h1,h2,h3⟩:=r
   refine⟨C,o,vs,h0,h1,?_,h3⟩
   unfold hidC
   rw[h2]
   rfl
theorem hid_free (x:HOk P w H h) (p:Pers h (hidC h H) H') {a:Addr} (n:hidC h H a=none) (e:H' a≠none):H a=none:=by
 cases q:H a with
 | none=>rfl
 | some o=>
  obtain⟨ob,he⟩:=(x a o q).at
  exact absurd (p.free a ob he n) e
theorem out_hid {v:V} {d:D} {fv:List Addr} (x:HOk P w H h) (fok:FOk Fc H) (p:Pers h (hidC h H) H') (o:Out K (fun a=>Fc a∧hidC h H a≠none) (hidC h H) F' H' v d fv):Out K Fc H (fun a=>Fc a∨F' a) (resC H H') v d fv:=by
 have new:∀ a ∈ fv,H a=none:=fun a ha=>hid_free x p (o.new a ha) (by obtain⟨_,xs,e⟩:=o.rep.own a ha;rw[e];simp)
 refine⟨fun a ha=>?_,res_same,o.rep.step (fun a xs f r=>⟨.inr f,?_⟩) (fun a xs r=>?_) fun a ha nf hn=>⟨fun z=>?_,res_none (new a ha)⟩,o.nod,new,fun a ha=>.inl ha,fun a ha=>?_⟩
 ·cases q:H a with
  | some u=>rw[res_some q];simp
  | none=>
   rw[res_none q]
   rcases ha with ha | ha
   ·exact absurd q (fok a ha)
   ·exact o.fok a ha
 ·cases q:H a with
  | none=>unfold Rd;rw[res_none q];exact r
  | some u=>
   unfold Rd
   rw[res_some q]
   cases bk_of x p q with
   | lst _ z=>
    rcases r with r | ⟨o',r⟩
    ·rw[z] at r;cases r
    ·rw[z] at r;cases r;exact .inl rfl
   | tup z=>rcases r with r | ⟨o',r⟩<;>(rw[z] at r;cases r)
   | frz _ z=>
    rcases r with r | ⟨o',r⟩
    ·rw[z] at r;cases r
    ·rw[z] at r;cases r;exact .inr ⟨_,rfl⟩
   | oth _ _ z _ _=>exact absurd z r.some
 ·cases xs with
  | inl xs=>
   rcases r with r | r
   ·refine .inl ?_
    cases q:H a with
    | none=>unfold Rd;rw[res_none q];exact r
    | some u=>
     unfold Rd
     rw[res_some q]
     cases bk_of x p q with
     | lst _ z=>rcases r with r | ⟨o',r⟩<;>(rw[z] at r;cases r)
     | tup z=>
      rcases r with r | ⟨o',r⟩
      ·rw[z] at r;cases r;exact .inl rfl
      ·rw[z] at r;cases r
     | frz _ z=>
      rcases r with r | ⟨o',r⟩
      ·rw[z] at r;cases r
      ·rw[z] at r;cases r;exact .inr ⟨_,rfl⟩
     | oth _ _ z _ _=>exact absurd z r.some
   ·exact .inr r
  | inr c=>
   obtain⟨C,ob,vs,h0,h1,h2,h3⟩:=r
   refine⟨C,ob,vs,h0,h1,?_,h3⟩
   cases q:H a with
   | none=>rw[res_none q];exact h2
   | some u=>
    rw[res_some q]
    cases bk_of x p q with
    | lst _ z=>rw[z] at h2;cases h2
    | tup z=>rw[z] at h2;cases h2
    | frz _ z=>rw[z] at h2;cases h2;rfl
    | oth _ _ z _ _=>rw[z] at h2;cases h2
 ·rcases z with z | z
  ·exact fok a z (new a ha)
  ·exact nf z
 ·rcases ha with ha | ha
  ·exact .inl ha
  ·rcases o.out a ha with z | z
   ·exact .inl z.1
   ·exact .inr (hid_free x p z (o.fok a ha))
end
section
variable {X:Cx} {CX:CXT} {cl:Nat→List D→Res D} {xp:XK→Hp→Str→Prop}
theorem Inv.env0h {pins:List (Addr×Obj)} {σ:St} {H:Hp} {s:Shared} (I:Inv X pins σ H s):Env0 X.prog X.w X.K X.mg X.base X.A X.stack s (hidC s.heap H):=
 ⟨I.env0.frames,I.env0.mod,fun b o e=>⟨(I.env0.bs b o e).1,hid_none (I.env0.bs b o e).2⟩,I.env0.bsz,I.env0.funs,fun b hb=>hid_none (I.env0.frf b hb),hid_ok I.hok,I.env0.bare⟩
theorem run_hid {k:Nat} {f:Nat} {fa:Addr} {fd:FuncData} {ps:List Str} {E:XK} {pins:List (Addr×Obj)} {σ:St} {H:Hp} {s:Shared} {Q:VK} {us:List Value} {vs:List V} {ds:List D} {Fc:Addr→Prop}
  (F:FnOk X.prog X.w X.K X.mg X.base CX k fa fd ps (spF X.K cl xp f ps)) (hr:Room k X.A) (hb:Binds X.K fd ps []) (hx:Passes CX X E)
  (hh:∀ (outer:List Env) (H:Hp) (s:Shared) (E:XK) (e:Value) (s':Shared),HOk X.prog X.w H s.heap→(∀ b ∈ frs outer,H b=none)→CX outer (hidC s.heap H) s E e s'→CX outer H s E e s')
  (I:Inv X pins σ H s) (r:Vals vs us) (hl:vs.length=ps.length) (fok:FOk Fc H) (m:HReps X.K Fc H vs ds)
  (q:PO' (xp E (hidC s.heap H)) (cl f (ers ds)) fun d=>∀ v H' F' fv,Out X.K Fc H F' H' v d fv→Q v H'):wpAny (model X.prog X.w) X.A (call (.ref fa) us) (EP X pins σ Q) X.xe s:=by
 have hsp:spF X.K cl xp f ps vs (hidC s.heap H) (fun v H'=>Pers s.heap (hidC s.heap H) H'→Q v (resC H H')) E:=
  ⟨hl,hid_lt _ _,_,ds,fun a h=>h.2,hid_rep I.hok m,q.mono fun d hd v H' F' fv o p=>hd v _ _ fv (out_hid I.hok fok p o)⟩
 have hl2:(us++([]:List Value)).length=ps.length:=by rw[List.append_nil,← r.length];exact hl
 have bd:=hb s us I.kIn hl2
 rw[List.append_nil] at bd
 refine wpAny_call (codeAny_mono (F.run X.A X.stack s (hidC s.heap H) ⟨us,[]⟩ us vs _ E hr I.env0h bd r hsp) fun r' s' hq=>?_)
 cases r' with
 | error e=>exact hx pins σ H s e s' I (hh X.stack H s E e s' I.hok I.env0.frf hq)
 | ok fl=>
  cases fl with
  | ret u=>
   obtain⟨v,H',a1,a2,a3,a4,a5,a6⟩:=hq
   exact I.after (Q:=Q) ⟨v,resC H H',a1,a2,res_un I.hok a3,res_ok I.hok a4 (un_pers a3) (fs:=frs X.stack) (fun b o e n f=>a3.keep b o e n f (by simp)) I.env0.frf,a5,a6 (un_pers a3)⟩
  | next=>exact False.elim hq
  | brk=>exact False.elim hq
  | cont=>exact False.elim hq
end
end L2
namespace L2
open PySem PySem.Spec PyProof.Rows PySem.SeqAt
noncomputable def Slots (K:PySem.W.Frag) (S:Addr→Prop) (H:Hp) (σ:St) (τ:Ev) (is:List Nat):Prop:=∀ i ∈ is,∀ d,slotD τ i=some d→∃ v,σ[i]? = some (some v)∧HRep K S H v d
theorem Slots.sub {K:PySem.W.Frag} {S:Addr→Prop} {H:Hp} {σ:St} {τ:Ev} {is js:List Nat} (h:Slots K S H σ τ is) (s:∀ i ∈ js,i ∈ is):Slots K S H σ τ js:=fun i hi d e=>h i (s i hi) d e
theorem Slots.left {K:PySem.W.Frag} {S:Addr→Prop} {H:Hp} {σ:St} {τ:Ev} {is js:List Nat} (h:Slots K S H σ τ (is++js)):Slots K S H σ τ is:=h.sub fun _ hi=>List.mem_append_left _ hi
theorem Slots.right {K:PySem.W.Frag} {S:Addr→Prop} {H:Hp} {σ:St} {τ:Ev} {is js:List Nat} (h:Slots K S H σ τ (is++js)):Slots K S H σ τ js:=h.sub fun _ hi=>List.mem_append_right _ hi
theorem Slots.go {K:PySem.W.Frag} {S:Addr→Prop} {H H':Hp} {σ:St} {τ:Ev} {is:List Nat} (h:Slots K S H σ τ is) (e:Same H H'):Slots K (nw S H) H' σ τ is:=fun i hi d z=>by
 obtain⟨v,h1,h2⟩:=h i hi d z
 exact⟨v,h1,h2.mono (fun _=>.inl) e⟩
noncomputable def RD (K:PySem.W.Frag) (ex:Str→Prop) (is:List Nat) (f:Ev→Res D):TE:=fun σ H Q=>∃ S τ,Slots K S H σ τ is∧PO' ex (f τ) (Kk K S H Q)
noncomputable def RT (K:PySem.W.Frag) (ex:Str→Prop) (is:List Nat) (f:Ev→Res Bool):TT:=fun σ H Q=>∃ S τ,Slots K S H σ τ is∧PO' ex (f τ) fun b=>∀ H',Same H H'→Q b H'
noncomputable def RA (K:PySem.W.Frag) (ex:Str→Prop) (is:List Nat) (f:Ev→Res (List D)):TA:=fun σ H Q=>∃ S τ,Slots K S H σ τ is∧PO' ex (f τ) fun ds=>∀ vs H',Same H H'→HReps K (nw S H) H' vs ds→Q vs H'
noncomputable def ROp (K:PySem.W.Frag) (ex:Str→Prop) (is:List Nat) (f:Ev→Res (Option Int)):TO:=fun σ H Q=>∃ S τ,Slots K S H σ τ is∧PO' ex (f τ) fun o=>∀ H',Same H H'→Q o H'
noncomputable def WS (K:PySem.W.Frag) (S:Addr→Prop) (H:Hp) (k:Zp.Kq) (a:Addr) (xs:List V):Prop:=match k with
 | .l=>(S a∧Rd H a (.lst xs))∨KL K a xs
 | .t=>SqT K H a xs
theorem WS.sq {K:PySem.W.Frag} {S:Addr→Prop} {H:Hp} {k:Zp.Kq} {a:Addr} {xs:List V} (h:WS K S H k a xs):SqK K H k a xs:=by
 cases k with
 | l=>exact h.elim (fun z=>.inl z.2) fun z=>z.sq
 | t=>exact h
inductive Wlk (K:PySem.W.Frag) (S:Addr→Prop) (H:Hp):It→List D→Prop where
 | lst {a:Addr} {xs:List V} {ds:List D}:S a→Rd H a (.lst xs)→HReps K S H xs ds→Wlk K S H (Itl K a) ds
 | lstK {a:Addr} {xs:List V} {ds:List D}:KL K a xs→HReps K S H xs ds→Wlk K S H (Itl K a) ds
 | tup {a:Addr} {xs:List V} {ds:List D}:SqT K H a xs→HReps K S H xs ds→Wlk K S H (Itt K a) ds
 | rng (lo hi:Int):Wlk K S H (Itr lo (hi - lo).toNat) (rngD lo hi)
 | str (x:Str):Wlk K S H (Its x) (charsD x)
 | zip {p q:Zp.Kq} {l m:Addr} {xs ys:List V} {ds es:List D}:WS K S H p l xs→WS K S H q m ys→HReps K S H xs ds→HReps K S H ys es→Wlk K S H (Itz K p q l m) (zipD ds es)
noncomputable def RI (K:PySem.W.Frag) (ex:Str→Prop) (is:List Nat) (f:Ev→Res (List D)):TI:=fun σ H R=>∃ S τ,Slots K S H σ τ is∧PO' ex (f τ) fun ds=>∀ J H',Same H H'→Wlk K (nw S H) H' J ds→R J H'
theorem nw_nw {S:Addr→Prop} {H H1:Hp} (e:Same H H1):∀ a,nw (nw S H) H1 a→nw S H a:=fun a h=>by
 rcases h with h | h
 ·exact h
 ·exact .inr (e.free h)
section
variable {Z:Sg} {CX:CXT} {cl:Nat→List D→Res D} {xp:XK→Hp→Str→Prop} {X:Cx} {ex:Str→Prop} {G:Gm}
theorem Kk.fit {K:PySem.W.Frag} {S:Addr→Prop} {H H1:Hp} {Q:VK} {d:D} (e:Same H H1) (h:Kk K S H Q d):Kk K (nw S H) H1 Q d:=fun w H' e' m=>h w H' (e.trans e') (m.mono (nw_nw e) (.refl _))
theorem gl_of (g:GOk Z CX cl xp X ex G) {n:Nat} {x:Str} (h:chkG Z G n x=true):Gl X x∧Z.name n=some x∧x≠"__name__"∧(x == ("__debug__" : Str))=false:=by
 unfold chkG at h
 rw[Bool.and_eq_true] at h
 have e:Z.name n=some x:=eq_of_beq h.1
 exact⟨g.gl n (by simpa using h.2) x e,e,g.nam n x e⟩
theorem bname (Z:Sg) {n:Nat} {x:Str} (h:bnames[n]? = some x):Z.name n=some x:=by
 unfold Sg.name
 rw[List.getElem?_append_left (List.getElem?_eq_some_iff.mp h).1]
 exact h
theorem gb_of (g:GOk Z CX cl xp X ex G) {n:Nat} {x:Str} (h:bnames[n]? = some x) (hc:G.gl.contains n=true):Gl X x∧X.mg x=none∧x≠"__name__"∧(x == ("__debug__" : Str))=false:=
 ⟨g.gl n (by simpa using hc) x (bname Z h),g.blt n x h,g.nam n x (bname Z h)⟩
theorem star_cons {e:Expr} (h:notStar e=true) (es:List Expr) (env:Env):starEach (e::es) env=(false,eval e env)::starEach es env:=by
 cases e<;>first | rfl | cases h
theorem star_none (Z:Sg) (G:Gm):∀ {es:List IR} {l:List Expr} (p:Pos) (env:Env),chks Z G es l=true→(backTo p (starEach l env)).any (·.1)=false
 | [],[],_,_,_=>rfl
 | a::es,e::l,p,env,h=>by
  have h':(notStar e && chk Z G a e && chks Z G es l)=true:=h
  simp only[Bool.and_eq_true] at h'
  rw[star_cons h'.1.1]
  have ih:=star_none Z G (es:=es) (l:=l) p env h'.2
  show (false || (backTo p (starEach l env)).any (·.1))=false
  rw[ih]
  rfl
 | [],_::_,_,_,h=>by cases h
 | _::_,[],_,_,h=>by cases h
theorem rd_c {d:D} {v:V} (h:∀ S H,HRep X.K S H v d) {σ:St} {H:Hp} {Q:VK} {is:List Nat} (q:RD X.K ex is (fun _=>.ok d) σ H Q):Q v H:=by
 obtain⟨S,τ,_,q⟩:=q
 exact q.ok _ _ (.refl _) (h _ _)
theorem pt_of {e:Expr} {is:List Nat} {f:Ev→Res D} (h:PE X e (RD X.K ex is f)) (he:∀ whole,isTrue e X.env whole=(do let v ← whole;standAt e.pos;holding [v] (truthy v))):PT X e (RT X.K ex is fun τ=>bnd (f τ) truD):=by
 intro pins s σ H Q I hw
 obtain⟨S,τ,hs,hw⟩:=hw
 refine isTrue_plain (thn (h pins s σ H (fun v H'=>∃ d,Same H H'∧HRep X.K (nw S H) H' v d∧PO' ex (truD d) fun b=>∀ H',Same H H'→Q b H') I ⟨S,τ,hs,(PO'.bnd hw).mono fun d hd v H' e m=>⟨d,e,m,hd⟩⟩) fun v s1 ⟨x,H1,I1,r1,d,e,m,hd⟩=>?_) (he _)
 exact truD_ok I1 r1 m (hd.mono fun b z=>z H1 e)
end
end L2
namespace L2
open PySem PySem.Spec PyProof.Rows PySem.SeqAt
section
variable {Z:Sg} {CX:CXT} {cl:Nat→List D→Res D} {xp:XK→Hp→Str→Prop} {X:Cx} {ex:Str→Prop} {G:Gm} {K:PySem.W.Frag} {S:Addr→Prop} {H H1:Hp} {σ:St} {τ:Ev}
theorem rdAt {is:List Nat} {f:Ev→Res D} {Kt:D→Prop} {Q:VK} (e:Same H H1) (hs:Slots K S H σ τ is) (h:PO' ex (f τ) Kt) (k:∀ x v H2,Same H H2→Same H1 H2→HRep K (nw S H) H2 v x→Kt x→Q v H2):RD K ex is f σ H1 Q:=
 ⟨nw S H,τ,hs.go e,h.mono fun x hx v H2 e2 m=>k x v H2 (e.trans e2) e2 (m.mono (nw_nw e) (.refl _)) hx⟩
theorem rtAt {is:List Nat} {f:Ev→Res Bool} {Kt:Bool→Prop} {Q:Bool→Hp→Prop} (e:Same H H1) (hs:Slots K S H σ τ is) (h:PO' ex (f τ) Kt) (k:∀ x H2,Same H H2→Same H1 H2→Kt x→Q x H2):RT K ex is f σ H1 Q:=
 ⟨nw S H,τ,hs.go e,h.mono fun x hx H2 e2=>k x H2 (e.trans e2) e2 hx⟩
theorem raAt {is:List Nat} {f:Ev→Res (List D)} {Kt:List D→Prop} {Q:List V→Hp→Prop} (e:Same H H1) (hs:Slots K S H σ τ is) (h:PO' ex (f τ) Kt) (k:∀ x v H2,Same H H2→Same H1 H2→HReps K (nw S H) H2 v x→Kt x→Q v H2):RA K ex is f σ H1 Q:=
 ⟨nw S H,τ,hs.go e,h.mono fun x hx v H2 e2 m=>k x v H2 (e.trans e2) e2 (m.mono (nw_nw e) (.refl _)) hx⟩
theorem roAt {is:List Nat} {f:Ev→Res (Option Int)} {Kt:Option Int→Prop} {Q:Option Int→Hp→Prop} (e:Same H H1) (hs:Slots K S H σ τ is) (h:PO' ex (f τ) Kt) (k:∀ x H2,Same H H2→Same H1 H2→Kt x→Q x H2):ROp K ex is f σ H1 Q:=
 ⟨nw S H,τ,hs.go e,h.mono fun x hx H2 e2=>k x H2 (e.trans e2) e2 hx⟩
theorem HRep.later {v:V} {d:D} {H2:Hp} (h:HRep K (L2.nw S H) H1 v d) (e:Same H1 H2):HRep K (L2.nw S H) H2 v d:=h.mono (fun _ z=>z) e
theorem HReps.later {v:List V} {d:List D} {H2:Hp} (h:HReps K (L2.nw S H) H1 v d) (e:Same H1 H2):HReps K (L2.nw S H) H2 v d:=h.mono (fun _ z=>z) e
theorem s_v (g:GOk Z CX cl xp X ex G) {i:Nat} {x:Str} {pos:Pos} (h:chkV G i x=true):PE X (.Name x pos) (RD X.K ex [i] (evR cl (.v i))):=by
 unfold chkV at h
 rw[Bool.and_eq_true] at h
 have hx:G.N[i]? = some x:=eq_of_beq h.1
 have hk:=g.kd i x hx
 have hv:Vis X.env.scope x:=by
  have h2:=h.2
  rw[Bool.or_eq_true,Bool.or_eq_true] at h2
  rcases h2 with (h2 | h2) | h2
  ·exact .inl (hk.trans (eq_of_beq h2))
  ·exact .inr (.inl (hk.trans (eq_of_beq h2)))
  ·exact .inr (.inr (hk.trans (eq_of_beq h2)))
 refine peMono (pe_var (i:=i) (by rw[g.N];exact hx) hv (g.noD i x hx).1 (g.noD i x hx).2) fun σ H Q q=>?_
 obtain⟨S,τ,hs,q⟩:=q
 rw[evR_v] at q
 cases z:slotD τ i with
 | none=>rw[z] at q;exact q.no.elim
 | some d=>
  rw[z] at q
  obtain⟨v,h1,h2⟩:=hs i (by simp) d z
  exact⟨v,h1,q.ok _ _ (.refl _) h2.nw⟩
theorem s_c {d:D} {k:Const} {j:Nat} {pos:Pos} (h:chkC d k=true):PE X (.Constant k j pos) (RD X.K ex [] (evR cl (.c d))):=by
 cases d with
 | non=>
  cases k with
  | none=>exact peMono pe_non fun σ H Q q=>rd_c (fun _ _=>.non) q
  | _=>cases h
 | bl b=>
  cases k with
  | bool b'=>
   have e:b=b':=eq_of_beq h
   subst e
   exact peMono pe_bl fun σ H Q q=>rd_c (fun _ _=>.bl _) q
  | _=>cases h
 | int b=>
  cases k with
  | int b'=>
   have e:b=b':=eq_of_beq h
   subst e
   exact peMono pe_int fun σ H Q q=>rd_c (fun _ _=>.int _) q
  | _=>cases h
 | str b=>
  cases k with
  | str b'=>
   have e:b=b':=eq_of_beq h
   subst e
   exact peMono pe_str fun σ H Q q=>rd_c (fun _ _=>.str _) q
  | _=>cases h
 | tup _=>cases k<;>cases h
 | lst _ _=>cases k<;>cases h
 | exc _=>cases k<;>cases h
theorem s_g (g:GOk Z CX cl xp X ex G) {n:Nat} {d:D} {x:Str} {pos:Pos} (h:chkG Z G n x=true) (hk:Z.kst.any (fun p=>p.1 == n && dbeq p.2 d)=true):PE X (.Name x pos) (RD X.K ex [] (evR cl (.g n d))):=by
 obtain⟨h1,h2,h3,h4⟩:=gl_of g h
 rw[List.any_eq_true] at hk
 obtain⟨⟨m,d'⟩,hm,hk⟩:=hk
 rw[Bool.and_eq_true] at hk
 have e1:m=n:=eq_of_beq hk.1
 have e2:d'=d:=dbeq_eq hk.2
 subst e1 e2
 obtain⟨u,v,hu,r,hr⟩:=g.cst m d' x hm h2
 exact peMono (pe_glob h1 hu r h4) fun σ H Q q=>rd_c hr q
theorem s_bin {op:BOp} {a b:Expr} {pos:Pos} {va vb:List Nat} {fa fb:Ev→Res D} (ha:PE X a (RD X.K ex va fa)) (hb:PE X b (RD X.K ex vb fb)) :
  PE X (.BinOp a (bop op) b pos) (RD X.K ex (va++vb) fun τ=>bnd (fa τ) fun x=>bnd (fb τ) fun y=>opB op x y):=by
 refine peMono (pe_op (opB_ok (ex:=ex) op) ha hb) fun σ H Q ⟨S,τ,hs,q⟩=>?_
 refine rdAt (.refl _) hs.left (PO'.bnd q) fun x v H1 e1 _ m1 q1=>?_
 refine rdAt e1 hs.right (PO'.bnd q1) fun y w H2 e2 e2' m2 q2=>?_
 exact⟨nw S H,x,y,m1.later e2',m2,q2.mono fun d hd=>hd.fit e2⟩
theorem s_neg {a:Expr} {pos:Pos} {va:List Nat} {fa:Ev→Res D} (ha:PE X a (RD X.K ex va fa)) :
  PE X (.UnaryOp .USub a pos) (RD X.K ex va fun τ=>bnd (fa τ) fun | .int i=>.ok (.int (-i)) | _=>stk):=by
 refine peMono (pe_un un_neg ha) fun σ H Q ⟨S,τ,hs,q⟩=>?_
 refine rdAt (.refl _) hs (PO'.bnd q) fun x v H1 e1 _ m1 q1=>?_
 cases x with
 | int i=>cases m1.intR;exact⟨i,rfl,q1.ok _ _ e1 (.int _)⟩
 | _=>exact q1.no.elim
theorem s_cmp (g:GOk Z CX cl xp X ex G) {op:COp} {a b:Expr} {pos:Pos} {va vb:List Nat} {fa fb:Ev→Res D} (ha:PE X a (RD X.K ex va fa)) (hb:PE X b (RD X.K ex vb fb)) (hm:behindInMarks (cop op) b=false) :
  PE X (.Compare a [cop op] [b] pos) (RD X.K ex (va++vb) fun τ=>bnd (fa τ) fun x=>bnd (fb τ) fun y=>bnd (opC op x y) fun r=>.ok (.bl r))∧
  PT X (.Compare a [cop op] [b] pos) (RT X.K ex (va++vb) fun τ=>bnd (bnd (fa τ) fun x=>bnd (fb τ) fun y=>bnd (opC op x y) fun r=>.ok (.bl r)) truD):=by
 refine⟨peMono (pe_cmpR (opC_ok (ex:=ex) g.un op) ha hb hm) fun σ H Q ⟨S,τ,hs,q⟩=>?_,ptMono (pt_cmpR (opC_ok (ex:=ex) g.un op) ha hb hm) fun σ H Q ⟨S,τ,hs,q⟩=>?_⟩
 ·refine rdAt (.refl _) hs.left (PO'.bnd q) fun x v H1 e1 _ m1 q1=>?_
  refine rdAt e1 hs.right (PO'.bnd q1) fun y w H2 e2 e2' m2 q2=>?_
  exact⟨nw S H,x,y,m1.later e2',m2,(PO'.bnd q2).mono fun d hd=>hd.ok _ _ e2 (.bl _)⟩
 ·refine rdAt (.refl _) hs.left (PO'.bnd (PO'.bnd q)) fun x v H1 e1 _ m1 q1=>?_
  refine rdAt e1 hs.right (PO'.bnd q1) fun y w H2 e2 e2' m2 q2=>?_
  exact⟨nw S H,x,y,m1.later e2',m2,(PO'.bnd q2).mono fun d hd=>⟨d,rfl,hd.ok.ok H2 e2⟩⟩
theorem s_chain (g:GOk Z CX cl xp X ex G) {op op':COp} {a b c:Expr} {pos:Pos} {va vb vc:List Nat} {fa fb fc:Ev→Res D} (ha:PE X a (RD X.K ex va fa)) (hb:PE X b (RD X.K ex vb fb)) (hc:PE X c (RD X.K ex vc fc))
  (hm:lastMarks [cop op,cop op'] [b,c]=false) :
  PE X (.Compare a [cop op,cop op'] [b,c] pos) (RD X.K ex (va++vb++vc) fun τ=>bnd (fa τ) fun x=>bnd (fb τ) fun y=>bnd (opC op x y) fun r=>if r=true then bnd (fc τ) fun z=>bnd (opC op' y z) fun r'=>.ok (.bl r') else .ok (.bl false))∧
  PT X (.Compare a [cop op,cop op'] [b,c] pos) (RT X.K ex (va++vb++vc) fun τ=>bnd (bnd (fa τ) fun x=>bnd (fb τ) fun y=>bnd (opC op x y) fun r=>if r=true then bnd (fc τ) fun z=>bnd (opC op' y z) fun r'=>.ok (.bl r') else .ok (.bl false)) truD):=by
 refine⟨peMono (pe_chain (opC_ok (ex:=ex) g.un op) (opC_ok (ex:=ex) g.un op') ha hb hc hm) fun σ H Q ⟨S,τ,hs,q⟩=>?_,ptMono (pt_chain (opC_ok (ex:=ex) g.un op) (opC_ok (ex:=ex) g.un op') ha hb hc hm) fun σ H Q ⟨S,τ,hs,q⟩=>?_⟩
 ·refine rdAt (.refl _) hs.left.left (PO'.bnd q) fun x v H1 e1 _ m1 q1=>?_
  refine rdAt e1 hs.left.right (PO'.bnd q1) fun y w H2 e2 e2' m2 q2=>?_
  refine⟨nw S H,x,y,m1.later e2',m2,(PO'.bnd q2).mono fun d hd=>⟨d,rfl,?_⟩⟩
  cases d with
  | false=>rw[if_neg Bool.false_ne_true] at hd ⊢;exact hd.ok _ _ e2 (.bl _)
  | true=>
   rw[if_pos rfl] at hd ⊢
   refine rdAt e2 hs.right (PO'.bnd hd) fun z w' H3 e3 e3' m3 q3=>?_
   exact⟨nw S H,y,z,m2.later e3',m3,(PO'.bnd q3).mono fun d hd=>hd.ok _ _ e3 (.bl _)⟩
 ·refine rdAt (.refl _) hs.left.left (PO'.bnd (PO'.bnd q)) fun x v H1 e1 _ m1 q1=>?_
  refine rdAt e1 hs.left.right (PO'.bnd q1) fun y w H2 e2 e2' m2 q2=>?_
  refine⟨nw S H,x,y,m1.later e2',m2,(PO'.bnd q2).mono fun d hd=>⟨d,rfl,?_⟩⟩
  cases d with
  | false=>rw[if_neg Bool.false_ne_true] at hd ⊢;exact⟨false,rfl,hd.ok.ok _ e2⟩
  | true=>
   rw[if_pos rfl] at hd ⊢
   refine rdAt e2 hs.right (PO'.bnd hd) fun z w' H3 e3 e3' m3 q3=>?_
   exact⟨nw S H,y,z,m2.later e3',m3,(PO'.bnd q3).mono fun d hd=>⟨d,rfl,hd.ok.ok _ e3⟩⟩
theorem s_and {a b:Expr} {rest:List Expr} {pos:Pos} {va vb:List Nat} {fa fb:Ev→Res D} (ha:PE X a (RD X.K ex va fa)) (hb:PE X (.BoolOp .And (b::rest) pos) (RD X.K ex vb fb)) :
  PE X (.BoolOp .And (a::b::rest) pos) (RD X.K ex (va++vb) fun τ=>bnd (fa τ) fun x=>bnd (truD x) fun r=>if r=true then fb τ else .ok x):=by
 intro pins s σ H Q I h
 obtain⟨S,τ,hs,q⟩:=h
 refine BoolOp_and (thn (ha pins s σ H (fun v H'=>∃ d,Same H H'∧HRep X.K (nw S H) H' v d∧_) I (rdAt (.refl _) hs.left (PO'.bnd q) fun x v H1 e1 _ m1 q1=>⟨x,e1,m1,q1⟩)) fun v s1 ⟨x,H1,I1,r1,d,e1,m1,q1⟩=>?_)
 refine thn (truD_ok (Q:=fun b H'=>H'=H1∧PO' ex (if b=true then fb τ else .ok d) (Kk X.K S H Q)) I1 r1 m1 ((PO'.bnd q1).mono fun b z=>⟨rfl,z⟩)) fun c s2 ⟨H2,I2,e2,q2⟩=>?_
 subst e2
 cases c with
 | true=>
  rw[if_pos rfl] at q2 ⊢
  exact hb pins s2 σ _ Q I2 (rdAt e1 hs.right q2 fun y w H3 e3 _ m3 q3=>q3 _ _ e3 m3)
 | false=>
  rw[if_neg Bool.false_ne_true] at q2 ⊢
  exact⟨x,_,I2,r1,q2.ok _ _ e1 m1⟩
theorem s_or {a b:Expr} {rest:List Expr} {pos:Pos} {va vb:List Nat} {fa fb:Ev→Res D} (ha:PE X a (RD X.K ex va fa)) (hb:PE X (.BoolOp .Or (b::rest) pos) (RD X.K ex vb fb)) :
  PE X (.BoolOp .Or (a::b::rest) pos) (RD X.K ex (va++vb) fun τ=>bnd (fa τ) fun x=>bnd (truD x) fun r=>if r=true then .ok x else fb τ):=by
 intro pins s σ H Q I h
 obtain⟨S,τ,hs,q⟩:=h
 refine BoolOp_or (thn (ha pins s σ H (fun v H'=>∃ d,Same H H'∧HRep X.K (nw S H) H' v d∧_) I (rdAt (.refl _) hs.left (PO'.bnd q) fun x v H1 e1 _ m1 q1=>⟨x,e1,m1,q1⟩)) fun v s1 ⟨x,H1,I1,r1,d,e1,m1,q1⟩=>?_)
 refine thn (truD_ok (Q:=fun b H'=>H'=H1∧PO' ex (if b=true then .ok d else fb τ) (Kk X.K S H Q)) I1 r1 m1 ((PO'.bnd q1).mono fun b z=>⟨rfl,z⟩)) fun c s2 ⟨H2,I2,e2,q2⟩=>?_
 subst e2
 cases c with
 | false=>
  rw[if_neg Bool.false_ne_true] at q2 ⊢
  exact hb pins s2 σ _ Q I2 (rdAt e1 hs.right q2 fun y w H3 e3 _ m3 q3=>q3 _ _ e3 m3)
 | true=>
  rw[if_pos rfl] at q2 ⊢
  exact⟨x,_,I2,r1,q2.ok _ _ e1 m1⟩
theorem s_not {a:Expr} {pos:Pos} {va:List Nat} {fa:Ev→Res D} (ha:PE X a (RD X.K ex va fa)) (ht:PT X a (RT X.K ex va fun τ=>bnd (fa τ) truD)) :
  PE X (.UnaryOp .Not a pos) (RD X.K ex va fun τ=>bnd (fa τ) fun x=>bnd (truD x) fun r=>.ok (.bl !r))∧PT X (.UnaryOp .Not a pos) (RT X.K ex va fun τ=>bnd (bnd (fa τ) fun x=>bnd (truD x) fun r=>.ok (.bl !r)) truD):=by
 constructor
 ·intro pins s σ H Q I h
  obtain⟨S,τ,hs,q⟩:=h
  refine UnaryOp_ (thn (ha pins s σ H (fun v H'=>∃ d,Same H H'∧HRep X.K (nw S H) H' v d∧_) I (rdAt (.refl _) hs (PO'.bnd q) fun x v H1 e1 _ m1 q1=>⟨x,e1,m1,q1⟩)) fun v s1 ⟨x,H1,I1,r1,d,e1,m1,q1⟩=>?_)
  refine not_of (thn (truD_ok (Q:=fun b H'=>Q (.bl !b) H') I1 r1 m1 ((PO'.bnd q1).mono fun b z=>z.ok _ _ e1 (.bl _))) fun c s2 ⟨H2,I2,q2⟩=>⟨.bl !c,H2,I2,rfl,q2⟩)
 ·refine ptMono (pt_not ht) fun σ H Q ⟨S,τ,hs,q⟩=>?_
  exact rtAt (.refl _) hs (PO'.mk ((PO'.bnd (PO'.bnd q)).mono fun x hx=>(PO'.bnd hx).mono fun r hr=>hr.ok.ok)) fun x H2 e2 _ k=>k H2 e2
theorem pt_any {e:Expr} {pos:Pos} {op:BoolOp} {es:List Expr} {t:TT} (h:PT X (.BoolOp op es pos) t):PW X (.BoolOp op es pos) t:=fun _ pins s σ H Q I q=>h pins s σ H Q I q
theorem t_and {a b:Expr} {rest:List Expr} {pos:Pos} {va vb:List Nat} {fa fb:Ev→Res D} (ha:PT X a (RT X.K ex va fun τ=>bnd (fa τ) truD)) (hb:PW X (.BoolOp .And (b::rest) pos) (RT X.K ex vb fun τ=>bnd (fb τ) truD)) :
  PT X (.BoolOp .And (a::b::rest) pos) (RT X.K ex (va++vb) fun τ=>bnd (bnd (fa τ) fun x=>bnd (truD x) fun r=>if r=true then fb τ else .ok x) truD):=by
 refine ptMono (pw_and ha hb).pt fun σ H Q ⟨S,τ,hs,q⟩=>?_
 refine rtAt (.refl _) hs.left (Kt:=fun r=>PO' ex (if r=true then bnd (fb τ) truD else .ok false) fun b=>∀ H',Same H H'→Q b H') (PO'.mk ((PO'.bnd (PO'.bnd q)).mono fun x hx=>(PO'.bnd hx).eq.mono fun r hr=>?_)) fun r H2 e2 _ k=>?_
 ·obtain⟨er,hr⟩:=hr
  cases r with
  | true=>rw[if_pos rfl] at hr ⊢;exact PO'.mk hr
  | false=>
   rw[if_neg Bool.false_ne_true] at hr ⊢
   have hr':PO' ex (truD x) _:=hr
   rw[er] at hr'
   exact hr'
 ·cases r with
  | true=>rw[if_pos rfl] at k ⊢;exact rtAt e2 hs.right k fun b H3 e3 _ z=>z H3 e3
  | false=>rw[if_neg Bool.false_ne_true] at k ⊢;exact k.ok H2 e2
theorem t_or {a b:Expr} {rest:List Expr} {pos:Pos} {va vb:List Nat} {fa fb:Ev→Res D} (ha:PT X a (RT X.K ex va fun τ=>bnd (fa τ) truD)) (hb:PW X (.BoolOp .Or (b::rest) pos) (RT X.K ex vb fun τ=>bnd (fb τ) truD)) :
  PT X (.BoolOp .Or (a::b::rest) pos) (RT X.K ex (va++vb) fun τ=>bnd (bnd (fa τ) fun x=>bnd (truD x) fun r=>if r=true then .ok x else fb τ) truD):=by
 refine ptMono (pw_or ha hb).pt fun σ H Q ⟨S,τ,hs,q⟩=>?_
 refine rtAt (.refl _) hs.left (Kt:=fun r=>PO' ex (if r=true then .ok true else bnd (fb τ) truD) fun b=>∀ H',Same H H'→Q b H') (PO'.mk ((PO'.bnd (PO'.bnd q)).mono fun x hx=>(PO'.bnd hx).eq.mono fun r hr=>?_)) fun r H2 e2 _ k=>?_
 ·obtain⟨er,hr⟩:=hr
  cases r with
  | false=>rw[if_neg Bool.false_ne_true] at hr ⊢;exact PO'.mk hr
  | true=>
   rw[if_pos rfl] at hr ⊢
   have hr':PO' ex (truD x) _:=hr
   rw[er] at hr'
   exact hr'
 ·cases r with
  | false=>rw[if_neg Bool.false_ne_true] at k ⊢;exact rtAt e2 hs.right k fun b H3 e3 _ z=>z H3 e3
  | true=>rw[if_pos rfl] at k ⊢;exact k.ok H2 e2
theorem s_ite {c a b:Expr} {pos:Pos} {vc va vb:List Nat} {fc fa fb:Ev→Res D} (hc:PT X c (RT X.K ex vc fun τ=>bnd (fc τ) truD)) (ha:PE X a (RD X.K ex va fa)) (hb:PE X b (RD X.K ex vb fb))
  (ta:PT X a (RT X.K ex va fun τ=>bnd (fa τ) truD)) (tb:PT X b (RT X.K ex vb fun τ=>bnd (fb τ) truD)) :
  PE X (.IfExp c a b pos) (RD X.K ex (vc++va++vb) fun τ=>bnd (fc τ) fun x=>bnd (truD x) fun r=>if r=true then fa τ else fb τ)∧
  PT X (.IfExp c a b pos) (RT X.K ex (vc++va++vb) fun τ=>bnd (bnd (fc τ) fun x=>bnd (truD x) fun r=>if r=true then fa τ else fb τ) truD):=by
 constructor
 ·refine peMono (pe_ifExp hc ha hb) fun σ H Q ⟨S,τ,hs,q⟩=>?_
  refine rtAt (.refl _) hs.left.left (PO'.mk ((PO'.bnd q).mono fun x hx=>PO'.bnd hx)) fun r H2 e2 _ k=>?_
  cases r with
  | true=>rw[if_pos rfl] at k ⊢;exact rdAt e2 hs.left.right k fun y w H3 e3 _ m3 q3=>q3 _ _ e3 m3
  | false=>rw[if_neg Bool.false_ne_true] at k ⊢;exact rdAt e2 hs.right k fun y w H3 e3 _ m3 q3=>q3 _ _ e3 m3
 ·intro pins s σ H Q I h
  obtain⟨S,τ,hs,q⟩:=h
  refine isTrue_IfExp (thn (hc pins s σ H (fun r H2=>Same H H2∧PO' ex (if r=true then fa τ else fb τ) fun d=>PO' ex (truD d) fun b=>∀ H',Same H H'→Q b H') I
   (rtAt (.refl _) hs.left.left (PO'.mk ((PO'.bnd (PO'.bnd q)).mono fun x hx=>PO'.bnd hx)) fun r H2 e2 _ k=>⟨e2,k⟩)) fun d s1 ⟨H1,I1,e1,q1⟩=>?_)
  cases d with
  | true=>rw[if_pos rfl] at q1;exact ta pins s1 σ H1 Q I1 (rtAt e1 hs.left.right (PO'.mk q1) fun b H3 e3 _ z=>z H3 e3)
  | false=>rw[if_neg Bool.false_ne_true] at q1;exact tb pins s1 σ H1 Q I1 (rtAt e1 hs.right (PO'.mk q1) fun b H3 e3 _ z=>z H3 e3)
theorem s_tup {es:List Expr} {n:Nat} {pos:Pos} {va:List Nat} {fa:Ev→Res (List D)} (h:PA X es (RA X.K ex va fa)):PE X (.Tuple es n pos) (RD X.K ex va fun τ=>bnd (fa τ) fun ds=>grd (szOk ds.length) (.ok (.tup ds))):=by
 refine peMono (pe_tup h) fun σ H Q ⟨S,τ,hs,q⟩=>?_
 refine raAt (.refl _) hs (PO'.bnd q) fun ds vs H1 e1 _ m1 q1=>?_
 obtain⟨g,q1⟩:=PO'.grd q1
 exact⟨by rw[m1.length];exact szOk_le g,fun p hp=>q1.ok _ _ (e1.trans (.upd hp)) ((newT hp m1).mono (nw_nw e1) (.refl _))⟩
theorem s_lst {es:List Expr} {pos:Pos} {va:List Nat} {fa:Ev→Res (List D)} (h:PA X es (RA X.K ex va fa)):PE X (.List es pos) (RD X.K ex va fun τ=>bnd (fa τ) fun ds=>grd (szOk ds.length) (.ok (.lst true ds))):=by
 refine peMono (pe_lst h) fun σ H Q ⟨S,τ,hs,q⟩=>?_
 refine raAt (.refl _) hs (PO'.bnd q) fun ds vs H1 e1 _ m1 q1=>?_
 obtain⟨g,q1⟩:=PO'.grd q1
 exact⟨by rw[m1.length];exact szOk_le g,fun p hp=>q1.ok _ _ (e1.trans (.upd hp)) ((newL hp m1).mono (nw_nw e1) (.refl _))⟩
theorem s_idx {a b:Expr} {pos:Pos} {va vb:List Nat} {fa fb:Ev→Res D} (ha:PE X a (RD X.K ex va fa)) (hb:PE X b (RD X.K ex vb fb)) (hp:notSlice b=true) :
  PE X (.Subscript a b pos) (RD X.K ex (va++vb) fun τ=>bnd (fa τ) fun x=>bnd (fb τ) fun y=>opIx x y):=by
 refine peMono (pe_ix (opIx_ok (ex:=ex)) ha hb fun o i=>by cases b<;>first | rfl | cases hp) fun σ H Q ⟨S,τ,hs,q⟩=>?_
 refine rdAt (.refl _) hs.left (PO'.bnd q) fun x v H1 e1 _ m1 q1=>?_
 refine rdAt e1 hs.right (PO'.bnd q1) fun y w H2 e2 e2' m2 q2=>?_
 exact⟨nw S H,x,y,m1.later e2',m2,q2.mono fun d hd=>hd.fit e2⟩
theorem s_sl {a:Expr} {lo hi:Option Expr} {pos p2:Pos} {va vl vh:List Nat} {fa:Ev→Res D} {fl fh:Ev→Res (Option Int)} (ha:PE X a (RD X.K ex va fa)) (hl:PO X lo (ROp X.K ex vl fl)) (hh:PO X hi (ROp X.K ex vh fh)) :
  PE X (.Subscript a (.Slice lo hi none p2) pos) (RD X.K ex (va++vl++vh) fun τ=>bnd (fa τ) fun x=>bnd (fl τ) fun l=>bnd (fh τ) fun h=>opSl x l h):=by
 refine peMono (pe_slice (opSl_ok (ex:=ex)) ha hl hh) fun σ H Q ⟨S,τ,hs,q⟩=>?_
 refine rdAt (.refl _) hs.left.left (PO'.bnd q) fun x v H1 e1 _ m1 q1=>?_
 refine roAt e1 hs.left.right (PO'.bnd q1) fun l H2 e2 e2' q2=>?_
 refine roAt e2 hs.right (PO'.bnd q2) fun h H3 e3 e3' q3=>?_
 exact⟨nw S H,x,m1.later (e2'.trans e3'),q3.mono fun d hd=>hd.fit e3⟩
theorem s_call (g:GOk Z CX cl xp X ex G) {f:Nat} {x:Str} {p pos:Pos} {es:List IR} {args:List Expr} (h1:chkG Z G f x=true) (h2:Z.fnc G f=true) (hst:chks Z G es args=true) (h:PA X args (RA X.K ex (varss es) (evRs cl es))) :
  PE X (.Call (.Name x p) args [] pos) (RD X.K ex (varss es) fun τ=>bnd (evRs cl es τ) fun ds=>cl f (ers ds)):=by
 obtain⟨k1,k2,k3,k4⟩:=gl_of g h1
 obtain⟨k,fa',fd,ps,hm,hkp,hb,F,hr,hlen⟩:=(g.fns f (fnc_fn h2).1 (fnc_fn h2).2 x k2).ex
 obtain⟨E,hP,hE⟩:=g.exs
 intro pins s σ H Q I q
 obtain⟨S,τ,hs,q⟩:=q
 have fin:∀ (us:List Value) (s1:Shared) (vs:List V) (H1:Hp) (ds:List D),Inv X pins σ H1 s1→Vals vs us→Same H H1→HReps X.K (nw S H) H1 vs ds→PO' ex (cl f (ers ds)) (Kk X.K S H Q)→wpAny (model X.prog X.w) X.A (call (.ref fa') us) (EP X pins σ Q) X.xe s1:=by
  intro us s1 vs H1 ds I1 r e m q1
  have hl:=hlen ex _ _ q1
  rw[ers_length] at hl
  refine run_hid F hr hb hP g.hid I1 r (by rw[m.length];exact hl) (Fc:=fun a=>nw S H a∧H1 a≠none) (fun a z=>z.2) m.tight ?_
  cases z:cl f (ers ds) with
  | error er=>
   rw[z] at q1
   cases er with
   | stuck=>exact q1.no.elim
   | exc c=>exact hE c _ q1
  | ok d=>
   rw[z] at q1
   intro v H' F' fv o
   refine q1.ok _ _ (e.trans o.same) (o.rep.read (fun a ha=>?_) fun a ha=>?_)
   ·rcases o.out a ha with z | z
    ·exact z.1
    ·exact .inr (e.free z)
   ·exact .inr (e.free (o.new a ha))
 refine wpAny_Call_Name_kw (ld_glob I k1 hm ?_ k4)
 cases args with
 | nil=>
  cases es with
  | cons _ _=>cases hst
  | nil=>
   exact PySem.W.callWith_K0 I.kIn hkp (fin [] s [] H [] I .nil (.refl _) .nil q)
 | cons e l=>
  cases es with
  | nil=>cases hst
  | cons a es=>
   have hst':(notStar e && chk Z G a e && chks Z G es l)=true:=hst
   simp only[Bool.and_eq_true] at hst'
   refine PySem.W.callWith_K (h₀:=X.base) I.ok.mod.kin hkp (thn (h pos pins s σ H (fun vs H1=>∃ ds,Same H H1∧HReps X.K (nw S H) H1 vs ds∧PO' ex (cl f (ers ds)) (Kk X.K S H Q)) I ⟨S,τ,hs,(PO'.bnd q).mono fun ds hd vs H1 e m=>⟨ds,e,m,hd⟩⟩) fun us s1 ⟨vs,H1,I1,r,ds,e,m,q1⟩=>⟨I1.kIn,?_⟩) (star_cons hst'.1.1 l X.env) (star_none Z G (es:=es) pos X.env hst'.2)
   exact fin us s1 vs H1 ds I1 r e m q1
theorem s_bi (g:GOk Z CX cl xp X ex G) {f:Bi} {p pos:Pos} {es:List IR} {a:Expr} {args:List Expr} (hg:G.glc (biNum f)=true) (hst:chks Z G es (a::args)=true) (h:PA X (a::args) (RA X.K ex (varss es) (evRs cl es))) :
  PE X (.Call (.Name (biName f) p) (a::args) [] pos) (RD X.K ex (varss es) fun τ=>bnd (evRs cl es τ) fun ds=>opBi f ds):=by
 obtain⟨k1,k2,k3,k4⟩:=gb_of g (bi_num f) (glc_gl hg)
 cases es with
 | nil=>cases hst
 | cons b es=>
  have hst':(notStar a && chk Z G b a && chks Z G es args)=true:=hst
  simp only[Bool.and_eq_true] at hst'
  have mono:∀ σ H Q,RD X.K ex (varss (b::es)) (fun τ=>bnd (evRs cl (b::es) τ) fun ds=>opBi f ds) σ H Q→tCB (rBi X.K ex f) (RA X.K ex (varss (b::es)) (evRs cl (b::es))) σ H Q:=by
   rintro σ H Q ⟨S,τ,hs,q⟩
   refine raAt (.refl _) hs (PO'.bnd q) fun ds vs H1 e1 _ m1 q1=>?_
   exact⟨nw S H,ds,m1,q1.mono fun d hd=>hd.fit e1⟩
  refine peMono ?_ mono
  have hv:=bi_boot f
  have hc:=opBi_ok (X:=X) (ex:=ex) (g.calm (glc_cm hg)) f
  unfold biVal at hv hc
  cases z:biTy f with
  | true=>
   rw[z,if_pos rfl] at hv hc
   exact pe_callTy hc k1 k2 hv h k3 k4 (star_cons hst'.1.1 args X.env) (star_none Z G (es:=es) pos X.env hst'.2)
  | false=>
   rw[z,if_neg Bool.false_ne_true] at hv hc
   exact pe_callB hc k1 k2 hv h k3 k4 (star_cons hst'.1.1 args X.env) (star_none Z G (es:=es) pos X.env hst'.2)
noncomputable def kdV:Kd→V
 | .str=>.ty "str" | .int=>.ty "int" | .bool=>.ty "bool" | .list=>.ty "list" | .tuple=>.ty "tuple"
theorem kdV_rel (k:Kd):RelV (kdV k) (kdTy k):=by cases k<;>rfl
theorem call_isi (k:Kd):CallR X (.builtin "isinstance") (fun xs H Q=>∃ S x d,xs=[x,kdV k]∧HRep X.K S H x d∧notX d=true∧Q (.bl (isiD k d)) H):=by
 intro pins s σ H xs us Q I r h
 obtain⟨S,x,d,rfl,m,hn,q⟩:=h
 obtain⟨u,w',rfl,r1,r2⟩:=vals2 r
 have e:w'=kdTy k:=by
  have:=r2.abs
  have h2:=(kdV_rel k).abs
  cases k<;>(revert r2;intro r2;exact r2)
 subst e
 exact isiD_ok I r1 m k hn q
theorem s_isi (g:GOk Z CX cl xp X ex G) {k:Kd} {e:Expr} {p p' pos:Pos} {va:List Nat} {fa:Ev→Res D} (hg:G.gl.contains 14=true) (hk:G.gl.contains (kdNum k)=true) (hn:notStar e=true) (ha:PE X e (RD X.K ex va fa)) :
  PE X (.Call (.Name "isinstance" p) [e,.Name (kdName k) p'] [] pos) (RD X.K ex va fun τ=>bnd (fa τ) fun x=>grd (notX x) (.ok (.bl (isiD k x)))):=by
 obtain⟨k1,k2,k3,k4⟩:=gb_of g (show bnames[14]? = some ("isinstance" : Str) from rfl) hg
 obtain⟨j1,j2,j3,j4⟩:=gb_of g (kd_num k) hk
 have pa:PA X [e,.Name (kdName k) p'] (tCons (RD X.K ex va fa) (tCons (tC (kdV k)) tNil)):=pa_cons ha (pa_cons (pe_bltn j1 j2 (kd_boot k) (kdV_rel k) j3 j4) pa_nil rfl) (star_cons hn _ _)
 refine peMono (pe_callB (call_isi k) k1 k2 PyProof.Rows.boot_isinstance pa k3 k4 (star_cons hn _ _) rfl) fun σ H Q ⟨S,τ,hs,q⟩=>?_
 refine rdAt (.refl _) hs (PO'.bnd q) fun x v H1 e1 _ m1 q1=>?_
 obtain⟨gd,q1⟩:=PO'.grd q1
 exact⟨nw S H,v,x,rfl,m1,gd,q1.ok _ _ e1 (.bl _)⟩
theorem pe_cv (g:GOk Z CX cl xp X ex G) {n:Nat} {z:Str} {p:Pos} (h:chkG Z G n z=true) (hc:Z.cls.contains n=true):∃ v,CV X z v∧PE X (.Name z p) (tC v):=by
 obtain⟨k1,k2,k3,k4⟩:=gl_of g h
 obtain⟨v,hv⟩:=g.xcv n (by simpa using hc) z k2
 refine⟨v,hv,?_⟩
 rcases hv with ⟨C,rfl,h1⟩ | ⟨T,rfl,h1,h2⟩
 ·exact pe_glob k1 h1 rfl k4
 ·exact pe_bltn k1 h1 h2 rfl k3 k4
theorem isxD_exc {tb:List (Str×Bool)} {d:D} {k:D→Prop} (h:PO' ex (isxD tb d) k):∃ c b,d=.exc c∧tb.lookup c=some b∧k (.bl b):=by
 cases d with
 | exc c=>
  have h':PO' ex (match tb.lookup c with | some b=>.ok (.bl b) | none=>stk) k:=h
  cases z:tb.lookup c with
  | none=>rw[z] at h';exact h'.no.elim
  | some b=>rw[z] at h';exact⟨c,b,rfl,z,h'.ok⟩
 | _=>exact h.no.elim
theorem HRep.excR {K:PySem.W.Frag} {S:Addr→Prop} {H:Hp} {v:V} {c:Str} (h:HRep K S H v (.exc c)):∃ a,v=.ref a∧SqE K H a (.inr c):=by
 cases h with
 | exc h=>exact⟨_,rfl,h⟩
theorem call_isx1 {v2:V} {z:Str} (hv:CV X z v2):CallR X (.builtin "isinstance") (fun xs H Q=>∃ a c C b,xs=[.ref a,v2]∧SqE X.K H a (.inr c)∧PySem.W.nsIn X.K mainGlobals c=some (some (.ref C))∧ExcAt X.K C∧PySem.W.kitOne X.K (.ref C) (vv v2)=some b∧Q (.bl b) H):=by
 intro pins s σ H xs us Q I r h
 obtain⟨a,c,C,b,rfl,h1,h2,h3,h4,q⟩:=h
 obtain⟨u,w',rfl,r1,r2⟩:=vals2 r
 cases r1
 rw[hv.rel r2]
 exact isx_one I h1 h2 h3 h4 q
theorem call_isx2 {v1 v2:V} {z y:Str} (hv:CV X z v1) (hw:CV X y v2):CallR X (.builtin "isinstance") (fun xs H Q=>∃ a p c C b,xs=[.ref a,.ref p]∧SqE X.K H a (.inr c)∧SqT X.K H p [v1,v2]∧PySem.W.nsIn X.K mainGlobals c=some (some (.ref C))∧ExcAt X.K C∧PySem.W.kitAny X.K (.ref C) [vv v1,vv v2]=some b∧Q (.bl b) H):=by
 intro pins s σ H xs us Q I r h
 obtain⟨a,p,c,C,b,rfl,h1,hp,h2,h3,h4,q⟩:=h
 obtain⟨u,w',rfl,r1,r2⟩:=vals2 r
 cases r1
 cases r2
 exact isx_two I h1 h2 h3 hv hw hp h4 q
theorem lookup_mem {tb:List (Str×Bool)} {c:Str} {b:Bool} (h:tb.lookup c=some b):(c,b) ∈ tb:=by
 induction tb with
 | nil=>cases h
 | cons p r ih=>
  rw[List.lookup_cons] at h
  split at h
  ·rename_i hb
   cases h
   have:c=p.1:=eq_of_beq hb
   subst this
   exact List.mem_cons_self ..
  ·exact List.mem_cons_of_mem _ (ih h)
theorem s_isx (g:GOk Z CX cl xp X ex G) {ns:List Nat} {tb:List (Str×Bool)} {e y:Expr} {p pos:Pos} {va:List Nat} {fa:Ev→Res D} (hg:G.gl.contains 14=true) (hn:notStar e=true) (hc:chkCl Z G ns y=true) (ht:tb.all (tbOk Z ns)=true) (ha:PE X e (RD X.K ex va fa)) :
  PE X (.Call (.Name "isinstance" p) [e,y] [] pos) (RD X.K ex va fun τ=>bnd (fa τ) (isxD tb)):=by
 obtain⟨k1,k2,k3,k4⟩:=gb_of g (show bnames[14]? = some ("isinstance" : Str) from rfl) hg
 rw[List.all_eq_true] at ht
 cases ns with
 | nil=>exact no_h hc
 | cons n r=>
 cases r with
 | nil=>
  obtain⟨z,p',rfl,hc'⟩:=nmv_ok (show nmv (fun z=>chkG Z G n z && Z.cls.contains n) y=true from hc)
  rw[Bool.and_eq_true] at hc'
  obtain⟨v,hv,pv⟩:=pe_cv (p:=p') g hc'.1 hc'.2
  obtain⟨_,j2,_,_⟩:=gl_of g hc'.1
  have pa:PA X [e,.Name z p'] (tCons (RD X.K ex va fa) (tCons (tC v) tNil)):=pa_cons ha (pa_cons pv pa_nil rfl) (star_cons hn _ _)
  refine peMono (pe_callB (call_isx1 hv) k1 k2 PyProof.Rows.boot_isinstance pa k3 k4 (star_cons hn _ _) rfl) fun σ H Q ⟨S,τ,hs,q⟩=>?_
  refine rdAt (.refl _) hs (PO'.bnd q) fun x w H1 e1 _ m1 q1=>?_
  obtain⟨c,b,rfl,hl,q2⟩:=isxD_exc q1
  obtain⟨a,rfl,hx⟩:=m1.excR
  have hm:(c,n,b) ∈ Z.xt:=by simpa using show Z.xt.contains (c,n,b)=true from ht (c,b) (lookup_mem hl)
  obtain⟨C,h1,h2,h3⟩:=g.xcl c n b z hm j2
  exact⟨a,c,C,b,rfl,hx,h1,h2,h3 v hv,q2 _ _ e1 (.bl _)⟩
 | cons m r=>
 cases r with
 | cons _ _=>exact no_h hc
 | nil=>
  obtain⟨es,tn,tpos,rfl,hc⟩:=tpv_ok (show tpv (chk2 fun a b=>nmv (fun z=>chkG Z G n z && Z.cls.contains n) a && nmv (fun y=>chkG Z G m y && Z.cls.contains m) b) y=true from hc)
  cases es with
  | nil=>exact no_h hc
  | cons z1 es=>
  cases es with
  | nil=>exact no_h hc
  | cons z2 es=>
  cases es with
  | cons _ _=>exact no_h hc
  | nil=>
  obtain⟨hc1,hc2⟩:=Bool.and_eq_true_iff.mp (show (nmv (fun z=>chkG Z G n z && Z.cls.contains n) z1 && nmv (fun y=>chkG Z G m y && Z.cls.contains m) z2)=true from hc)
  obtain⟨z,p',rfl,hd1⟩:=nmv_ok hc1
  obtain⟨y,p2,rfl,hd2⟩:=nmv_ok hc2
  rw[Bool.and_eq_true] at hd1 hd2
  obtain⟨v,hv,pv⟩:=pe_cv (p:=p') g hd1.1 hd1.2
  obtain⟨w,hw,pw⟩:=pe_cv (p:=p2) g hd2.1 hd2.2
  obtain⟨_,j2,_,_⟩:=gl_of g hd1.1
  obtain⟨_,i2,_,_⟩:=gl_of g hd2.1
  have pt:PE X (.Tuple [.Name z p',.Name y p2] tn tpos) _:=pe_tup (pa_cons pv (pa_cons pw pa_nil rfl) rfl)
  have pa:=pa_cons ha (pa_cons pt pa_nil rfl) (star_cons hn _ _)
  refine peMono (pe_callB (call_isx2 hv hw) k1 k2 PyProof.Rows.boot_isinstance pa k3 k4 (star_cons hn _ _) rfl) fun σ H Q ⟨S,τ,hs,q⟩=>?_
  refine rdAt (.refl _) hs (PO'.bnd q) fun x w' H1 e1 _ m1 q1=>?_
  obtain⟨c,b,rfl,hl,q2⟩:=isxD_exc q1
  obtain⟨a,rfl,hx⟩:=m1.excR
  have hm':(Z.xt.contains (c,n,false) && Z.xt.contains (c,m,b))=true:=ht (c,b) (lookup_mem hl)
  rw[Bool.and_eq_true] at hm'
  obtain⟨C,h1,h2,h3⟩:=g.xcl c n false z (by simpa using hm'.1) j2
  obtain⟨C',h1',h2',h3'⟩:=g.xcl c m b y (by simpa using hm'.2) i2
  rw[h1] at h1'
  cases h1'
  refine⟨(by decide:2≤sizeLine),fun pp hp=>⟨a,pp,c,C,b,rfl,(Same.upd hp).seqT hx,.inl (.inl upd_same),h1,h2,?_,q2 _ _ (e1.trans (.upd hp)) (.bl _)⟩⟩
  have a1:=h3 v hv
  have a2:=h3' w hw
  unfold PySem.W.kitAny
  rw[a1]
  unfold PySem.W.kitAny
  rw[a2]
  cases b<;>rfl
theorem s_ftr {x:Str} {y:Option Str} {e e':Expr} {va:List Nat} {fa:Ev→Res D} (hx:x.length≤1000) (he:(∃ j p q pos,y=none∧e=.JoinedStr [.Constant (.str x) j p,.FormattedValue e' 114 none q] pos)∨∃ w j p q j' r pos,y=some w∧e=.JoinedStr [.Constant (.str x) j p,.FormattedValue e' 114 none q,.Constant (.str w) j' r] pos) (ha:PE X e' (RD X.K ex va fa)) :
  PE X e (RD X.K ex va fun τ=>bnd (fa τ) (ftrD x y)):=by
 rcases he with ⟨j,p,q,pos,rfl,rfl⟩ | ⟨w,j,p,q,j',r,pos,rfl,rfl⟩
 ·refine peMono (pe_ftr1 hx ha) fun σ H Q ⟨S,τ,hs,q⟩=>?_
  refine rdAt (.refl _) hs (PO'.bnd q) fun d v H1 e1 _ m1 q1=>?_
  cases d with
  | str z=>
   cases m1.strR
   obtain⟨g,q1⟩:=PO'.grd q1
   have g:=szOk_le g
   have e0:Str.empty.length=0:=rfl
   have g:x.length + (reprText z).length + Str.empty.length≤sizeLine:=g
   have q1:Kk X.K S H Q (.str (x++reprText z++Str.empty)):=q1.ok
   rw[Str.append_empty] at q1
   exact⟨z,rfl,by omega,q1 _ _ e1 (.str _)⟩
  | _=>exact q1.no.elim
 ·refine peMono (pe_ftr2 hx ha) fun σ H Q ⟨S,τ,hs,q⟩=>?_
  refine rdAt (.refl _) hs (PO'.bnd q) fun d v H1 e1 _ m1 q1=>?_
  cases d with
  | str z=>
   cases m1.strR
   obtain⟨g,q1⟩:=PO'.grd q1
   exact⟨z,rfl,szOk_le g,q1.ok _ _ e1 (.str _)⟩
  | _=>exact q1.no.elim
theorem isStrD_str {d:D} (h:isStrD d=true):∃ x,d=.str x:=by
 cases d<;>first | exact⟨_,rfl⟩ | cases h
theorem s_mth (g:GOk Z CX cl xp X ex G) {m:Mt} {o:Expr} {apos cpos:Pos} {vo:List Nat} {fo:Ev→Res D} {es:List IR} {a:Expr} {args:List Expr} (hn:notCall0 o=true) (hl:(apos.endLine == cpos.line)=true) (hlen:(a::args).length < 29) (hcm:(G.cm || isJoin m)=true)
  (hst:chks Z G es (a::args)=true) (ho:PE X o (RD X.K ex vo fo)) (h:PA X (a::args) (RA X.K ex (varss es) (evRs cl es))) :
  PE X (.Call (.Attribute o (mtName m) apos) (a::args) [] cpos) (RD X.K ex (vo++varss es) fun τ=>bnd (fo τ) fun x=>grd (isStrD x) (bnd (evRs cl es τ) fun ds=>opMt m x ds)):=by
 cases es with
 | nil=>cases hst
 | cons b es=>
  have hst':(notStar a && chk Z G b a && chks Z G es args)=true:=hst
  simp only[Bool.and_eq_true] at hst'
  have star:=star_none Z G (es:=es) cpos X.env hst'.2
  have mono:∀ σ H Q,RD X.K ex (vo++varss (b::es)) (fun τ=>bnd (fo τ) fun x=>grd (isStrD x) (bnd (evRs cl (b::es) τ) fun ds=>opMt m x ds)) σ H Q→tBM X.K "str" (rMt X.K ex m) (RD X.K ex vo fo) (RA X.K ex (varss (b::es)) (evRs cl (b::es))) σ H Q:=by
   rintro σ H Q ⟨S,τ,hs,q⟩
   refine rdAt (.refl _) hs.left (PO'.bnd q) fun x v H1 e1 _ m1 q1=>?_
   obtain⟨gd,q1⟩:=PO'.grd q1
   obtain⟨z,rfl⟩:=isStrD_str gd
   cases m1.strR
   refine⟨rfl,raAt e1 hs.right (PO'.bnd q1) fun ds vs H2 e2 e2' m2 q2=>?_⟩
   exact⟨nw S H,.str z,ds,.str z,m2,q2.mono fun d hd=>hd.fit e2⟩
  have hbase:attributeBase o (mtName m) X.env (eval o X.env)=eval o X.env:=by
   cases o with
   | Call f args kws pos=>
    cases args with
    | nil=>
     cases kws with
     | nil=>cases hn
     | cons _ _=>cases f<;>rfl
    | cons _ _=>cases f<;>rfl
   | _=>rfl
  have all0:(backTo cpos (starEach (a::args) X.env)).all (fun x=>!x.1)=true:=by
   rw[star_cons hst'.1.1]
   show (true && (backTo cpos (starEach args X.env)).all (fun x=>!x.1))=true
   rw[Bool.true_and,List.all_eq_true]
   intro y hy
   have:=List.any_eq_false.mp star y hy
   simpa using this
  have hfew:((backTo cpos (starEach (a::args) X.env)).all (fun x=>!x.1) && (backToKw cpos (keywordEach [] X.env)).all (fun x=>x.1.isSome) && decide ((a::args).length + ([]:List Keyword).length + (if ([]:List Keyword).isEmpty then 0 else 1) < 30))=true:=by
   rw[all0]
   have:decide ((a::args).length + ([]:List Keyword).length + (if ([]:List Keyword).isEmpty then 0 else 1) < 30)=true:=decide_eq_true (by simp at hlen ⊢;omega)
   rw[this]
   rfl
  refine peMono ?_ mono
  cases m with
  | join=>exact pe_bm PySem.F.plainAttrs_str PySem.F.slot_str_join PySem.F.type_str_join (opMt_ok (ex:=ex) .join fun z=>by cases z) ho h hbase hfew hl (star_cons hst'.1.1 args X.env) star
  | index=>exact pe_bm PySem.F.plainAttrs_str PySem.F.slot_str_index PySem.F.type_str_index (opMt_ok (ex:=ex) .index fun _=>g.calm (by rw[Bool.or_eq_true] at hcm;exact hcm.elim id fun z=>by cases z)) ho h hbase hfew hl (star_cons hst'.1.1 args X.env) star
  | starts=>exact pe_bm PySem.F.plainAttrs_str PySem.F.slot_str_startswith PySem.F.type_str_startswith (opMt_ok (ex:=ex) .starts fun z=>by cases z) ho h hbase hfew hl (star_cons hst'.1.1 args X.env) star
end
end L2
namespace L2
open PySem PySem.Spec PyProof.Rows PySem.SeqAt
section
variable {prog:Program} {w:World} {A:Around} {E:Value→Shared→Prop} {s:Shared}
theorem draw_listU {it t:Addr} {items:Array Value} (hne:t≠it):∀ (n i:Nat) (s:Shared) (Q:List Value→Shared→Prop),s.heap.IsListIter it t i→s.heap.IsList t items→i + n≤items.size→
  (∀ h',h'.IsListIter it t (i + n)→Heap.SameBut it s.heap h'→Q ((items.toList.drop i).take n) {s with heap:=h'})→wpAny (model prog w) A (draw (.ref it) n) Q E s
 | 0,i,s,Q,hit,_,_,hQ=>by
  show wpAny _ _ (pure []) Q E s
  exact wpAny_pure (by simpa using hQ s.heap hit (Heap.SameBut.refl ..))
 | n + 1,i,s,Q,hit,ht,hle,hQ=>by
  have hlt:i < items.size:=by omega
  show wpAny _ _ (pyNext (.ref it) >>= _) Q E s
  refine wpAny_bind (wpAny_pyNext_list_item hit ht (x:=items[i]) (by simp[hlt]) fun h₁ hit₁ hs₁=>?_)
  refine wpAny_bind (wpAny_holding (draw_listU hne n (i + 1) _ _ hit₁ (ht.extBut hs₁.extBut hne) (by omega) fun h₂ hit₂ hs₂=>wpAny_pure ?_))
  have hd:items.toList.drop i=items[i]::items.toList.drop (i + 1):=by simp[List.drop_eq_getElem_cons,hlt]
  have:=hQ h₂ (by rw[show i + (n + 1)=i + 1 + n by omega];exact hit₂) (hs₁.trans hs₂)
  rw[hd,List.take_succ_cons] at this
  exact this
theorem unpackItems_list {t:Addr} {items:Array Value} {Q:List Value→Shared→Prop} (hh:A.handled=none) (ht:s.heap.IsList t items)
  (hQ:∀ h',Heap.ExtBut s.heap.objs.size s.heap h'→Q items.toList {s with heap:=h'}):wpAny (model prog w) A (unpackItems (.ref t) items.size none) Q E s:=by
 have hlt:t≠s.heap.objs.size:=by obtain⟨o,ho,_⟩:=ht;exact Nat.ne_of_lt (Heap.lt_size ho)
 have push:∀ o,(s.heap.push o).IsList t items:=fun o=>by
  obtain⟨ob,e,c,n,d⟩:=ht
  exact⟨ob,Heap.get?_push_of_some _ e,c,n,d⟩
 unfold unpackItems
 refine wpAny_bind ?_
 ·unfold notIterableAtAll
  refine wpAny_bind (wpAny_specialOf ht.typeIs slot_list_iter.lookup ?_)
  refine wpAny_pure ?_
  simp only[Bool.false_eq_true,if_false]
  refine wpAny_bind (wpAny_holding (wpAny_pyIter_list ht ?_))
  refine wpAny_bind (wpAny_holding (draw_listU hlt items.size 0 _ _ ⟨_,Heap.get?_push_size _ rfl,rfl,rfl⟩ (push _) (by omega) fun h₁ hit₁ hs₁=>?_))
  have hall:List.take items.size (List.drop 0 items.toList)=items.toList:=by
   rw[List.drop_zero];exact List.take_of_length_le (by simp)
  rw[hall]
  rw[if_neg (by simp)]
  have ht₁:h₁.IsList t items:=(push _).extBut hs₁.extBut hlt
  refine wpAny_bind (wpAny_holding (wpAny_pyNext_list_end hh hit₁ ht₁ (by simp) fun h₂ he₂=>?_))
  simp only[Option.isSome_none,Bool.false_eq_true,if_false]
  refine wpAny_pure (hQ h₂ fun b o hb e=>he₂ b o hb (hs₁.extBut b o hb (Heap.get?_push_of_some _ e)))
end
noncomputable def gSeq (K:PySem.W.Frag) (n:Nat) (t:TGs):TG:=fun v σ H Q=>∃ a xs,v=.ref a∧(SqT K H a xs∨SqL K H a xs)∧xs.length=n∧t xs σ H Q
theorem pg_seq {X:Cx} {pos:Pos} {es:List Expr} {k:Nat} {t:TGs} {n:Nat} (hc:X.calm=true) (h:PGs X es t) (hn:(assignEach es X.env).length=n) (hst:(assignEach es X.env).findIdx? (·.1)=none):PG X (.Tuple es k pos) (gSeq X.K n t):=by
 intro pins s σ H v u Q I r hw
 obtain⟨a,xs,e1,hq,hl,hw⟩:=hw
 subst e1
 cases r
 rcases hq with hq | hq
 ·obtain⟨its,rv,ht,hz⟩:=I.tuple hq
  refine assign_Tuple_tuple (I.ok.hd hc) ht (by simp[hn,← hl,rv.length]) hst fun h' hx=>?_
  have I1:Inv X pins σ H {s with heap:=h'}:=I.kept (t':=s.toks) fun b o e=>hx b o (Nat.ne_of_lt (Heap.lt_size e)) e
  exact h pins _ σ H xs _ Q I1 (by simpa using rv) hw
 ·obtain⟨its,rv,pl,hz⟩:=I.list hq
  rw[assign_Tuple]
  refine wpAny_bind (wpAny_standAt ?_)
  unfold unpack
  have hlen:(assignEach es X.env).length=its.toArray.size:=by simp[hn,← hl,rv.length]
  rw[hlen,hst]
  refine wpAny_bind (wpAny_holding (unpackItems_list (I.ok.hd hc) pl.isList fun h' hx=>?_))
  have I1:Inv X pins σ H {s with heap:=h'}:=I.kept (t':=s.toks) fun b o e=>hx b o (Nat.ne_of_lt (Heap.lt_size e)) e
  exact h pins _ σ H xs _ Q I1 (by simpa using rv) hw
mutual
noncomputable def gT (K:PySem.W.Frag):Tg→TG
 | .nm i=>gName i
 | .tp ts=>gSeq K ts.length (gTs K ts)
noncomputable def gTs (K:PySem.W.Frag):List Tg→TGs
 | []=>gNil
 | t::ts=>gCons (gT K t) (gTs K ts)
end
theorem asgEach_cons {e:Expr} (h:notStar e=true) (es:List Expr) (env:Env):assignEach (e::es) env=(false,assign e env)::assignEach es env:=by
 cases e<;>first | rfl | cases h
section
variable {Z:Sg} {CX:CXT} {cl:Nat→List D→Res D} {xp:XK→Hp→Str→Prop} {X:Cx} {ex:Str→Prop} {G:Gm}
theorem chkTs_each (G:Gm):∀ {ts:List Tg} {es:List Expr} (env:Env),chkTs G ts es=true→(assignEach es env).length=ts.length∧(assignEach es env).findIdx? (·.1)=none
 | [],[],_,_=>⟨rfl,rfl⟩
 | t::ts,e::es,env,h=>by
  have h':(notStar e && chkT G t e && chkTs G ts es)=true:=h
  simp only[Bool.and_eq_true] at h'
  obtain⟨h1,h2⟩:=chkTs_each G (ts:=ts) (es:=es) env h'.2
  rw[asgEach_cons h'.1.1]
  refine⟨by rw[List.length_cons,h1,List.length_cons],?_⟩
  rw[List.findIdx?_cons,if_neg (by simp),h2]
  rfl
 | [],_::_,_,h=>by cases h
 | _::_,[],_,h=>by cases h
mutual
theorem pgT (g:GOk Z CX cl xp X ex G):∀ (t:Tg) (e:Expr),chkT G t e=true→PG X e (gT X.K t)
 | .nm i,e,h=>by
  cases e with
  | Name x pos=>
   have h':(G.N[i]? == some x && (G.kd[i]? == some .local || (G.df && G.kd[i]? == some .cell)))=true:=h
   rw[Bool.and_eq_true,Bool.or_eq_true,Bool.and_eq_true] at h'
   obtain⟨h1,h2⟩:=h'
   have hx:G.N[i]? = some x:=eq_of_beq h1
   have hk:=g.kd i x hx
   refine pg_name (by rw[g.N];exact g.nod) (by rw[g.N];exact hx) ?_ ?_
   ·rcases h2 with h2 | h2
    ·exact .inl (hk.trans (eq_of_beq h2))
    ·exact .inr (hk.trans (eq_of_beq h2.2))
   ·rcases h2 with h2 | h2
    ·exact .inr (hk.trans (eq_of_beq h2))
    ·exact .inl (g.df h2.1 x)
  | _=>cases h
 | .tp ts,e,h=>by
  cases e with
  | Tuple es k pos=>
   have h0:(G.cm && chkTs G ts es)=true:=h
   rw[Bool.and_eq_true] at h0
   have h':=h0.2
   obtain⟨h1,h2⟩:=chkTs_each G X.env h'
   exact pg_seq (g.calm h0.1) (pgTs g ts es h') h1 h2
  | _=>cases h
theorem pgTs (g:GOk Z CX cl xp X ex G):∀ (ts:List Tg) (es:List Expr),chkTs G ts es=true→PGs X es (gTs X.K ts)
 | [],[],_=>pgs_nil
 | t::ts,e::es,h=>by
  have h':(notStar e && chkT G t e && chkTs G ts es)=true:=h
  simp only[Bool.and_eq_true] at h'
  exact pgs_cons (pgT g t e h'.1.2) (pgTs g ts es h'.2) (by rw[asgEach_cons h'.1.1];rfl)
 | [],_::_,h=>by cases h
 | _::_,[],h=>by cases h
end
end
noncomputable def SlA (K:PySem.W.Frag) (S:Addr→Prop) (H:Hp) (σ:St) (τ:Ev):Prop:=τ.length=σ.length∧∀ i d,slotD τ i=some d→∃ v,σ[i]? = some (some v)∧HRep K S H v d
theorem slotD_set {τ:Ev} {i j:Nat} {o:Option D}:slotD (τ.set i o) j=if i=j∧i < τ.length then o else slotD τ j:=by
 unfold slotD
 rw[List.getElem?_set]
 by_cases h:i=j
 ·subst h
  by_cases h2:i < τ.length
  ·simp[h2]
  ·rw[if_pos rfl,if_neg h2,if_neg (by omega)]
   rw[List.getElem?_eq_none (by omega)]
 ·rw[if_neg h,if_neg (by omega)]
section
variable {K:PySem.W.Frag} {S:Addr→Prop} {H:Hp} {ex:Str→Prop}
mutual
theorem gT_read:∀ (t:Tg) {σ:St} {τ:Ev} {v:V} {d:D} {Kt:Ev→Prop} {Q:St→Hp→Prop},SlA K S H σ τ→HRep K S H v d→PO' ex (setT t d τ) Kt→
  (∀ τ' σ',SlA K S H σ' τ'→σ'.length=σ.length→(∀ j,j ∉ tgs t→σ'[j]? = σ[j]?)→Kt τ'→Q σ' H)→gT K t v σ H Q
 | .nm i,σ,τ,v,d,Kt,Q,hs,m,h,k=>by
  refine k (τ.set i (some d)) (σ.set i (some v)) ⟨by rw[List.length_set,List.length_set,hs.1],fun j e z=>?_⟩ (by rw[List.length_set]) (fun j hj=>?_) h.ok
  ·rw[slotD_set] at z
   by_cases q:i=j∧i < τ.length
   ·rw[if_pos q] at z
    obtain⟨rfl,q⟩:=q
    cases z
    exact⟨v,by rw[List.getElem?_set_self (by rw[← hs.1];exact q)],m⟩
   ·rw[if_neg q] at z
    obtain⟨w,h1,h2⟩:=hs.2 j e z
    refine⟨w,?_,h2⟩
    by_cases q2:i=j
    ·subst q2
     exfalso
     have:i < σ.length:=by
      have:=(List.getElem?_eq_some_iff.mp h1).1
      exact this
     exact q ⟨rfl,by rw[hs.1];exact this⟩
    ·rw[List.getElem?_set_ne q2];exact h1
  ·have:i≠j:=fun z=>hj (by subst z;simp[tgs])
   rw[List.getElem?_set_ne this]
 | .tp ts,σ,τ,v,d,Kt,Q,hs,m,h,k=>by
  cases d with
  | tup ds=>
   obtain⟨a,xs,rfl,q,ms⟩:=m.tupR
   obtain⟨g,h⟩:=PO'.grd h
   have g':ds.length=ts.length:=of_decide_eq_true g
   exact⟨a,xs,rfl,.inl q,by rw[ms.length,g'],gTs_read ts hs ms h k⟩
  | lst o ds=>
   obtain⟨a,xs,rfl,q,ms⟩:=m.lstR
   obtain⟨g,h⟩:=PO'.grd h
   have g':ds.length=ts.length:=of_decide_eq_true g
   exact⟨a,xs,rfl,.inr q,by rw[ms.length,g'],gTs_read ts hs ms h k⟩
  | _=>exact h.no.elim
theorem gTs_read:∀ (ts:List Tg) {σ:St} {τ:Ev} {vs:List V} {ds:List D} {Kt:Ev→Prop} {Q:St→Hp→Prop},SlA K S H σ τ→HReps K S H vs ds→PO' ex (setTs ts ds τ) Kt→
  (∀ τ' σ',SlA K S H σ' τ'→σ'.length=σ.length→(∀ j,j ∉ tgss ts→σ'[j]? = σ[j]?)→Kt τ'→Q σ' H)→gTs K ts vs σ H Q
 | [],σ,τ,vs,ds,Kt,Q,hs,m,h,k=>by
  cases m with
  | nil=>exact⟨rfl,k τ σ hs rfl (fun _ _=>rfl) h.ok⟩
  | cons _ _=>exact h.no.elim
 | t::ts,σ,τ,vs,ds,Kt,Q,hs,m,h,k=>by
  cases m with
  | nil=>exact h.no.elim
  | cons m1 m2=>
   refine⟨_,_,rfl,gT_read t hs m1 (PO'.bnd h) fun τ' σ' hs' hn hk h'=>?_⟩
   refine gTs_read ts hs' m2 h' fun τ'' σ'' hs'' hn' hk' h''=>k τ'' σ'' hs'' (hn'.trans hn) (fun j hj=>?_) h''
   have hj':j ∉ tgs t∧j ∉ tgss ts:=by
    constructor<;>(intro z;apply hj;simp[tgss,z])
   rw[hk' j hj'.2,hk j hj'.1]
end
end
section
variable {K:PySem.W.Frag} {S S':Addr→Prop} {H H':Hp} {J:It} {ds:List D}
theorem WS.step (hl:∀ a xs,S a→Rd H a (.lst xs)→S' a∧Rd H' a (.lst xs)) (ht:∀ a xs,SqE K H a xs→SqE K H' a xs) {k:Zp.Kq} {a:Addr} {xs:List V} (h:WS K S H k a xs):WS K S' H' k a xs:=by
 cases k with
 | l=>exact h.elim (fun z=>.inl (hl _ _ z.1 z.2)) fun z=>.inr z
 | t=>exact ht _ (.inl _) h
theorem zipD_len (ds es:List D):(zipD ds es).length=min ds.length es.length:=by unfold zipD;rw[List.length_zipWith]
theorem Wlk.step (hl:∀ a xs,S a→Rd H a (.lst xs)→S' a∧Rd H' a (.lst xs)) (ht:∀ a xs,SqE K H a xs→SqE K H' a xs) (h:Wlk K S H J ds):Wlk K S' H' J ds:=by
 cases h with
 | lst h0 h1 h2=>exact .lst (hl _ _ h0 h1).1 (hl _ _ h0 h1).2 (h2.step hl ht)
 | lstK h1 h2=>exact .lstK h1 (h2.step hl ht)
 | tup h1 h2=>exact .tup (ht _ (.inl _) h1) (h2.step hl ht)
 | rng lo hi=>exact .rng lo hi
 | str x=>exact .str x
 | zip h1 h2 h3 h4=>exact .zip (h1.step hl ht) (h2.step hl ht) (h3.step hl ht) (h4.step hl ht)
theorem Wlk.mono (h:Wlk K S H J ds) (hS:∀ a,S a→S' a) (e:Same H H'):Wlk K S' H' J ds:=h.step (fun a xs s r=>⟨hS a s,e.rd r⟩) fun a xs s=>e.seqT s
theorem charsD_len (x:Str):(charsD x).length=x.cps.size:=by unfold charsD;simp
theorem rngD_len (a b:Int):(rngD a b).length=(b - a).toNat:=by unfold rngD;simp
theorem Wlk.stop (h:Wlk K S H J ds) {i:Nat} (hi:ds.length≤i):J.stop i H:=by
 cases h with
 | lst h0 h1 h2=>exact⟨_,.inl h1,by rw[h2.length];exact hi⟩
 | lstK h1 h2=>exact⟨_,h1.sq,by rw[h2.length];exact hi⟩
 | tup h1 h2=>exact⟨_,h1,by rw[h2.length];exact hi⟩
 | rng lo hi'=>rw[rngD_len] at hi;exact hi
 | str x=>rw[charsD_len] at hi;exact hi
 | zip h1 h2 h3 h4=>exact⟨_,_,h1.sq,h2.sq,by rw[zipD_len] at hi;rw[h3.length,h4.length];omega⟩
theorem Wlk.go (h:Wlk K S H J ds) {i:Nat} (hi:i < ds.length):J.go i H:=by
 cases h with
 | lst h0 h1 h2=>obtain⟨v,hv,_⟩:=h2.get (i:=i) (d:=ds[i]) (by simp[hi]);exact⟨_,v,.inl h1,hv⟩
 | lstK h1 h2=>obtain⟨v,hv,_⟩:=h2.get (i:=i) (d:=ds[i]) (by simp[hi]);exact⟨_,v,h1.sq,hv⟩
 | tup h1 h2=>obtain⟨v,hv,_⟩:=h2.get (i:=i) (d:=ds[i]) (by simp[hi]);exact⟨_,v,h1,hv⟩
 | rng lo hi'=>rw[rngD_len] at hi;exact hi
 | str x=>rw[charsD_len] at hi;exact hi
 | zip h1 h2 h3 h4=>
  rename_i ds' es'
  rw[zipD_len] at hi
  obtain⟨v,hv,_⟩:=h3.get (i:=i) (d:=ds'[i]) (by rw[List.getElem?_eq_getElem])
  obtain⟨u,hu,_⟩:=h4.get (i:=i) (d:=es'[i]) (by rw[List.getElem?_eq_getElem])
  exact⟨_,_,v,u,h1.sq,h2.sq,hv,hu⟩
theorem Wlk.yld (h:Wlk K S H J ds) {i:Nat} {x:V} {H2:Hp} (y:J.yld i H x H2) {d:D} (hd:ds[i]? = some d):Same H H2∧HRep K S H2 x d:=by
 have fin:∀ {xs:List V},HReps K S H xs ds→xs[i]? = some x→HRep K S H x d:=fun m e=>by
  obtain⟨d',e',m'⟩:=m.getV e
  rw[hd] at e';cases e';exact m'
 cases h with
 | lst h0 h1 h2=>obtain⟨e,y⟩:=y;subst e;exact⟨.refl _,fin h2 (y _ (.inl h1))⟩
 | lstK h1 h2=>obtain⟨e,y⟩:=y;subst e;exact⟨.refl _,fin h2 (y _ h1.sq)⟩
 | tup h1 h2=>obtain⟨e,y⟩:=y;subst e;exact⟨.refl _,fin h2 (y _ h1)⟩
 | zip h1 h2 h3 h4=>
  obtain⟨T,a,b,e1,hT,e2,hy⟩:=y
  subst e1 e2
  obtain⟨y1,y2⟩:=hy _ _ h1.sq h2.sq
  obtain⟨d1,g1,m1⟩:=h3.getV y1
  obtain⟨d2,g2,m2⟩:=h4.getV y2
  unfold zipD at hd
  rw[List.getElem?_zipWith,g1,g2] at hd
  cases hd
  have e:Same H (upd H T (.tup [a,b])):=.upd hT
  exact⟨e,.tup (SqT.of upd_same) (.cons (m1.mono (fun _ z=>z) e) (.cons (m2.mono (fun _ z=>z) e) .nil))⟩
 | rng lo hi'=>
  obtain⟨e1,e2⟩:=y
  subst e1
  refine⟨.refl _,?_⟩
  subst e2
  unfold rngD at hd
  rw[List.getElem?_map] at hd
  have hi:i < (hi' - lo).toNat:=by
   have:=(Option.map_eq_some_iff.mp hd)
   obtain⟨z,h1,_⟩:=this
   have:=(List.getElem?_eq_some_iff.mp h1).1
   simpa using this
  rw[List.getElem?_range hi] at hd
  cases hd
  exact .int _
 | str x=>
  obtain⟨e1,c,h1,e2⟩:=y
  subst e1
  refine⟨.refl _,?_⟩
  subst e2
  unfold charsD at hd
  rw[List.getElem?_map] at hd
  have h2:x.cps.toList[i]? = some c:=by simpa using h1
  rw[h2] at hd
  cases hd
  exact .str _
end
end L2
namespace L2
open PySem PySem.Spec PyProof.Rows PySem.SeqAt
section
variable {Z:Sg} {CX:CXT} {cl:Nat→List D→Res D} {xp:XK→Hp→Str→Prop} {X:Cx} {ex:Str→Prop} {G:Gm} {K:PySem.W.Frag} {S:Addr→Prop} {H H1:Hp} {σ:St} {τ:Ev}
theorem riAt {is:List Nat} {f:Ev→Res (List D)} {Kt:List D→Prop} {R:It→Hp→Prop} (e:Same H H1) (hs:Slots K S H σ τ is) (h:PO' ex (f τ) Kt) (k:∀ ds J H2,Same H H2→Same H1 H2→Wlk K (nw S H) H2 J ds→Kt ds→R J H2):RI K ex is f σ H1 R:=
 ⟨nw S H,τ,hs.go e,h.mono fun x hx J H2 e2 m=>k x J H2 (e.trans e2) e2 (m.mono (nw_nw e) (.refl _)) hx⟩
theorem it_list {tg:Expr} {pins:List (Addr×Obj)} {s:Shared} {a:Addr} {xs:List V} {R:It→Hp→Prop} (I:Inv X pins σ H s) (hq:SqL X.K H a xs) (q:R (Itl X.K a) H):wpAny (model X.prog X.w) X.A (pyIter (.ref a)) (PIE X pins σ tg R) X.xe s:=by
 obtain⟨its,rv,p,hz⟩:=I.list hq
 refine wpAny_pyIter_list p.isList ?_
 refine⟨s.heap.objs.size,[s.heap.objs.size],_,_,H,rfl,I.kept (t':=s.toks) fun b o e=>Heap.get?_push_of_some _ e,turn_list a _,⟨_,Heap.get?_push_size _ rfl,rfl,rfl⟩,fun b hb=>?_,q⟩
 have e:b=s.heap.objs.size:=by simpa using hb
 subst e
 exact I.fpOk (Nat.le_refl _) (I.hok.fresh (Nat.le_refl _))
theorem it_tuple {tg:Expr} {pins:List (Addr×Obj)} {s:Shared} {a:Addr} {xs:List V} {R:It→Hp→Prop} (I:Inv X pins σ H s) (hq:SqT X.K H a xs) (q:R (Itt X.K a) H):wpAny (model X.prog X.w) X.A (pyIter (.ref a)) (PIE X pins σ tg R) X.xe s:=by
 obtain⟨its,rv,p,hz⟩:=I.tuple hq
 refine wpAny_pyIter_tuple (show s.heap.IsTuple a its.toArray from p) ?_
 refine⟨s.heap.objs.size,[s.heap.objs.size],_,_,H,rfl,I.kept (t':=s.toks) fun b o e=>Heap.get?_push_of_some _ e,turn_tuple a _,⟨_,Heap.get?_push_size _ rfl,rfl,rfl⟩,fun b hb=>?_,q⟩
 have e:b=s.heap.objs.size:=by simpa using hb
 subst e
 exact I.fpOk (Nat.le_refl _) (I.hok.fresh (Nat.le_refl _))
theorem i_val {tg e:Expr} {va:List Nat} {fa:Ev→Res D} (ha:PE X e (RD X.K ex va fa)):PI X tg e (RI X.K ex va fun τ=>bnd (fa τ) itemsD):=by
 intro pins s σ H R I h
 obtain⟨S,τ,hs,q⟩:=h
 refine thn (ha pins s σ H (fun v H'=>∃ d,Same H H'∧HRep X.K (nw S H) H' v d∧_) I (rdAt (.refl _) hs (PO'.bnd q) fun x v H1 e1 _ m1 q1=>⟨x,e1,m1,q1⟩)) fun v s1 ⟨x,H1,I1,r1,d,e1,m1,q1⟩=>?_
 cases d with
 | lst o ds=>
  cases m1 with
  | lst h0 h1 h2=>cases r1;exact it_list I1 (.inl h1) (q1.ok _ _ e1 (.lst h0 h1 h2))
  | lstK h1 h2=>cases r1;exact it_list I1 h1.sq (q1.ok _ _ e1 (.lstK h1 h2))
 | tup ds=>
  obtain⟨a,xs,rfl,h1,h2⟩:=m1.tupR
  cases r1
  exact it_tuple I1 h1 (q1.ok _ _ e1 (.tup h1 h2))
 | str z=>
  cases m1.strR
  obtain⟨t,rfl⟩:=r1
  obtain⟨_,q1⟩:=PO'.grd q1
  exact it_str I1 (q1.ok _ _ e1 (.str z))
 | _=>exact q1.no.elim
theorem i_rng1 (g:GOk Z CX cl xp X ex G) {tg e:Expr} {p pos:Pos} {va:List Nat} {fa:Ev→Res D} (hg:G.gl.contains 15=true) (hn:notStar e=true) (ha:PE X e (RD X.K ex va fa)) :
  PI X tg (.Call (.Name "range" p) [e] [] pos) (RI X.K ex va fun τ=>bnd (fa τ) fun | .int i=>grd (rngOk i) (.ok (rngD 0 i)) | _=>stk):=by
 obtain⟨k1,k2,_,_⟩:=gb_of g (show bnames[15]? = some ("range" : Str) from rfl) hg
 refine piMono (pi_range1 k1 k2 (pa_cons ha pa_nil (star_cons hn _ _)) (star_cons hn _ _)) fun σ H Q ⟨S,τ,hs,q⟩=>?_
 refine rdAt (.refl _) hs (PO'.bnd q) fun x v H1 e1 _ m1 q1=>?_
 cases x with
 | int i=>
  cases m1.intR
  obtain⟨gd,q1⟩:=PO'.grd q1
  have gd' : -(2 ^ 62)≤i∧i < 2 ^ 62:=of_decide_eq_true gd
  refine⟨i,rfl,gd'.1,gd'.2,?_⟩
  have:=q1.ok _ _ e1 (.rng 0 i)
  rw[Int.sub_zero] at this
  exact this
 | _=>exact q1.no.elim
theorem i_rng2 (g:GOk Z CX cl xp X ex G) {tg e e':Expr} {p pos:Pos} {va vb:List Nat} {fa fb:Ev→Res D} (hg:G.gl.contains 15=true) (hn:notStar e=true) (hn':notStar e'=true) (ha:PE X e (RD X.K ex va fa)) (hb:PE X e' (RD X.K ex vb fb)) :
  PI X tg (.Call (.Name "range" p) [e,e'] [] pos) (RI X.K ex (va++vb) fun τ=>bnd (fa τ) fun x=>bnd (fb τ) fun y=>match x,y with | .int i,.int j=>grd (rngOk i && rngOk j) (.ok (rngD i j)) | _,_=>stk):=by
 obtain⟨k1,k2,_,_⟩:=gb_of g (show bnames[15]? = some ("range" : Str) from rfl) hg
 refine piMono (pi_range2 k1 k2 (pa_cons ha (pa_cons hb pa_nil (star_cons hn' _ _)) (star_cons hn _ _)) (by rw[star_cons hn,star_cons hn'];rfl) (star_cons hn' _ _)) fun σ H Q ⟨S,τ,hs,q⟩=>?_
 refine rdAt (.refl _) hs.left (PO'.bnd q) fun x v H1 e1 _ m1 q1=>?_
 refine rdAt e1 hs.right (PO'.bnd q1) fun y w H2 e2 e2' m2 q2=>?_
 cases x with
 | int i=>
  cases y with
  | int j=>
   cases m1.intR;cases m2.intR
   obtain⟨gd,q2⟩:=PO'.grd q2
   rw[Bool.and_eq_true] at gd
   have g1 : -(2 ^ 62)≤i∧i < 2 ^ 62:=of_decide_eq_true gd.1
   have g2 : -(2 ^ 62)≤j∧j < 2 ^ 62:=of_decide_eq_true gd.2
   exact⟨i,j,rfl,⟨g1.1,g1.2,g2.1,g2.2⟩,q2.ok _ _ e2 (.rng i j)⟩
  | _=>exact q2.no.elim
 | _=>cases y<;>exact q2.no.elim
theorem seqP {a:Addr} {v:V} {d:D} {ds:List D} (m:HRep K S H v d) (h:seqD d=.ok ds):∃ k a xs,v=.ref a∧WS K S H k a xs∧HReps K S H xs ds:=by
 cases d with
 | lst o es=>
  cases h
  cases m with
  | lst h0 h1 h2=>exact⟨.l,_,_,rfl,.inl ⟨h0,h1⟩,h2⟩
  | lstK h1 h2=>exact⟨.l,_,_,rfl,.inr h1,h2⟩
 | tup es=>
  cases h
  obtain⟨a,xs,rfl,h1,h2⟩:=m.tupR
  exact⟨.t,a,xs,rfl,h1,h2⟩
 | _=>cases h
theorem i_zip (g:GOk Z CX cl xp X ex G) {es:List Expr} {c:Nat} {tp:Pos} {e e':Expr} {p pos:Pos} {va vb:List Nat} {fa fb:Ev→Res D} (hg:G.gl.contains 17=true) (hn:notStar e=true) (hn':notStar e'=true) (ha:PE X e (RD X.K ex va fa)) (hb:PE X e' (RD X.K ex vb fb)) :
  PI X (.Tuple es c tp) (.Call (.Name "zip" p) [e,e'] [] pos) (RI X.K ex (va++vb) fun τ=>bnd (fa τ) fun x=>bnd (fb τ) fun y=>zipR x y):=by
 obtain⟨k1,k2,_,_⟩:=gb_of g (show bnames[17]? = some ("zip" : Str) from rfl) hg
 refine piMono (pi_zip k1 k2 (pa_cons ha (pa_cons hb pa_nil (star_cons hn' _ _)) (star_cons hn _ _)) (by rw[star_cons hn,star_cons hn'];rfl) (star_cons hn' _ _)) fun σ H Q ⟨S,τ,hs,q⟩=>?_
 refine rdAt (.refl _) hs.left (PO'.bnd q) fun x v H1 e1 _ m1 q1=>?_
 refine rdAt e1 hs.right (PO'.bnd q1) fun y w H2 e2 e2' m2 q2=>?_
 have q3:=PO'.bnd (show PO' ex (bnd (seqD x) fun ds=>bnd (seqD y) fun es=>.ok (zipD ds es)) _ from q2)
 have m1':=m1.mono (fun _ z=>z) e2'
 cases hx:seqD x with
 | error z=>
  rw[hx] at q3
  cases x<;>first | (cases hx;exact q3.no.elim) | cases hx
 | ok ds=>
  rw[hx] at q3
  have q4:=PO'.bnd q3.ok
  cases hy:seqD y with
  | error z=>
   rw[hy] at q4
   cases y<;>first | (cases hy;exact q4.no.elim) | cases hy
  | ok es'=>
   rw[hy] at q4
   obtain⟨k1,a1,xs,rfl,w1,r1⟩:=seqP (a:=0) m1' hx
   obtain⟨k2,a2,ys,rfl,w2,r2⟩:=seqP (a:=0) m2 hy
   exact⟨k1,k2,a1,a2,xs,ys,rfl,w1.sq,w2.sq,q4.ok.ok _ _ e2 (.zip w1 w2 r1 r2)⟩
theorem lookup_rl {env:Env} {x:Str}:∀ (names:List (Str×NameKind)),
  (names.map fun (n,k)=>if (k == NameKind.free && env.scope.kind == .function && env.kindOf n == some .cell) then (n,NameKind.cell) else (n,k)).lookup x =
   (names.lookup x).map fun k=>if (k == NameKind.free && env.scope.kind == .function && env.kindOf x == some .cell) then NameKind.cell else k
 | []=>rfl
 | (n,k)::r=>by
  have ih:=lookup_rl (env:=env) (x:=x) r
  rw[List.map_cons]
  show List.lookup x ((if (k == NameKind.free && env.scope.kind == .function && env.kindOf n == some .cell)=true then (n,NameKind.cell) else (n,k))::_)=_
  by_cases hc:(k == NameKind.free && env.scope.kind == .function && env.kindOf n == some .cell)=true
  ·rw[if_pos hc,List.lookup_cons,List.lookup_cons]
   cases hx:x == n with
   | true=>
    have e:x=n:=eq_of_beq hx
    subst e
    show some NameKind.cell=some (if _ then _ else _)
    rw[if_pos hc]
   | false=>exact ih
  ·rw[if_neg hc,List.lookup_cons,List.lookup_cons]
   cases hx:x == n with
   | true=>
    have e:x=n:=eq_of_beq hx
    subst e
    show some k=some (if _ then _ else _)
    rw[if_neg hc]
   | false=>exact ih
theorem closure_ex {scope:Scope} {env:Env} (h:∀ y ∈ scope.names,y.2=.free→∃ c,env.cells.lookup y.1=some c) :
  ∃ cl',closureFor scope env=pure cl'∧(∀ x c,cl'.lookup x=some c→env.cells.lookup x=some c)∧∀ y ∈ scope.names,y.2=.free→∃ c,cl'.lookup y.1=some c:=by
 have key:∀ (names:List (Str×NameKind)) (acc:List (Str×Addr)),(∀ y ∈ names,y.2=.free→∃ c,env.cells.lookup y.1=some c)→(∀ x c,acc.lookup x=some c→env.cells.lookup x=some c)→
   ∃ cl',(forIn names acc fun (p:Str×NameKind) (r:List (Str×Addr))=>(if (p.2 == NameKind.free)=true then do let a ← cellOf env p.1;pure (ForInStep.yield ((p.1,a)::r)) else pure (ForInStep.yield r):Sem (ForInStep (List (Str×Addr)))))=pure cl'∧(∀ x c,cl'.lookup x=some c→env.cells.lookup x=some c)∧
    (∀ y ∈ names,y.2=.free→∃ c,cl'.lookup y.1=some c)∧∀ x c,acc.lookup x=some c→∃ c',cl'.lookup x=some c':=by
  intro names
  induction names with
  | nil=>intro acc _ h2;exact⟨acc,rfl,h2,fun y hy=>absurd hy (by simp),fun x c e=>⟨c,e⟩⟩
  | cons p names ih=>
   intro acc h1 h2
   rw[List.forIn_cons]
   by_cases hp:p.2=.free
   ·obtain⟨c,hc⟩:=h1 p (by simp) hp
    have hb:(p.2 == NameKind.free)=true:=by rw[hp];rfl
    have h2':∀ x c',((p.1,c)::acc).lookup x=some c'→env.cells.lookup x=some c':=by
     intro x c' e
     rw[List.lookup_cons] at e
     cases hx:x == p.1 with
     | true=>
      rw[hx] at e
      cases e
      rw[eq_of_beq hx]
      exact hc
     | false=>rw[hx] at e;exact h2 x c' e
    obtain⟨cl',e1,e2,e3,e4⟩:=ih ((p.1,c)::acc) (fun y hy=>h1 y (List.mem_cons_of_mem _ hy)) h2'
    refine⟨cl',?_,e2,fun y hy hf=>?_,fun x c' e=>?_⟩
    ·rw[if_pos hb]
     have:cellOf env p.1=pure c:=by unfold cellOf;rw[hc]
     rw[this]
     exact e1
    ·rcases List.mem_cons.mp hy with rfl | hy
     ·exact e4 y.1 c (by rw[List.lookup_cons];simp)
     ·exact e3 y hy hf
    ·rcases hx:x == p.1 with _ | _
     ·exact e4 x c' (by rw[List.lookup_cons,hx];exact e)
     ·exact e4 x c (by rw[List.lookup_cons,hx])
   ·have hb:¬ (p.2 == NameKind.free)=true:=fun z=>hp (eq_of_beq z)
    obtain⟨cl',e1,e2,e3,e4⟩:=ih acc (fun y hy=>h1 y (List.mem_cons_of_mem _ hy)) h2
    refine⟨cl',?_,e2,fun y hy hf=>?_,e4⟩
    ·rw[if_neg hb]
     exact e1
    ·rcases List.mem_cons.mp hy with rfl | hy
     ·exact absurd hf hp
     ·exact e3 y hy hf
 obtain⟨cl',e1,e2,e3,_⟩:=key scope.names [] h (fun x c e=>by cases e)
 refine⟨cl',?_,e2,e3⟩
 unfold closureFor
 exact congrArg (fun (m:Sem (List (Str×Addr)))=>m >>= fun r=>pure r) e1
structure ScOk (Z:Sg) (G:Gm) (scope:Scope) (G':Gm) (fr:List Nat):Prop where
 cm:G.cm=true
 kind:scope.kind=.function
 tr:G'.tr=false
 df:G'.df=false
 kdl:G'.kd.length=G'.N.length
 nocell:∀ y ∈ scope.names,y.2≠.cell
 loc:∀ y ∈ scope.names,y.2=.local→scope.names.lookup y.1=some .local
 fre:∀ y ∈ scope.names,y.2=.free→∃ i:Nat,G.N[i]? = some y.1∧(G.kd[i]? = some .cell∨G.kd[i]? = some .free)
 frs:∀ (j:Nat) (i:Nat),fr[j]? = some i→∃ x,G.N[i]? = some x∧G'.N[j]? = some x∧scope.names.lookup x=some .free∧(G.kd[i]? = some .cell∨G.kd[i]? = some .free)∧G'.kd[j]? = some (if (G.kd[i]? == some .cell)=true then .cell else .free)
 fle:fr.length≤G'.N.length
 tgs:∀ (j:Nat) (x:Str),fr.length≤j→G'.N[j]? = some x→scope.names.lookup x=some .local∧G'.kd[j]? = some .local
 noD:∀ x ∈ G'.N,(x == ("__debug__" : Str))=false∧(x == ("__classdict__" : Str))=false
 nod:G'.N.Nodup
 gl:∀ n ∈ G'.gl,∃ x,Z.name n=some x∧scope.names.lookup x=some .globalImplicit
theorem scOk_of {Z:Sg} {G:Gm} {scope:Scope} {G':Gm} {fr:List Nat} (h:chkScope Z G scope G' fr=true):ScOk Z G scope G' fr:=by
 unfold chkScope at h
 simp only[Bool.and_eq_true] at h
 obtain⟨⟨⟨⟨⟨⟨⟨⟨⟨⟨⟨⟨⟨h0,h1⟩,h1'⟩,h2⟩,h3⟩,h4⟩,h5⟩,h6⟩,h7⟩,h8⟩,h9⟩,h10⟩,h11⟩,h12⟩:=h
 rw[List.all_eq_true] at h4 h5 h6 h7 h9 h10 h12
 refine⟨h0,eq_of_beq h1,by simpa using h1',by simpa using h2,eq_of_beq h3,fun y hy=>by simpa using h4 y hy,fun y hy e=>?_,fun y hy e=>?_,fun j i e=>?_,of_decide_eq_true h8,fun j x hj e=>?_,fun x hx=>by simpa using h10 x hx,of_decide_eq_true h11,fun n hn=>?_⟩
 ·have:=h5 y hy
  rw[e] at this
  simpa using this
 ·have:=h6 y hy
  rw[e] at this
  simp only[bne_self_eq_false,Bool.false_or,List.any_eq_true,Bool.and_eq_true,Bool.or_eq_true] at this
  obtain⟨i,_,hi,hk⟩:=this
  exact⟨i,eq_of_beq hi,hk.elim (fun z=>.inl (eq_of_beq z)) fun z=>.inr (eq_of_beq z)⟩
 ·have hj:j < fr.length:=(List.getElem?_eq_some_iff.mp e).1
  have:=h7 j (List.mem_range.mpr hj)
  simp only[e,Option.bind_some,Bool.and_eq_true,Bool.or_eq_true] at this
  obtain⟨⟨⟨a1,a2⟩,a3⟩,a4⟩:=this
  have a1':=eq_of_beq a1
  have a2':=eq_of_beq a2
  cases q:G'.N[j]? with
  | none=>rw[q] at a2';cases a2'
  | some x=>
   rw[q] at a2' a1'
   exact⟨x,a1'.symm,rfl,a2',a3.elim (fun z=>.inl (eq_of_beq z)) fun z=>.inr (eq_of_beq z),eq_of_beq a4⟩
 ·have hlt:j < G'.N.length:=(List.getElem?_eq_some_iff.mp e).1
  have hm:j ∈ (List.range G'.N.length).drop fr.length:=by
   rw[List.mem_drop_iff_getElem]
   exact⟨j - fr.length,by simp;omega,by simp;omega⟩
  have:=h9 j hm
  rw[e] at this
  simp only[Option.bind_some,Bool.and_eq_true] at this
  exact⟨eq_of_beq this.1,eq_of_beq this.2⟩
 ·have:=h12 n hn
  cases q:Z.name n with
  | none=>rw[q] at this;cases this
  | some x=>
   rw[q] at this
   exact⟨x,rfl,eq_of_beq this⟩
noncomputable def frN (G:Gm) (fr:List Nat):List (Str×Nat):=fr.map fun i=>(G.N.getD i "",i)
theorem frN_N {scope:Scope} {G':Gm} {fr:List Nat} (s:ScOk Z G scope G' fr):(frN G fr).map (·.1)++G'.N.drop fr.length=G'.N:=by
 have e:(frN G fr).map (·.1)=G'.N.take fr.length:=by
  apply List.ext_getElem?
  intro j
  unfold frN
  rw[List.map_map,List.getElem?_map,List.getElem?_take]
  cases q:fr[j]? with
  | none=>
   have:¬ j < fr.length:=by
    intro z
    rw[List.getElem?_eq_getElem z] at q
    cases q
   rw[if_neg this]
   rfl
  | some i=>
   have:j < fr.length:=(List.getElem?_eq_some_iff.mp q).1
   rw[if_pos this]
   obtain⟨x,h1,h2,_⟩:=s.frs j i q
   rw[h2]
   show some (G.N.getD i "")=some x
   rw[List.getD_eq_getElem?_getD,h1]
   rfl
 rw[e,List.take_append_drop]
theorem compSc_of (g:GOk Z CX cl xp X ex G) (ok:X.Ok) {scope:Scope} {G':Gm} {fr:List Nat} (s:ScOk Z G scope G' fr):∃ cl',CompSc X scope cl' (frN G fr) (G'.N.drop fr.length):=by
 have hfree:∀ y ∈ scope.names,y.2=.free→∃ c,X.env.cells.lookup y.1=some c:=fun y hy hf=>by
  obtain⟨i,h1,h2⟩:=s.fre y hy hf
  have hk:=g.kd i y.1 h1
  exact ok.has y.1 (h2.elim (fun z=>.inl (hk.trans z)) fun z=>.inr (hk.trans z))
 obtain⟨cl',e1,e2,e3⟩:=closure_ex hfree
 refine⟨cl',e1,s.kind,s.nocell,s.loc,e2,fun x hx=>?_,fun p hp=>?_⟩
 ·have hl:=lookup_rl (env:=X.env) (x:=x) scope.names
  have hx':((scope.names.lookup x).map fun k=>if (k == NameKind.free && X.env.scope.kind == .function && X.env.kindOf x == some .cell)=true then NameKind.cell else k)=some .cell∨
    ((scope.names.lookup x).map fun k=>if (k == NameKind.free && X.env.scope.kind == .function && X.env.kindOf x == some .cell)=true then NameKind.cell else k)=some .free:=by
   rcases hx with hx | hx
   ·exact .inl (hl.symm.trans hx)
   ·exact .inr (hl.symm.trans hx)
  cases q:scope.names.lookup x with
  | none=>rw[q] at hx';rcases hx' with z | z<;>cases z
  | some k=>
   have hm:(x,k) ∈ scope.names:=PySem.mem_of_lookup q
   have hk:k=.free:=by
    rw[q] at hx'
    rcases hx' with z | z
    ·have z':(if (k == NameKind.free && X.env.scope.kind == .function && X.env.kindOf x == some .cell)=true then NameKind.cell else k)=.cell:=Option.some.inj z
     split at z'
     ·rename_i hc
      simp only[Bool.and_eq_true] at hc
      exact eq_of_beq hc.1.1
     ·exact absurd z' (s.nocell _ hm)
    ·have z':(if (k == NameKind.free && X.env.scope.kind == .function && X.env.kindOf x == some .cell)=true then NameKind.cell else k)=.free:=Option.some.inj z
     split at z'
     ·cases z'
     ·exact z'
   exact e3 (x,k) hm hk
 ·unfold frN at hp
  rw[List.mem_map] at hp
  obtain⟨i,hi,rfl⟩:=hp
  obtain⟨j,hj⟩:=List.getElem?_of_mem hi
  obtain⟨x,h1,h2,h3,h4,h5⟩:=s.frs j i hj
  have hn:G.N.getD i "" = x:=by rw[List.getD_eq_getElem?_getD,h1];rfl
  show X.N[i]? = some (G.N.getD i "")∧_
  rw[hn]
  have hk:=g.kd i x h1
  refine⟨by rw[g.N];exact h1,h4.elim (fun z=>.inl (hk.trans z)) fun z=>.inr (hk.trans z),?_⟩
  have hl:=lookup_rl (env:=X.env) (x:=x) scope.names
  rw[h3] at hl
  have hl':(relabel scope X.env).names.lookup x=some (if (NameKind.free == NameKind.free && X.env.scope.kind == .function && X.env.kindOf x == some .cell)=true then NameKind.cell else NameKind.free):=hl
  rw[hl']
  split
  ·exact .inl rfl
  ·exact .inr rfl
theorem gok_comp (g:GOk Z CX cl xp X ex G) {scope:Scope} {G':Gm} {fr:List Nat} (s:ScOk Z G scope G' fr) (cl':List (Str×Addr)) (C:Addr) (s3:Shared) (H3:Hp) (fp:List Addr) :
  GOk Z CX cl xp (cxC X scope cl' ((frN G fr).map (·.1)++G'.N.drop fr.length) C s3 H3 fp) (fun _=>False) G' where
 N:=frN_N s
 nod:=s.nod
 calm:=fun _=>g.calm s.cm
 fk:=s.kind
 un:=g.un
 own:=fun _=>PassesOwn.never
 kd:=fun j x hx=>by
  show (relabel scope X.env).names.lookup x=_
  have hl:=lookup_rl (env:=X.env) (x:=x) scope.names
  by_cases hj:j < fr.length
  ·obtain⟨y,h1,h2,h3,h4,h5⟩:=s.frs j fr[j] (by simp[hj])
   rw[hx] at h2
   cases h2
   rw[h3] at hl
   rw[h5]
   refine hl.trans ?_
   have hk:=g.kd fr[j] x h1
   show some (if (NameKind.free == NameKind.free && X.env.scope.kind == .function && X.env.kindOf x == some .cell)=true then NameKind.cell else NameKind.free)=_
   rw[hk,g.fk]
   rfl
  ·obtain⟨h1,h2⟩:=s.tgs j x (by omega) hx
   rw[h1] at hl
   rw[h2]
   exact hl
 noD:=fun j x hx=>s.noD x (List.mem_of_getElem? hx)
 gl:=fun n hn x e=>by
  obtain⟨y,h1,h2⟩:=s.gl n hn
  rw[e] at h1
  cases h1
  show (relabel scope X.env).names.lookup x=_
  have hl:=lookup_rl (env:=X.env) (x:=x) scope.names
  rw[h2] at hl
  exact hl
 nam:=g.nam
 df:=fun z=>by rw[s.df] at z;cases z
 blt:=g.blt
 cst:=g.cst
 fns:=fun f hf _ x hx=>g.fns f hf (.inl s.cm) x hx
 xcv:=g.xcv
 xcl:=g.xcl
 xmt:=g.xmt
 xrs:=g.xrs
 rse:=fun _ pins σ H s c C h' e vs _ z=>z.elim
 tr:=fun z=>by rw[s.tr] at z;cases z
 exs:=⟨fun _ _ _=>False,fun pins σ H s e s' _ h=>(g.exn _ _ _ _ _ h).elim,fun c _ z=>z.elim⟩
 hid:=g.hid
 exn:=g.exn
end
end L2
namespace L2
open PySem PySem.Spec PyProof.Rows PySem.SeqAt
noncomputable abbrev nox:Str→Prop:=fun _=>False
theorem PO'.noX {α:Type} {ex:Str→Prop} {x:Res α} {k:α→Prop} (h:PO' ex (L2.noX x) k):PO' nox x k:=by
 cases x with
 | ok a=>exact h
 | error e=>exact False.elim h
section
variable {K:PySem.W.Frag} {S:Addr→Prop} {H:Hp} {σ:St} {τ:Ev} {ex:Str→Prop} {cl:Nat→List D→Res D} {G G':Gm} {fr:List Nat}
noncomputable def blk (G':Gm) (fr:List Nat) (τ:Ev):Ev:=fr.map (slotD τ)++List.replicate (G'.N.length - fr.length) none
theorem blk_len (hl:fr.length≤G'.N.length):(blk G' fr τ).length=G'.N.length:=by
 unfold blk
 rw[List.length_append,List.length_map,List.length_replicate]
 omega
theorem stC_len (Tg:List Str) (σ:St):(stC (frN G fr) Tg σ).length=fr.length + Tg.length:=by
 unfold stC frN
 rw[List.length_append,List.length_map,List.length_map,List.length_replicate]
theorem blk_slot {j:Nat} {d:D} (h:slotD (blk G' fr τ) j=some d):∃ i,fr[j]? = some i∧slotD τ i=some d:=by
 unfold slotD blk at h
 by_cases hj:j < fr.length
 ·rw[List.getElem?_append_left (by simpa using hj),List.getElem?_map,List.getElem?_eq_getElem hj] at h
  exact⟨fr[j],by simp[hj],h⟩
 ·rw[List.getElem?_append_right (by simpa using hj),List.getElem?_replicate] at h
  split at h<;>cases h
theorem blk_sla {vs:List Nat} {σ':St} (hl:fr.length≤G'.N.length) (hs:Slots K S H σ τ (fr++vs)) (hn:σ'.length=G'.N.length) (hσ:∀ j,j < fr.length→σ'[j]? = (stC (frN G fr) (G'.N.drop fr.length) σ)[j]?):SlA K S H σ' (blk G' fr τ):=by
 refine⟨by rw[blk_len hl,hn],fun j d h=>?_⟩
 obtain⟨i,hi,hd⟩:=blk_slot h
 have hj:j < fr.length:=(List.getElem?_eq_some_iff.mp hi).1
 obtain⟨v,h1,h2⟩:=hs i (List.mem_append_left _ (List.mem_of_getElem? hi)) d hd
 refine⟨v,?_,h2⟩
 rw[hσ j hj]
 unfold stC frN
 rw[List.getElem?_append_left (by simpa using hj),List.getElem?_map,List.getElem?_map,hi]
 show some ((σ[i]?).join)=some (some v)
 rw[h1]
 rfl
noncomputable def bodyM (cl:Nat→List D→Res D) (T:Tg) (I:List IR) (E:IR) (τ0:Ev) (x:D):Res (Option D):=bnd (setT T x τ0) fun τ1=>bnd (evTs cl I τ1) fun r=>if r=true then bnd (evR cl E τ1) fun d=>.ok (some d) else .ok none
theorem comp_core {vs:List Nat} {fs:Ev→Res (List D)} {T:Tg} {I:List IR} {E:IR} {Kt:D→Prop} {Q:VK} (hl:fr.length≤G'.N.length) (ha:∀ i ∈ tgs T,fr.length≤i) (hs:Slots K S H σ τ (fr++vs))
  (q:PO' ex (bnd (fs τ) fun its=>grd (szLt its.length) (bnd (noX (fmapM (bodyM cl T I E (blk G' fr τ)) its)) fun ds=>.ok (.lst true ds))) Kt)
  (fin:∀ A ys ds H',Same H H'→H A=none→H' A=some (.lst ys)→HReps K (fun a=>nw S H a∧a≠A) H' ys ds→Kt (.lst true ds)→Q (.ref A) H') :
  tCmpr (RI K ex vs fs) (stC (frN G fr) (G'.N.drop fr.length)) (gT K T) (RT K nox (varss I) (evTs cl I)) (RD K nox (vars E) (evR cl E)) σ H Q:=by
 refine riAt (.refl _) hs.right (PO'.bnd q) fun its J H1 e1 _ w1 q1 A hA=>?_
 obtain⟨gd,q1⟩:=PO'.grd q1
 have q2:=PO'.noX (PO'.bnd q1)
 have hsz:=szLt_lt gd
 have hHA:H A=none:=e1.free hA
 -- what is read stands apart from the new list
 have tight:∀ a,nw S H a→H1 a≠none→nw S H a∧a≠A:=fun a h1 h2=>⟨h1,fun z=>h2 (by rw[z];exact hA)⟩
 have w2:Wlk K (fun a=>nw S H a∧a≠A) H1 J its:=w1.step (fun a xs h r=>⟨tight a h r.some,r⟩) fun a xs h=>h
 have hs2:Slots K (fun a=>nw S H a∧a≠A) H1 σ τ (fr++vs):=fun i hi d z=>by
  obtain⟨v,h1,h2⟩:=(hs.go e1) i hi d z
  exact⟨v,h1,h2.step (fun a xs h r=>⟨tight a h r.some,r⟩) fun a xs h=>h⟩
 refine⟨fun i m σ' H'=>m=its.length - i∧i≤its.length∧∃ ys acc,H' A=some (.lst ys)∧HReps K (fun a=>nw S H a∧a≠A) H' ys acc∧ys.length≤i∧Same H1 H'∧σ'.length=G'.N.length∧
   (∀ j,j < fr.length→σ'[j]? = (stC (frN G fr) (G'.N.drop fr.length) σ)[j]?)∧PO' nox (fmapM (bodyM cl T I E (blk G' fr τ)) (its.drop i)) fun ds=>Kt (.lst true (acc++ds)),⟨its.length,by simp,Nat.zero_le _,[],[],upd_same,.nil,Nat.le_refl _,.upd hA,?_,fun _ _=>rfl,?_⟩,?_⟩
 ·rw[stC_len,List.length_drop];omega
 ·rw[List.drop_zero]
  exact q2.mono fun ds z=>z.ok
 ·rintro i m σ' H' ⟨rfl,hi,ys,acc,hy,my,ly,e2,hn,hσ,q3⟩
  by_cases hlt:i < its.length
  ·refine .inr ⟨(w2.mono (fun _ z=>z) e2).go hlt,fun x H2 hy2=>?_⟩
   obtain⟨eH,mx⟩:=(w2.mono (fun _ z=>z) e2).yld hy2 (d:=its[i]) (by simp[hlt])
   have hy:=eH _ _ hy
   have my:=my.mono (fun _ z=>z) eH
   have e2:=e2.trans eH
   have hd:its.drop i=its[i]::its.drop (i + 1):=List.drop_eq_getElem_cons hlt
   rw[hd] at q3
   have q4:=PO'.bnd q3
   have q5:PO' nox (setT T its[i] (blk G' fr τ)) _:=PO'.bnd q4
   have sl:SlA K (fun a=>nw S H a∧a≠A) H2 σ' (blk G' fr τ):=blk_sla (G:=G) (vs:=vs) (σ:=σ) hl (fun i hi d z=>by
    obtain⟨v,h1,h2⟩:=hs2 i hi d z
    exact⟨v,h1,h2.mono (fun _ z=>z) e2⟩) hn hσ
   refine gT_read T sl mx q5 fun τ' σ2 sl2 hn' hk q6=>?_
   have hn2:σ2.length=G'.N.length:=hn'.trans hn
   have hσ2:∀ j,j < fr.length→σ2[j]? = (stC (frN G fr) (G'.N.drop fr.length) σ)[j]?:=fun j hj=>by
    rw[hk j (fun z=>by have:=ha j z;omega)]
    exact hσ j hj
   have sl3:∀ is,Slots K (fun a=>nw S H a∧a≠A) H2 σ2 τ' is:=fun is i _ d z=>sl2.2 i d z
   refine rtAt (.refl _) (sl3 _) (PO'.bnd q6) fun r H4 e4 _ q7=>?_
   cases r with
   | false=>
    rw[if_neg Bool.false_ne_true] at q7 ⊢
    have q8:PO' nox (fmapM (bodyM cl T I E (blk G' fr τ)) (its.drop (i + 1))) fun ds=>Kt (.lst true (acc++ds)):=q7
    refine⟨its.length - (i + 1),by omega,rfl,hlt,ys,acc,e4 _ _ hy,my.mono (fun _ z=>z) e4,by omega,e2.trans e4,hn2,hσ2,q8⟩
   | true=>
    rw[if_pos rfl] at q7 ⊢
    refine rdAt e4 (sl3 _) (PO'.bnd q7) fun d v H5 e5 e5' m5 q8=>?_
    have q9:PO' nox (bnd (fmapM (bodyM cl T I E (blk G' fr τ)) (its.drop (i + 1))) fun r=>.ok (d::r)) fun ds=>Kt (.lst true (acc++ds)):=q8
    have q10:=PO'.bnd q9
    have hy5:H5 A=some (.lst ys):=e5 _ _ hy
    refine⟨ys,hy5,by omega,its.length - (i + 1),by omega,rfl,hlt,ys++[v],acc++[d],upd_same,?_,by rw[List.length_append,List.length_singleton];omega,?_,hn2,hσ2,?_⟩
    ·have hl5:∀ a xs,(nw S H a∧a≠A)→Rd H5 a (.lst xs)→(nw S H a∧a≠A)∧Rd (upd H5 A (.lst (ys++[v]))) a (.lst xs):=fun a xs h r=>by
      refine⟨h,?_⟩
      unfold Rd
      rw[upd_ne h.2]
      exact r
     have ht5:∀ a xs,SqE K H5 a xs→SqE K (upd H5 A (.lst (ys++[v]))) a xs:=fun a xs h=>h.upd hy5
     have m6:HRep K (fun a=>nw S H a∧a≠A) H5 v d:=m5.step (fun a xs h r=>⟨by
      rcases h with h | h
      ·exact h
      ·have:H a=none:=e1.free (e2.free h)
       exact⟨.inr this,fun z=>by rw[z,hy] at h;cases h⟩,r⟩) fun a xs h=>h
     exact(((my.mono (fun _ z=>z) e5).step hl5 ht5)).append (.cons (m6.step hl5 ht5) .nil)
    ·exact fun b o hb=>by
      have:b≠A:=by rintro rfl;rw[hA] at hb;cases hb
      rw[upd_ne this]
      exact e5 _ _ (e2 _ _ hb)
    ·refine q10.mono fun ds z=>?_
     have z':=z.ok
     rw[List.append_assoc]
     exact z'
  ·have e:i=its.length:=by omega
   subst e
   refine .inl ⟨(w2.mono (fun _ z=>z) e2).stop (Nat.le_refl _),?_⟩
   rw[List.drop_length] at q3
   have q4:=q3.ok
   rw[List.append_nil] at q4
   exact fin A ys acc H' (e1.trans e2) hHA hy my q4
end
section
variable {Z:Sg} {CX:CXT} {cl:Nat→List D→Res D} {xp:XK→Hp→Str→Prop} {X:Cx} {ex:Str→Prop} {G G':Gm} {fr:List Nat}
theorem evR_comp {T:Tg} {s:Sr} {I:List IR} {E:IR}:evR cl (.comp G' fr T s I E)=fun τ=>bnd (evSr cl s τ) fun its=>grd (szLt its.length) (bnd (noX (fmapM (bodyM cl T I E (blk G' fr τ)) its)) fun ds=>.ok (.lst true ds)):=rfl
theorem s_comp (g:GOk Z CX cl xp X ex G) {scope:Scope} {tg iter elt:Expr} {ifs:List Expr} {pos:Pos} {T:Tg} {s:Sr} {I:List IR} {E:IR} (hs:ScOk Z G scope G' fr) (hT:chkT G' T tg=true) (ha:∀ i ∈ tgs T,fr.length≤i)
  (hi:PI X tg iter (RI X.K ex (varsS s) (evSr cl s))) (ht:∀ X',GOk Z CX cl xp X' nox G'→PTs X' ifs (RT X'.K nox (varss I) (evTs cl I))) (he:∀ X',GOk Z CX cl xp X' nox G'→PE X' elt (RD X'.K nox (vars E) (evR cl E)))
  (hf:∀ x,foldedSetIterable iter X.env x=pure x):PE X (.ListComp elt [⟨tg,iter,ifs,0⟩] scope pos) (RD X.K ex (fr++varsS s) (evR cl (.comp G' fr T s I E))):=by
 intro pins s' σ H Q Iv h
 obtain⟨cl',S⟩:=compSc_of g Iv.ok hs
 have p:=pe_comp (pos:=pos) (elt:=elt) (ifs:=ifs) (tg:=tg) (g:=gT X.K T) (tt:=RT X.K nox (varss I) (evTs cl I)) (te:=RD X.K nox (vars E) (evR cl E)) (g.calm hs.cm) S hi (fun C s H fp=>pgT (gok_comp g hs cl' C s H fp) T tg hT) (fun C s H fp=>ht _ (gok_comp g hs cl' C s H fp)) (fun C s H fp=>he _ (gok_comp g hs cl' C s H fp)) hf
 refine p pins s' σ H Q Iv ?_
 obtain⟨S0,τ,hsl,q⟩:=h
 rw[evR_comp] at q
 exact comp_core hs.fle ha hsl q fun A ys ds H' e hA hA' m k=>k _ _ e (.lst (.inr hA) (.inl hA') (m.mono (fun _ z=>z.1) (.refl _)))
end
end L2
namespace L2
open PySem PySem.Spec PyProof.Rows PySem.SeqAt
section
variable {Z:Sg} {CX:CXT} {cl:Nat→List D→Res D} {xp:XK→Hp→Str→Prop}
theorem folded_of {e:Expr} {a:IR} {G:Gm} (h:chk Z G a e=true) (env:Env) (x:Value):foldedSetIterable e env x=pure x:=by
 cases e<;>first | rfl | (cases a<;>cases h)
theorem folded_src {e:Expr} {a:Sr} {G:Gm} (h:chkSr Z G a e=true) (env:Env) (x:Value):foldedSetIterable e env x=pure x:=by
 cases a with
 | val a=>exact folded_of (show chk Z G a e=true from h) env x
 | _=>cases e<;>first | rfl | cases h
theorem both {X:Cx} {ex:Str→Prop} {e:Expr} {is:List Nat} {f:Ev→Res D} (h:PE X e (RD X.K ex is f)) (he:∀ whole,isTrue e X.env whole=(do let v ← whole;standAt e.pos;holding [v] (truthy v)):=by intro _;rfl) :
  PE X e (RD X.K ex is f)∧PT X e (RT X.K ex is fun τ=>bnd (f τ) truD):=⟨h,pt_of h he⟩
mutual
theorem snd:∀ (a:IR) (X:Cx) (ex:Str→Prop) (G:Gm) (e:Expr),GOk Z CX cl xp X ex G→chk Z G a e=true→PE X e (RD X.K ex (vars a) (evR cl a))∧PT X e (RT X.K ex (vars a) fun τ=>bnd (evR cl a τ) truD)
 | .c d,X,ex,G,e,g,h=>by
  cases e with
  | Constant k j pos=>exact both (s_c h)
  | _=>first | exact no_h h | cases h
 | .g n d,X,ex,G,e,g,h=>by
  cases e with
  | Name x pos=>
   have h':(chkG Z G n x && Z.kst.any fun p=>p.1 == n && dbeq p.2 d)=true:=h
   rw[Bool.and_eq_true] at h'
   exact both (s_g g h'.1 h'.2)
  | _=>first | exact no_h h | cases h
 | .v i,X,ex,G,e,g,h=>by
  cases e with
  | Name x pos=>exact both (s_v g h)
  | _=>first | exact no_h h | cases h
 | .bin op a b,X,ex,G,e,g,h=>by
  cases e with
  | BinOp l o r pos=>
   have h':(o == bop op && chk Z G a l && chk Z G b r)=true:=h
   simp only[Bool.and_eq_true] at h'
   have e1:o=bop op:=eq_of_beq h'.1.1
   subst e1
   exact both (s_bin (snd a X ex G l g h'.1.2).1 (snd b X ex G r g h'.2).1)
  | _=>first | exact no_h h | cases h
 | .neg a,X,ex,G,e,g,h=>by
  cases e with
  | UnaryOp o l pos=>
   cases o with
   | USub=>exact both (s_neg (snd a X ex G l g h).1)
   | _=>first | exact no_h h | cases h
  | _=>first | exact no_h h | cases h
 | .cmp op a b,X,ex,G,e,g,h=>by
  cases e with
  | Compare l os rs pos=>
   match os,rs,h with
   | [o],[r],h=>
    have h':(o == cop op && chk Z G a l && chk Z G b r && !behindInMarks o r)=true:=h
    simp only[Bool.and_eq_true] at h'
    have e1:o=cop op:=eq_of_beq h'.1.1.1
    subst e1
    exact s_cmp g (snd a X ex G l g h'.1.1.2).1 (snd b X ex G r g h'.1.2).1 (by simpa using h'.2)
   | [],_,h=>first | exact no_h h | cases h
   | [_],[],h=>first | exact no_h h | cases h
   | [_],_::_::_,h=>first | exact no_h h | cases h
   | _::_::_,_,h=>first | exact no_h h | cases h
  | _=>first | exact no_h h | cases h
 | .chain op op' a b c,X,ex,G,e,g,h=>by
  cases e with
  | Compare l os rs pos=>
   match os,rs,h with
   | [o,o'],[m,r],h=>
    have h':(o == cop op && o' == cop op' && chk Z G a l && chk Z G b m && chk Z G c r && !lastMarks [o,o'] [m,r])=true:=h
    simp only[Bool.and_eq_true] at h'
    have e1:o=cop op:=eq_of_beq h'.1.1.1.1.1
    have e2:o'=cop op':=eq_of_beq h'.1.1.1.1.2
    subst e1 e2
    exact s_chain g (snd a X ex G l g h'.1.1.1.2).1 (snd b X ex G m g h'.1.1.2).1 (snd c X ex G r g h'.1.2).1 (by simpa using h'.2)
   | [],_,h=>first | exact no_h h | cases h
   | [_],_,h=>first | exact no_h h | cases h
   | [_,_],[],h=>first | exact no_h h | cases h
   | [_,_],[_],h=>first | exact no_h h | cases h
   | [_,_],_::_::_::_,h=>first | exact no_h h | cases h
   | _::_::_::_,_,h=>first | exact no_h h | cases h
  | _=>first | exact no_h h | cases h
 | .and_ a b,X,ex,G,e,g,h=>by
  cases e with
  | BoolOp o es pos=>
   match o,es,h with
   | .And,[l,r],h=>
    have h':(chk Z G a l && chk Z G b r)=true:=h
    rw[Bool.and_eq_true] at h'
    obtain⟨pa,ta⟩:=snd a X ex G l g h'.1
    obtain⟨pb,tb⟩:=snd b X ex G r g h'.2
    exact⟨s_and pa (pe_one pb),t_and ta (pw_and1 tb)⟩
   | .And,l::r::r'::rest,h=>
    have h':(chk Z G a l && chk Z G b (.BoolOp .And (r::r'::rest) pos))=true:=h
    rw[Bool.and_eq_true] at h'
    obtain⟨pa,ta⟩:=snd a X ex G l g h'.1
    obtain⟨pb,tb⟩:=snd b X ex G _ g h'.2
    exact⟨s_and pa pb,t_and ta (pt_any (e:=l) tb)⟩
   | .And,[],h=>first | exact no_h h | cases h
   | .And,[_],h=>first | exact no_h h | cases h
   | .Or,_,h=>first | exact no_h h | cases h
  | _=>first | exact no_h h | cases h
 | .or_ a b,X,ex,G,e,g,h=>by
  cases e with
  | BoolOp o es pos=>
   match o,es,h with
   | .Or,[l,r],h=>
    have h':(chk Z G a l && chk Z G b r)=true:=h
    rw[Bool.and_eq_true] at h'
    obtain⟨pa,ta⟩:=snd a X ex G l g h'.1
    obtain⟨pb,tb⟩:=snd b X ex G r g h'.2
    exact⟨s_or pa (pe_one pb),t_or ta (pw_or1 tb)⟩
   | .Or,l::r::r'::rest,h=>
    have h':(chk Z G a l && chk Z G b (.BoolOp .Or (r::r'::rest) pos))=true:=h
    rw[Bool.and_eq_true] at h'
    obtain⟨pa,ta⟩:=snd a X ex G l g h'.1
    obtain⟨pb,tb⟩:=snd b X ex G _ g h'.2
    exact⟨s_or pa pb,t_or ta (pt_any (e:=l) tb)⟩
   | .Or,[],h=>first | exact no_h h | cases h
   | .Or,[_],h=>first | exact no_h h | cases h
   | .And,_,h=>first | exact no_h h | cases h
  | _=>first | exact no_h h | cases h
 | .not_ a,X,ex,G,e,g,h=>by
  cases e with
  | UnaryOp o l pos=>
   cases o with
   | Not=>
    obtain⟨pa,ta⟩:=snd a X ex G l g h
    exact s_not pa ta
   | _=>first | exact no_h h | cases h
  | _=>first | exact no_h h | cases h
 | .ite t a b,X,ex,G,e,g,h=>by
  cases e with
  | IfExp c x y pos=>
   have h':(chk Z G t c && chk Z G a x && chk Z G b y)=true:=h
   simp only[Bool.and_eq_true] at h'
   obtain⟨pa,ta⟩:=snd a X ex G x g h'.1.2
   obtain⟨pb,tb⟩:=snd b X ex G y g h'.2
   exact s_ite (snd t X ex G c g h'.1.1).2 pa pb ta tb
  | _=>first | exact no_h h | cases h
 | .tup es,X,ex,G,e,g,h=>by
  cases e with
  | Tuple l n pos=>exact both (s_tup (snds es X ex G l g h))
  | _=>first | exact no_h h | cases h
 | .lst es,X,ex,G,e,g,h=>by
  cases e with
  | List l pos=>exact both (s_lst (snds es X ex G l g h))
  | _=>first | exact no_h h | cases h
 | .idx a i,X,ex,G,e,g,h=>by
  cases e with
  | Subscript o s pos=>
   have h':(notSlice s && chk Z G a o && chk Z G i s)=true:=by
    cases s<;>first | exact h | (rename_i l u st p;cases st<;>exact h)
   simp only[Bool.and_eq_true] at h'
   exact both (s_idx (snd a X ex G o g h'.1.2).1 (snd i X ex G s g h'.2).1 h'.1.1)
  | _=>first | exact no_h h | cases h
 | .sl a lo hi,X,ex,G,e,g,h=>by
  cases e with
  | Subscript o s pos=>
   match s,h with
   | .Slice l u none p,h=>
    have h':(chk Z G a o && chkO Z G lo l && chkO Z G hi u)=true:=h
    simp only[Bool.and_eq_true] at h'
    exact both (s_sl (snd a X ex G o g h'.1.1).1 (sndO lo X ex G l g h'.1.2) (sndO hi X ex G u g h'.2))
   | .Slice _ _ (some _) _,h=>first | exact no_h h | cases h
   | .BoolOp ..,h=>first | exact no_h h | cases h
   | .NamedExpr ..,h=>first | exact no_h h | cases h
   | .BinOp ..,h=>first | exact no_h h | cases h
   | .UnaryOp ..,h=>first | exact no_h h | cases h
   | .Lambda ..,h=>first | exact no_h h | cases h
   | .IfExp ..,h=>first | exact no_h h | cases h
   | .Dict ..,h=>first | exact no_h h | cases h
   | .Set ..,h=>first | exact no_h h | cases h
   | .ListComp ..,h=>first | exact no_h h | cases h
   | .SetComp ..,h=>first | exact no_h h | cases h
   | .DictComp ..,h=>first | exact no_h h | cases h
   | .GeneratorExp ..,h=>first | exact no_h h | cases h
   | .Await ..,h=>first | exact no_h h | cases h
   | .Yield ..,h=>first | exact no_h h | cases h
   | .YieldFrom ..,h=>first | exact no_h h | cases h
   | .Compare ..,h=>first | exact no_h h | cases h
   | .Call ..,h=>first | exact no_h h | cases h
   | .FormattedValue ..,h=>first | exact no_h h | cases h
   | .JoinedStr ..,h=>first | exact no_h h | cases h
   | .Constant ..,h=>first | exact no_h h | cases h
   | .Attribute ..,h=>first | exact no_h h | cases h
   | .Subscript ..,h=>first | exact no_h h | cases h
   | .Starred ..,h=>first | exact no_h h | cases h
   | .Name ..,h=>first | exact no_h h | cases h
   | .List ..,h=>first | exact no_h h | cases h
   | .Tuple ..,h=>first | exact no_h h | cases h
  | _=>first | exact no_h h | cases h
 | .call f es,X,ex,G,e,g,h=>by
  cases e with
  | Call fn args kws pos=>
   cases fn with
   | Name x p=>
    cases kws with
    | nil=>
     have h':(chkG Z G f x && Z.fnc G f && chks Z G es args)=true:=h
     simp only[Bool.and_eq_true] at h'
     exact both (s_call g h'.1.1 h'.1.2 h'.2 (snds es X ex G args g h'.2))
    | cons _ _=>first | exact no_h h | cases h
   | _=>first | exact no_h h | cases h
  | _=>first | exact no_h h | cases h
 | .bi f es,X,ex,G,e,g,h=>by
  cases e with
  | Call fn args kws pos=>
   cases fn with
   | Name x p=>
    cases kws with
    | nil=>
     cases args with
     | nil=>first | exact no_h h | cases h
     | cons a args=>
      have h':(x == biName f && G.glc (biNum f) && chks Z G es (a::args))=true:=h
      simp only[Bool.and_eq_true] at h'
      have e1:x=biName f:=eq_of_beq h'.1.1
      subst e1
      exact both (s_bi g h'.1.2 h'.2 (snds es X ex G _ g h'.2))
    | cons _ _=>cases args<;>first | exact no_h h | cases h
   | _=>first | exact no_h h | cases h
  | _=>first | exact no_h h | cases h
 | .lrev a,X,ex,G,e,g,h=>by cases e<;>exact no_h h
 | .ftr x a y,X,ex,G,e,g,h=>by
  have h:jrv e (fun x' e' y'=>x == x' && y == y' && decide (x.length≤1000) && chk Z G a e')=true:=by cases e<;>exact h
  obtain⟨x',e',y',h,he⟩:=jrv_ok h
  simp only[Bool.and_eq_true] at h
  have e1:=eq_of_beq h.1.1.1
  have e2:=eq_of_beq h.1.1.2
  subst e1 e2
  have pe:=s_ftr (of_decide_eq_true h.1.2) he (snd a X ex G e' g h.2).1
  rcases he with ⟨j,p,q,pos,_,rfl⟩ | ⟨w,j,p,q,j',r,pos,_,rfl⟩
  ·exact both pe
  ·exact both pe
 | .isx a ns tb,X,ex,G,e,g,h=>by
  cases e with
  | Call fn args kws pos=>
   cases fn with
   | Name x p=>
    match args,kws,h with
    | [o,y],[],h=>
     have h':(x == "isinstance" && G.gl.contains 14 && notStar o && chkCl Z G ns y && tb.all (tbOk Z ns) && chk Z G a o)=true:=h
     simp only[Bool.and_eq_true] at h'
     have e1:x = "isinstance":=eq_of_beq h'.1.1.1.1.1
     subst e1
     exact both (s_isx g h'.1.1.1.1.2 h'.1.1.1.2 h'.1.1.2 h'.1.2 (snd a X ex G o g h'.2).1)
    | [],_,h=>first | exact no_h h | cases h
    | [_],_,h=>first | exact no_h h | cases h
    | _::_::_::_,k,h=>cases k<;>first | exact no_h h | cases h
    | [_,_],_::_,h=>first | exact no_h h | cases h
   | _=>first | exact no_h h | cases h
  | _=>first | exact no_h h | cases h
 | .isi a k,X,ex,G,e,g,h=>by
  cases e with
  | Call fn args kws pos=>
   cases fn with
   | Name x p=>
    match args,kws,h with
    | [o,.Name y p'],[],h=>
     have h':(x == "isinstance" && G.gl.contains 14 && y == kdName k && G.gl.contains (kdNum k) && notStar o && chk Z G a o)=true:=h
     simp only[Bool.and_eq_true] at h'
     have e1:x = "isinstance":=eq_of_beq h'.1.1.1.1.1
     have e2:y=kdName k:=eq_of_beq h'.1.1.1.2
     subst e1 e2
     exact both (s_isi g h'.1.1.1.1.2 h'.1.1.2 h'.1.2 (snd a X ex G o g h'.2).1)
    | [],_,h=>first | exact no_h h | cases h
    | [_],_,h=>first | exact no_h h | cases h
    | _::b::_::_,k,h=>cases b<;>cases k<;>first | exact no_h h | cases h
    | [_,.Name _ _],_::_,h=>first | exact no_h h | cases h
    | [_,.BoolOp ..],_,h=>first | exact no_h h | cases h
    | [_,.NamedExpr ..],_,h=>first | exact no_h h | cases h
    | [_,.BinOp ..],_,h=>first | exact no_h h | cases h
    | [_,.UnaryOp ..],_,h=>first | exact no_h h | cases h
    | [_,.Lambda ..],_,h=>first | exact no_h h | cases h
    | [_,.IfExp ..],_,h=>first | exact no_h h | cases h
    | [_,.Dict ..],_,h=>first | exact no_h h | cases h
    | [_,.Set ..],_,h=>first | exact no_h h | cases h
    | [_,.ListComp ..],_,h=>first | exact no_h h | cases h
    | [_,.SetComp ..],_,h=>first | exact no_h h | cases h
    | [_,.DictComp ..],_,h=>first | exact no_h h | cases h
    | [_,.GeneratorExp ..],_,h=>first | exact no_h h | cases h
    | [_,.Await ..],_,h=>first | exact no_h h | cases h
    | [_,.Yield ..],_,h=>first | exact no_h h | cases h
    | [_,.YieldFrom ..],_,h=>first | exact no_h h | cases h
    | [_,.Compare ..],_,h=>first | exact no_h h | cases h
    | [_,.Call ..],_,h=>first | exact no_h h | cases h
    | [_,.FormattedValue ..],_,h=>first | exact no_h h | cases h
    | [_,.JoinedStr ..],_,h=>first | exact no_h h | cases h
    | [_,.Constant ..],_,h=>first | exact no_h h | cases h
    | [_,.Attribute ..],_,h=>first | exact no_h h | cases h
    | [_,.Subscript ..],_,h=>first | exact no_h h | cases h
    | [_,.Starred ..],_,h=>first | exact no_h h | cases h
    | [_,.Slice ..],_,h=>first | exact no_h h | cases h
    | [_,.List ..],_,h=>first | exact no_h h | cases h
    | [_,.Tuple ..],_,h=>first | exact no_h h | cases h
   | _=>first | exact no_h h | cases h
  | _=>first | exact no_h h | cases h
 | .mth m o es,X,ex,G,e,g,h=>by
  cases e with
  | Call fn args kws pos=>
   cases fn with
   | Attribute oe name apos=>
    match args,kws,h with
    | a::args,[],h=>
     have h':(name == mtName m && notCall0 oe && apos.endLine == pos.line && (decide ((a::args).length < 29) && (G.cm || isJoin m)) && chk Z G o oe && chks Z G es (a::args))=true:=h
     simp only[Bool.and_eq_true] at h'
     have e1:name=mtName m:=eq_of_beq h'.1.1.1.1.1
     subst e1
     exact both (s_mth g h'.1.1.1.1.2 h'.1.1.1.2 (of_decide_eq_true h'.1.1.2.1) h'.1.1.2.2 h'.2 (snd o X ex G oe g h'.1.2).1 (snds es X ex G _ g h'.2))
    | [],_,h=>first | exact no_h h | cases h
    | _::_,_::_,h=>first | exact no_h h | cases h
   | _=>first | exact no_h h | cases h
  | _=>first | exact no_h h | cases h
 | .comp G' fr tg src ifs elt,X,ex,G,e,g,h=>by
  cases e with
  | ListComp el gens scope pos=>
   have h:gen1 gens (fun t it fs=>chkScope Z G scope G' fr && chkT G' tg t && (tgs tg).all (fun i=>decide (fr.length≤i)) && (chkSr Z G src it && srOk src t) && chks Z G' ifs fs && chk Z G' elt el)=true:=h
   obtain⟨t,it,fs,rfl,h⟩:=gen1_ok h
   have h':(chkScope Z G scope G' fr && chkT G' tg t && (tgs tg).all (fun i=>decide (fr.length≤i)) && (chkSr Z G src it && srOk src t) && chks Z G' ifs fs && chk Z G' elt el)=true:=h
   simp only[Bool.and_eq_true] at h'
   exact both (s_comp g (scOk_of h'.1.1.1.1.1) h'.1.1.1.1.2 (fun i hi=>of_decide_eq_true (List.all_eq_true.mp h'.1.1.1.2 i hi)) (sndS src X ex G it t g h'.1.1.2.1 h'.1.1.2.2)
    (fun X' g'=>sndT ifs X' nox G' fs g' h'.1.2) (fun X' g'=>(snd elt X' nox G' el g' h'.2).1) (fun x=>folded_src h'.1.1.2.1 X.env x))
  | _=>first | exact no_h h | cases h
theorem snds:∀ (as:List IR) (X:Cx) (ex:Str→Prop) (G:Gm) (l:List Expr),GOk Z CX cl xp X ex G→chks Z G as l=true→PA X l (RA X.K ex (varss as) (evRs cl as))
 | [],X,ex,G,l,g,h=>by
  cases l with
  | nil=>exact paMono pa_nil fun σ H Q ⟨S,τ,hs,q⟩=>q.ok _ _ (.refl _) .nil
  | cons _ _=>first | exact no_h h | cases h
 | a::as,X,ex,G,l,g,h=>by
  cases l with
  | nil=>first | exact no_h h | cases h
  | cons e l=>
   have h':(notStar e && chk Z G a e && chks Z G as l)=true:=h
   simp only[Bool.and_eq_true] at h'
   refine paMono (pa_cons (snd a X ex G e g h'.1.2).1 (snds as X ex G l g h'.2) (star_cons h'.1.1 _ _)) fun σ H Q ⟨S,τ,hs,q⟩=>?_
   refine rdAt (.refl _) hs.left (PO'.bnd q) fun x v H1 e1 _ m1 q1=>?_
   refine raAt e1 hs.right (PO'.bnd q1) fun ds vs H2 e2 e2' m2 q2=>?_
   exact q2.ok _ _ e2 (.cons (m1.later e2') m2)
theorem sndO:∀ (o:Option IR) (X:Cx) (ex:Str→Prop) (G:Gm) (e:Option Expr),GOk Z CX cl xp X ex G→chkO Z G o e=true→PO X e (ROp X.K ex (varsO o) (evRO cl o))
 | none,X,ex,G,e,g,h=>by
  cases e with
  | none=>
   intro pins s σ H Q I ⟨S,τ,hs,q⟩
   exact po_none pins s σ H Q I (q.ok H (.refl _))
  | some _=>first | exact no_h h | cases h
 | some a,X,ex,G,e,g,h=>by
  cases e with
  | none=>first | exact no_h h | cases h
  | some e=>
   intro pins s σ H Q I ⟨S,τ,hs,q⟩
   refine po_some (snd a X ex G e g h).1 pins s σ H Q I ?_
   refine rdAt (.refl _) hs (PO'.bnd q) fun x v H1 e1 _ m1 q1=>?_
   cases x with
   | int i=>cases m1.intR;exact⟨i,rfl,q1.ok _ e1⟩
   | _=>exact q1.no.elim
theorem sndT:∀ (as:List IR) (X:Cx) (ex:Str→Prop) (G:Gm) (l:List Expr),GOk Z CX cl xp X ex G→chks Z G as l=true→PTs X l (RT X.K ex (varss as) (evTs cl as))
 | [],X,ex,G,l,g,h=>by
  cases l with
  | nil=>intro pins s σ H Q I ⟨S,τ,hs,q⟩;exact pts_nil pins s σ H Q I (q.ok H (.refl _))
  | cons _ _=>first | exact no_h h | cases h
 | a::as,X,ex,G,l,g,h=>by
  cases l with
  | nil=>first | exact no_h h | cases h
  | cons e l=>
   have h':(notStar e && chk Z G a e && chks Z G as l)=true:=h
   simp only[Bool.and_eq_true] at h'
   intro pins s σ H Q I ⟨S,τ,hs,q⟩
   refine pts_cons (snd a X ex G e g h'.1.2).2 (sndT as X ex G l g h'.2) pins s σ H Q I ?_
   refine rtAt (.refl _) hs.left (PO'.bnd q) fun r H2 e2 _ k=>?_
   cases r with
   | true=>rw[if_pos rfl] at k ⊢;exact rtAt e2 hs.right k fun b H3 e3 _ z=>z H3 e3
   | false=>rw[if_neg Bool.false_ne_true] at k ⊢;exact k.ok H2 e2
theorem sndS:∀ (s:Sr) (X:Cx) (ex:Str→Prop) (G:Gm) (e tg:Expr),GOk Z CX cl xp X ex G→chkSr Z G s e=true→srOk s tg=true→PI X tg e (RI X.K ex (varsS s) (evSr cl s))
 | .rng1 n,X,ex,G,e,tg,g,h,ht=>by
  cases e with
  | Call fn args kws pos=>
   cases fn with
   | Name x p=>
    match args,kws,h with
    | [a],[],h=>
     have h':(x == "range" && G.gl.contains 15 && notStar a && chk Z G n a)=true:=h
     simp only[Bool.and_eq_true] at h'
     have e1:x = "range":=eq_of_beq h'.1.1.1
     subst e1
     exact i_rng1 g h'.1.1.2 h'.1.2 (snd n X ex G a g h'.2).1
    | [],_,h=>first | exact no_h h | cases h
    | [_],_::_,h=>first | exact no_h h | cases h
    | _::_::_,_,h=>first | exact no_h h | cases h
   | _=>first | exact no_h h | cases h
  | _=>first | exact no_h h | cases h
 | .rng2 a b,X,ex,G,e,tg,g,h,ht=>by
  cases e with
  | Call fn args kws pos=>
   cases fn with
   | Name x p=>
    match args,kws,h with
    | [l,r],[],h=>
     have h':(x == "range" && G.gl.contains 15 && notStar l && notStar r && chk Z G a l && chk Z G b r)=true:=h
     simp only[Bool.and_eq_true] at h'
     have e1:x = "range":=eq_of_beq h'.1.1.1.1.1
     subst e1
     exact i_rng2 g h'.1.1.1.1.2 h'.1.1.1.2 h'.1.1.2 (snd a X ex G l g h'.1.2).1 (snd b X ex G r g h'.2).1
    | [],_,h=>first | exact no_h h | cases h
    | [_],_,h=>first | exact no_h h | cases h
    | [_,_],_::_,h=>first | exact no_h h | cases h
    | _::_::_::_,_,h=>first | exact no_h h | cases h
   | _=>first | exact no_h h | cases h
  | _=>first | exact no_h h | cases h
 | .val a,X,ex,G,e,tg,g,h,ht=>i_val (snd a X ex G e g h).1
 | .zip a b,X,ex,G,e,tg,g,h,ht=>by
  cases tg with
  | Tuple tes tc tp=>
   cases e with
   | Call fn args kws pos=>
    cases fn with
    | Name x p=>
     match args,kws,h with
     | [l,r],[],h=>
      have h':(x == "zip" && G.gl.contains 17 && notStar l && notStar r && chk Z G a l && chk Z G b r)=true:=h
      simp only[Bool.and_eq_true] at h'
      have e1:x = "zip":=eq_of_beq h'.1.1.1.1.1
      subst e1
      exact i_zip g h'.1.1.1.1.2 h'.1.1.1.2 h'.1.1.2 (snd a X ex G l g h'.1.2).1 (snd b X ex G r g h'.2).1
     | [],_,h=>first | exact no_h h | cases h
     | [_],_,h=>first | exact no_h h | cases h
     | [_,_],_::_,h=>first | exact no_h h | cases h
     | _::_::_::_,_,h=>first | exact no_h h | cases h
    | _=>first | exact no_h h | cases h
   | _=>first | exact no_h h | cases h
  | _=>exact no_h ht
end
end
end L2
namespace L2
open PySem PySem.Spec PyProof.Rows PySem.SeqAt
inductive Rps (K:PySem.W.Frag) (F:Addr→Prop) (H:Hp):St→Ev→List Addr→Prop where
 | nil:Rps K F H [] [] []
 | none {o:Option V} {σ:St} {τ:Ev} {f:List Addr}:Rps K F H σ τ f→Rps K F H (o::σ) (.none::τ) f
 | some {v:V} {d:D} {f:List Addr} {σ:St} {τ:Ev} {g:List Addr}:MRep K F H v d f→Rps K F H σ τ g→Rps K F H (.some v::σ) (.some d::τ) (f++g)
section
variable {K:PySem.W.Frag} {F F':Addr→Prop} {H H':Hp} {σ:St} {τ:Ev} {f:List Addr}
theorem Rps.len:∀ {σ:St} {τ:Ev} {f:List Addr},Rps K F H σ τ f→σ.length=τ.length
 | _,_,_,.nil=>rfl
 | _,_,_,.none h=>by rw[List.length_cons,List.length_cons,Rps.len h]
 | _,_,_,.some _ h=>by rw[List.length_cons,List.length_cons,Rps.len h]
theorem Rps.step (hl:∀ a xs,F a→Rd H a (.lst xs)→F' a∧Rd H' a (.lst xs)) (ht:∀ a xs,SqE K H a xs→SqE K H' a xs):∀ {σ:St} {τ:Ev} {f:List Addr},(∀ a ∈ f,¬ F a→H a≠Option.none→¬ F' a∧H' a=H a)→Rps K F H σ τ f→Rps K F' H' σ τ f
 | _,_,_,_,.nil=>.nil
 | _,_,_,k,.none h=>.none (Rps.step hl ht k h)
 | _,_,_,k,.some m h=>.some (m.step hl ht fun a ha=>k a (List.mem_append_left _ ha)) (Rps.step hl ht (fun a ha=>k a (List.mem_append_right _ ha)) h)
theorem Rps.own:∀ {σ:St} {τ:Ev} {f:List Addr},Rps K F H σ τ f→∀ a ∈ f,¬ F a∧∃ xs,H a=.some (.lst xs)
 | _,_,_,.nil=>fun _ h=>absurd h (by simp)
 | _,_,_,.none h=>Rps.own h
 | _,_,_,.some m h=>fun a ha=>by
  rcases List.mem_append.mp ha with ha | ha
  ·exact m.own a ha
  ·exact Rps.own h a ha
theorem slotD_cons {o:Option D} {τ:Ev} {i:Nat}:slotD (o::τ) (i + 1)=slotD τ i:=by unfold slotD;simp
theorem slotD_zero {o:Option D} {τ:Ev}:slotD (o::τ) 0=o:=by unfold slotD;simp
theorem Rps.at:∀ {σ:St} {τ:Ev} {f:List Addr} {i:Nat} {d:D},Rps K F H σ τ f→slotD τ i=.some d→∃ v fv g,σ[i]? = .some (.some v)∧MRep K F H v d fv∧Rps K F H σ (τ.set i .none) g∧f.Perm (fv++g)
 | _,_,_,i,d,.nil,h=>by simp[slotD] at h
 | _,_,_,0,d,.none _,h=>by rw[slotD_zero] at h;cases h
 | _,_,_,0,d,.some m h',h=>by
  rw[slotD_zero] at h
  cases h
  exact⟨_,_,_,rfl,m,.none h',.refl _⟩
 | _,_,_,i + 1,d,.none h',h=>by
  rw[slotD_cons] at h
  obtain⟨v,fv,g,h1,h2,h3,h4⟩:=Rps.at h' h
  exact⟨v,fv,g,by simpa using h1,h2,.none h3,h4⟩
 | _,_,_,i + 1,d,.some (f:=f0) m h',h=>by
  rw[slotD_cons] at h
  obtain⟨v,fv,g,h1,h2,h3,h4⟩:=Rps.at h' h
  refine⟨v,fv,f0++g,by simpa using h1,h2,.some m h3,?_⟩
  refine(List.Perm.append_left f0 h4).trans ?_
  rw[← List.append_assoc,← List.append_assoc]
  exact List.Perm.append_right g List.perm_append_comm
theorem Rps.put:∀ {σ:St} {τ:Ev} {f:List Addr} (i:Nat) {v:V} {d:D} {fv:List Addr},Rps K F H σ τ f→MRep K F H v d fv→∃ g h,Rps K F H (σ.set i (.some v)) (τ.set i (.some d)) g∧(g++h).Perm (fv++f)
 | _,_,_,i,v,d,fv,.nil,m=>⟨[],_,.nil,.refl _⟩
 | _,_,_,0,v,d,fv,.none h,m=>⟨_,[],.some m h,by rw[List.append_nil]⟩
 | _,_,_,0,v,d,fv,.some (f:=f0) (g:=g0) m' h,m=>⟨_,f0,.some m h,by rw[List.append_assoc];exact List.Perm.append_left _ List.perm_append_comm⟩
 | _,_,_,i + 1,v,d,fv,.none h,m=>by
  obtain⟨g,h',h1,h2⟩:=Rps.put i h m
  exact⟨g,h',.none h1,h2⟩
 | _,_,_,i + 1,v,d,fv,.some (f:=f0) (g:=g0) m' h,m=>by
  obtain⟨g,h',h1,h2⟩:=Rps.put i h m
  refine⟨f0++g,h',.some m' h1,?_⟩
  rw[List.append_assoc]
  refine(List.Perm.append_left f0 h2).trans ?_
  rw[← List.append_assoc,← List.append_assoc]
  exact List.Perm.append_right g0 List.perm_append_comm
theorem Rps.slots {S:Addr→Prop} {is:List Nat} (h:Rps K F H σ τ f) (hF:∀ a,F a→S a) (hf:∀ a ∈ f,S a):Slots K S H σ τ is:=fun i hi d z=>by
 obtain⟨v,fv,g,h1,h2,h3,h4⟩:=h.at z
 exact⟨v,h1,h2.read hF fun a ha=>hf a (h4.mem_iff.mpr (List.mem_append_left _ ha))⟩
theorem Rps.freeze (is:List Nat):∀ {σ:St} {τ:Ev} {f:List Addr} (k:Nat),Rps K F H σ τ f→∃ fi g,f.Perm (fi++g)∧(∀ F':Addr→Prop,(∀ a,F a→F' a)→(∀ a ∈ fi,F' a)→(∀ a ∈ g,¬ F a→¬ F' a)→Rps K F' H σ (frzA is k τ) g)∧
  ∀ F':Addr→Prop,(∀ a,F a→F' a)→(∀ a ∈ fi,F' a)→∀ i,is.contains (k + i)=true→∀ d,slotD τ i=.some d→∃ v,σ[i]? = .some (.some v)∧HRep K F' H v d
 | _,_,_,k,.nil=>⟨[],[],.refl _,fun _ _ _ _=>.nil,fun _ _ _ i _ d z=>by simp[slotD] at z⟩
 | _,_,_,k,.none h=>by
  obtain⟨fi,g,h1,h2,h3⟩:=Rps.freeze is (k + 1) h
  refine⟨fi,g,h1,fun F' a b c=>?_,fun F' a b i hi d z=>?_⟩
  ·unfold frzA
   have e:(if is.contains k=true then Option.map er (Option.none:Option D) else Option.none)=Option.none:=by split<;>rfl
   rw[e]
   exact .none (h2 F' a b c)
  ·cases i with
   | zero=>rw[slotD_zero] at z;cases z
   | succ i=>
    rw[slotD_cons] at z
    obtain⟨v,q1,q2⟩:=h3 F' a b i (by rw[show k + 1 + i=k + (i + 1) by omega];exact hi) d z
    exact⟨v,by simpa using q1,q2⟩
 | _,_,_,k,.some (v:=v) (d:=d0) (f:=f0) (g:=g0) m h=>by
  obtain⟨fi,g,h1,h2,h3⟩:=Rps.freeze is (k + 1) h
  by_cases hc:is.contains k=true
  ·refine⟨f0++fi,g,by rw[List.append_assoc];exact List.Perm.append_left _ h1,fun F' a b c=>?_,fun F' a b i hi d z=>?_⟩
   ·unfold frzA
    rw[if_pos hc]
    exact .some (f:=[]) ((m.read a fun x hx=>b x (List.mem_append_left _ hx)).frozen) (h2 F' a (fun x hx=>b x (List.mem_append_right _ hx)) c)
   ·cases i with
    | zero=>
     rw[slotD_zero] at z
     cases z
     exact⟨v,rfl,m.read a fun x hx=>b x (List.mem_append_left _ hx)⟩
    | succ i=>
     rw[slotD_cons] at z
     obtain⟨v,q1,q2⟩:=h3 F' a (fun x hx=>b x (List.mem_append_right _ hx)) i (by rw[show k + 1 + i=k + (i + 1) by omega];exact hi) d z
     exact⟨v,by simpa using q1,q2⟩
  ·refine⟨fi,f0++g,?_,fun F' a b c=>?_,fun F' a b i hi d z=>?_⟩
   ·refine(List.Perm.append_left f0 h1).trans ?_
    rw[← List.append_assoc,← List.append_assoc]
    exact List.Perm.append_right g List.perm_append_comm
   ·unfold frzA
    rw[if_neg hc]
    exact .some (m.step (fun x xs q r=>⟨a x q,r⟩) (fun x xs q=>q) fun x hx n _=>⟨c x (List.mem_append_left _ hx) n,rfl⟩) (h2 F' a b fun x hx=>c x (List.mem_append_right _ hx))
   ·cases i with
    | zero=>exact absurd hi hc
    | succ i=>
     rw[slotD_cons] at z
     obtain⟨v,q1,q2⟩:=h3 F' a b i (by rw[show k + 1 + i=k + (i + 1) by omega];exact hi) d z
     exact⟨v,by simpa using q1,q2⟩
end
structure Stp (F:Addr→Prop) (H:Hp) (f:List Addr) (F':Addr→Prop) (H':Hp):Prop where
 same:Same H H'
 inn:∀ a,F a→F' a
 out:∀ a,F' a→F a∨a ∈ f∨H a=none
structure Ow (K:PySem.W.Frag) (F:Addr→Prop) (H:Hp) (f:List Addr) (F':Addr→Prop) (H':Hp) (σ:St) (v:V) (d:D) (fv:List Addr) (τ':Ev) (f':List Addr):Prop where
 stp:Stp F H f F' H'
 fok:FOk F' H'
 rep:MRep K F' H' v d fv
 rps:Rps K F' H' σ τ' f'
 nod:(fv++f').Nodup
 mem:∀ a ∈ fv++f',a ∈ f∨H a=none
structure Ows (K:PySem.W.Frag) (F:Addr→Prop) (H:Hp) (f:List Addr) (F':Addr→Prop) (H':Hp) (σ:St) (v:List V) (d:List D) (fv:List Addr) (τ':Ev) (f':List Addr):Prop where
 stp:Stp F H f F' H'
 fok:FOk F' H'
 rep:MReps K F' H' v d fv
 rps:Rps K F' H' σ τ' f'
 nod:(fv++f').Nodup
 mem:∀ a ∈ fv++f',a ∈ f∨H a=none
section
variable {K:PySem.W.Frag} {F F' F'':Addr→Prop} {H H' H'':Hp} {f f':List Addr}
theorem Stp.refl:Stp F H f F H:=⟨.refl _,fun _ h=>h,fun _ h=>.inl h⟩
theorem Stp.trans (a:Stp F H f F' H') (b:Stp F' H' f' F'' H'') (hf:∀ x ∈ f',x ∈ f∨H x=none):Stp F H f F'' H'':=⟨a.same.trans b.same,fun x h=>b.inn x (a.inn x h),fun x h=>by
 rcases b.out x h with h | h | h
 ·exact a.out x h
 ·rcases hf x h with h | h
  ·exact .inr (.inl h)
  ·exact .inr (.inr h)
 ·exact .inr (.inr (a.same.free h))⟩
theorem MRep.stp {v:V} {d:D} {fv:List Addr} (m:MRep K F H v d fv) (s:Stp F H f F' H') (h:∀ a ∈ fv,a ∉ f):MRep K F' H' v d fv:=
 m.step (fun a xs q r=>⟨s.inn a q,s.same.rd r⟩) (fun a xs q=>s.same.seqT q) fun a ha n hn=>by
  obtain⟨_,xs,e⟩:=m.own a ha
  refine⟨fun z=>?_,(s.same _ _ e).trans e.symm⟩
  rcases s.out a z with z | z | z
  ·exact n z
  ·exact h a ha z
  ·exact hn z
theorem MReps.stp {v:List V} {d:List D} {fv:List Addr} (m:MReps K F H v d fv) (s:Stp F H f F' H') (h:∀ a ∈ fv,a ∉ f):MReps K F' H' v d fv:=
 m.step (fun a xs q r=>⟨s.inn a q,s.same.rd r⟩) (fun a xs q=>s.same.seqT q) fun a ha n hn=>by
  obtain⟨_,xs,e⟩:=m.own a ha
  refine⟨fun z=>?_,(s.same _ _ e).trans e.symm⟩
  rcases s.out a z with z | z | z
  ·exact n z
  ·exact h a ha z
  ·exact hn z
end
end L2
namespace L2
open PySem PySem.Spec PyProof.Rows PySem.SeqAt
noncomputable def RO (K:PySem.W.Frag) (ex:Str→Prop) (g:Ev→Res (D×Ev)):TE:=fun σ H Q=>∃ F τ f,FOk F H∧Rps K F H σ τ f∧f.Nodup∧PO' ex (g τ) fun p=>∀ v H' F' fv f',Ow K F H f F' H' σ v p.1 fv p.2 f'→Q v H'
noncomputable def ROs (K:PySem.W.Frag) (ex:Str→Prop) (g:Ev→Res (List D×Ev)):TA:=fun σ H Q=>∃ F τ f,FOk F H∧Rps K F H σ τ f∧f.Nodup∧PO' ex (g τ) fun p=>∀ v H' F' fv f',Ows K F H f F' H' σ v p.1 fv p.2 f'→Q v H'
noncomputable abbrev Kn (K:PySem.W.Frag) (S:Addr→Prop) (H:Hp) (Q:VK):List D→Prop:=fun ds=>∀ p ys H',Same H H'→H p=none→H' p=some (.lst ys)→HReps K (fun a=>nw S H a∧a≠p) H' ys ds→Q (.ref p) H'
noncomputable def RN (K:PySem.W.Frag) (ex:Str→Prop) (is:List Nat) (f:Ev→Res (List D)):TE:=fun σ H Q=>∃ S τ,Slots K S H σ τ is∧PO' ex (f τ) (Kn K S H Q)
noncomputable def asLst:D→Res (List D)
 | .lst _ ds=>.ok ds
 | _=>stk
section
variable {K:PySem.W.Frag} {F F':Addr→Prop} {H H':Hp} {σ:St} {τ:Ev} {f:List Addr} {ex:Str→Prop} {S:Addr→Prop}
theorem newN {vs ws:List V} {ds:List D} {p:Addr} {H2:Hp} (m:HReps K (nw S H) H2 vs ds) (hp:H2 p=none):HReps K (fun a=>nw S H a∧a≠p) (upd H2 p (.lst ws)) vs ds:=
 m.step (fun a xs h r=>by
  have hne:a≠p:=fun z=>r.some (by rw[z];exact hp)
  refine⟨⟨h,hne⟩,?_⟩
  unfold Rd
  rw[upd_ne hne]
  exact r) fun a xs h=>(Same.upd hp).seqT h
theorem grow (P:Addr→Prop) (fok:FOk F H) (r:Rps K F H σ τ f) (e:Same H H') :
  FOk (fun a=>F a∨(P a∧H a=none∧H' a≠none)) H'∧Rps K (fun a=>F a∨(P a∧H a=none∧H' a≠none)) H' σ τ f∧Stp F H f (fun a=>F a∨(P a∧H a=none∧H' a≠none)) H':=by
 refine⟨fun a h=>?_,r.step (fun a xs q rd=>⟨.inl q,e.rd rd⟩) (fun a xs q=>e.seqT q) fun a ha n hn=>⟨fun z=>?_,?_⟩,⟨e,fun a h=>.inl h,fun a h=>?_⟩⟩
 ·rcases h with h | h
  ·intro z
   exact fok a h (e.free z)
  ·exact h.2.2
 ·rcases z with z | z
  ·exact n z
  ·exact hn z.2.1
 ·obtain⟨_,xs,q⟩:=r.own a ha
  exact(e _ _ q).trans q.symm
 ·rcases h with h | h
  ·exact .inl h
  ·exact .inr (.inr h.2.1)
theorem grow0 (fok:FOk F H) (r:Rps K F H σ τ f) (e:Same H H'):FOk F H'∧Rps K F H' σ τ f∧Stp F H f F H':=by
 refine⟨fun a h z=>fok a h (e.free z),r.step (fun a xs q rd=>⟨q,e.rd rd⟩) (fun a xs q=>e.seqT q) fun a ha n hn=>⟨n,?_⟩,⟨e,fun a h=>h,fun a h=>.inl h⟩⟩
 obtain⟨_,xs,q⟩:=r.own a ha
 exact(e _ _ q).trans q.symm
theorem freeze1 (is:List Nat) (fok:FOk F H) (r:Rps K F H σ τ f) (nd:f.Nodup):∃ F1 g,FOk F1 H∧Rps K F1 H σ (frz is τ) g∧g.Nodup∧Stp F H f F1 H∧(∀ a ∈ g,a ∈ f)∧Slots K F1 H σ τ is:=by
 obtain⟨fi,g,h1,h2,h3⟩:=r.freeze is 0
 have nd':(fi++g).Nodup:=h1.nodup_iff.mp nd
 have dis:∀ a ∈ g,a ∉ fi:=fun a ha hb=>(List.nodup_append.mp nd').2.2 a hb a ha rfl
 have inF:∀ a ∈ fi,a ∈ f:=fun a ha=>h1.mem_iff.mpr (List.mem_append_left _ ha)
 have inG:∀ a ∈ g,a ∈ f:=fun a ha=>h1.mem_iff.mpr (List.mem_append_right _ ha)
 refine⟨fun a=>F a∨a ∈ fi,g,fun a h=>?_,h2 _ (fun a h=>.inl h) (fun a h=>.inr h) (fun a ha n z=>?_),(List.nodup_append.mp nd').2.1,⟨.refl _,fun a h=>.inl h,fun a h=>?_⟩,inG,fun i hi d z=>?_⟩
 ·rcases h with h | h
  ·exact fok a h
  ·obtain⟨_,xs,q⟩:=r.own a (inF a h)
   rw[q];simp
 ·rcases z with z | z
  ·exact n z
  ·exact dis a ha z
 ·rcases h with h | h
  ·exact .inl h
  ·exact .inr (.inl (inF a h))
 ·exact h3 _ (fun a h=>.inl h) (fun a h=>.inr h) i (by simpa using hi) d z
theorem all_slots {is:List Nat} (r:Rps K F H σ τ f):Slots K (fun _=>True) H σ τ is:=r.slots (fun _ _=>trivial) fun _ _=>trivial
theorem HRep.fix {v:V} {d:D} (m:HRep K (L2.nw F H) H' v d):HRep K (fun a=>F a∨(True∧H a=none∧H' a≠none)) H' v d:=m.step (fun a xs h r=>⟨h.elim (fun z=>.inl z) fun z=>.inr ⟨trivial,z,r.some⟩,r⟩) fun a xs h=>h
end
section
variable {X:Cx} {ex:Str→Prop} {cl:Nat→List D→Res D}
theorem o_v {i:Nat} {e:Expr} (he:PE X e (tVar i)) (mv:Bool):PE X e (RO X.K ex (evO cl mv (.v i))):=by
 refine peMono he fun σ H Q ⟨F,τ,f,fok,r,nd,q⟩=>?_
 rw[evO_v] at q
 cases z:slotD τ i with
 | none=>rw[z] at q;exact q.no.elim
 | some d=>
  rw[z] at q
  obtain⟨v,fv,g,h1,h2,h3,h4⟩:=r.at z
  have nd':(fv++g).Nodup:=h4.nodup_iff.mp nd
  cases mv with
  | true=>
   have q':=(show PO' ex (.ok (d,τ.set i none):Res (D×Ev)) _ from q).ok
   exact⟨v,h1,q' v H F fv g ⟨.refl,fok,h2,h3,nd',fun a ha=>.inl (h4.mem_iff.mpr ha)⟩⟩
  | false=>
   have q':=(show PO' ex (.ok (er d,τ.set i (some (er d))):Res (D×Ev)) _ from q).ok
   have dis:∀ a ∈ g,a ∉ fv:=fun a ha hb=>(List.nodup_append.mp nd').2.2 a hb a ha rfl
   have m1:MRep X.K (fun a=>F a∨a ∈ fv) H v (er d) []:=(h2.read (fun a h=>.inl h) (fun a h=>.inr h)).frozen
   have r1:Rps X.K (fun a=>F a∨a ∈ fv) H σ (τ.set i none) g:=h3.step (fun a xs h r=>⟨.inl h,r⟩) (fun a xs h=>h) fun a ha n _=>⟨fun z=>z.elim n (dis a ha),rfl⟩
   obtain⟨g',h',r2,p2⟩:=r1.put i m1
   have hσ:σ.set i (some v)=σ:=by
    apply List.ext_getElem?
    intro j
    rw[List.getElem?_set]
    by_cases hj:i=j
    ·subst hj
     have hlt:i < σ.length:=(List.getElem?_eq_some_iff.mp h1).1
     rw[if_pos rfl,if_pos hlt,h1]
    ·rw[if_neg hj]
   rw[hσ,List.set_set] at r2
   rw[List.nil_append] at p2
   have nd2:(g'++h').Nodup:=p2.nodup_iff.mpr (List.nodup_append.mp nd').2.1
   refine⟨v,h1,q' v H _ [] g' ⟨⟨.refl _,fun a h=>.inl h,fun a h=>?_⟩,fun a h=>?_,m1,r2,(List.nodup_append.mp nd2).1,fun a ha=>?_⟩⟩
   ·exact h.elim (fun z=>.inl z) fun z=>.inr (.inl (h4.mem_iff.mpr (List.mem_append_left _ z)))
   ·rcases h with h | h
    ·exact fok a h
    ·obtain⟨_,xs,e⟩:=h2.own a h
     rw[e];simp
   ·have:a ∈ g:=p2.mem_iff.mp (List.mem_append_left _ (by simpa using ha))
    exact .inl (h4.mem_iff.mpr (List.mem_append_right _ this))
theorem o_tup {l:List Expr} {n:Nat} {pos:Pos} {g:Ev→Res (List D×Ev)} (h:PA X l (ROs X.K ex g)):PE X (.Tuple l n pos) (RO X.K ex fun τ=>bnd (g τ) fun p=>grd (szOk p.1.length) (.ok (.tup p.1,p.2))):=by
 refine peMono (pe_tup h) fun σ H Q ⟨F,τ,f,fok,r,nd,q⟩=>⟨F,τ,f,fok,r,nd,(PO'.bnd q).mono fun p hp vs H1 F1 fv f1 o=>?_⟩
 obtain⟨gd,hp⟩:=PO'.grd hp
 refine⟨by rw[o.rep.length];exact szOk_le gd,fun p' hp'=>hp.ok _ _ F1 fv f1 ?_⟩
 have e:Same H1 (upd H1 p' (.tup vs)):=.upd hp'
 obtain⟨k1,k2,k3⟩:=grow0 o.fok o.rps e
 refine⟨o.stp.trans k3 (fun x hx=>o.mem x (List.mem_append_right _ hx)),k1,.tup (.inl (.inl upd_same)) (o.rep.stp k3 fun a ha hb=>(List.nodup_append.mp o.nod).2.2 a ha a hb rfl),k2,o.nod,o.mem⟩
theorem o_lst {l:List Expr} {pos:Pos} {g:Ev→Res (List D×Ev)} (h:PA X l (ROs X.K ex g)):PE X (.List l pos) (RO X.K ex fun τ=>bnd (g τ) fun p=>grd (szOk p.1.length) (.ok (.lst true p.1,p.2))):=by
 refine peMono (pe_lst h) fun σ H Q ⟨F,τ,f,fok,r,nd,q⟩=>⟨F,τ,f,fok,r,nd,(PO'.bnd q).mono fun p hp vs H1 F1 fv f1 o=>?_⟩
 obtain⟨gd,hp⟩:=PO'.grd hp
 refine⟨by rw[o.rep.length];exact szOk_le gd,fun p' hp'=>hp.ok _ _ F1 (p'::fv) f1 ?_⟩
 have e:Same H1 (upd H1 p' (.lst vs)):=.upd hp'
 obtain⟨k1,k2,k3⟩:=grow0 o.fok o.rps e
 refine⟨o.stp.trans k3 (fun x hx=>o.mem x (List.mem_append_right _ hx)),k1,.lstO (fun z=>o.fok _ z hp') upd_same (o.rep.stp k3 fun a ha hb=>(List.nodup_append.mp o.nod).2.2 a ha a hb rfl),k2,?_,fun a ha=>?_⟩
 ·rw[List.cons_append,List.nodup_cons]
  refine⟨fun z=>?_,o.nod⟩
  rcases List.mem_append.mp z with z | z
  ·obtain⟨_,xs,e⟩:=o.rep.own _ z
   rw[hp'] at e;cases e
  ·obtain⟨_,xs,e⟩:=o.rps.own _ z
   rw[hp'] at e;cases e
 ·rw[List.cons_append] at ha
  rcases List.mem_cons.mp ha with rfl | ha
  ·exact .inr (o.stp.same.free hp')
  ·exact o.mem a ha
theorem o_ite {c a b:Expr} {pos:Pos} {vc:List Nat} {fc:Ev→Res Bool} {fa fb:Ev→Res (D×Ev)} (hc:PT X c (RT X.K ex vc fc)) (ha:PE X a (RO X.K ex fa)) (hb:PE X b (RO X.K ex fb)) :
  PE X (.IfExp c a b pos) (RO X.K ex fun τ=>bnd (fc τ) fun r=>if r=true then fa τ else fb τ):=by
 refine peMono (pe_ifExp hc ha hb) fun σ H Q ⟨F,τ,f,fok,r,nd,q⟩=>?_
 refine rtAt (.refl _) (all_slots r) (PO'.bnd q) fun x H2 e2 _ k=>?_
 obtain⟨k1,k2,k3⟩:=grow0 fok r e2
 have go:∀ {g:Ev→Res (D×Ev)},PO' ex (g τ) (fun p=>∀ v H' F' fv f',Ow X.K F H f F' H' σ v p.1 fv p.2 f'→Q v H')→RO X.K ex g σ H2 Q:=fun hg=>
  ⟨F,τ,f,k1,k2,nd,hg.mono fun p hp v H' F' fv f' o=>hp v H' F' fv f' ⟨k3.trans o.stp (fun x hx=>.inl hx),o.fok,o.rep,o.rps,o.nod,fun a ha=>(o.mem a ha).elim (fun z=>.inl z) fun z=>.inr (e2.free z)⟩⟩
 cases x with
 | true=>rw[if_pos rfl] at k ⊢;exact go k
 | false=>rw[if_neg Bool.false_ne_true] at k ⊢;exact go k
theorem os_nil:PA X [] (ROs X.K ex fun τ=>.ok ([],τ)):=paMono pa_nil fun σ H Q ⟨F,τ,f,fok,r,nd,q⟩=>q.ok [] H F [] f ⟨.refl,fok,.nil,r,nd,fun a ha=>.inl ha⟩
theorem os_cons {e:Expr} {l:List Expr} {ga:Ev→Res (D×Ev)} {gs:Ev→Res (List D×Ev)} (hn:notStar e=true) (ha:PE X e (RO X.K ex ga)) (hr:PA X l (ROs X.K ex gs)) :
  PA X (e::l) (ROs X.K ex fun τ=>bnd (ga τ) fun p=>bnd (gs p.2) fun q=>.ok (p.1::q.1,q.2)):=by
 refine paMono (pa_cons ha hr (star_cons hn _ _)) fun σ H Q ⟨F,τ,f,fok,r,nd,q⟩=>⟨F,τ,f,fok,r,nd,(PO'.bnd q).mono fun p hp v H1 F1 fv f1 o=>?_⟩
 refine⟨F1,p.2,f1,o.fok,o.rps,(List.nodup_append.mp o.nod).2.1,(PO'.bnd hp).mono fun p' hp' vs H2 F2 fvs f2 o2=>?_⟩
 have dis:∀ a ∈ fv,a ∉ f1:=fun a h1 h2=>(List.nodup_append.mp o.nod).2.2 a h1 a h2 rfl
 have m2:=o.rep.stp o2.stp dis
 refine hp'.ok (v::vs) H2 F2 (fv++fvs) f2 ⟨o.stp.trans o2.stp (fun x hx=>o.mem x (List.mem_append_right _ hx)),o2.fok,.cons m2 o2.rep,o2.rps,?_,fun a ha=>?_⟩
 ·rw[List.append_assoc]
  refine List.nodup_append.mpr ⟨(List.nodup_append.mp o.nod).1,o2.nod,fun a h1 b h2 e=>?_⟩
  subst e
  rcases o2.mem a h2 with z | z
  ·exact dis a h1 z
  ·obtain⟨_,xs,e⟩:=o.rep.own a h1
   rw[z] at e;cases e
 ·rw[List.append_assoc] at ha
  rcases List.mem_append.mp ha with ha | ha
  ·exact o.mem a (List.mem_append_left _ ha)
  ·rcases o2.mem a ha with z | z
   ·exact o.mem a (List.mem_append_right _ z)
   ·exact .inr (o.stp.same.free z)
end
end L2
namespace L2
open PySem PySem.Spec PyProof.Rows PySem.SeqAt
section
variable {Z:Sg} {CX:CXT} {cl:Nat→List D→Res D} {xp:XK→Hp→Str→Prop} {X:Cx} {ex:Str→Prop} {G:Gm}
noncomputable def spP (K:PySem.W.Frag) (ex:Str→Prop) (cl:Nat→List D→Res D) (f:Nat) (vs:List V) (H:Hp) (Q:VK):Prop:=∃ F ds,FOk F H∧HReps K F H vs ds∧PO' ex (cl f (ers ds)) fun d=>∀ v H' F' fv,Out K F H F' H' v d fv→Q v H'
theorem pe_callO (g:GOk Z CX cl xp X ex G) {f:Nat} {x:Str} {p pos:Pos} {es:List IR} {args:List Expr} {t:TA} (h1:chkG Z G f x=true) (h2:Z.fnc G f=true) (hst:chks Z G es args=true) (h:PA X args t)
  (h0:args=[]→∀ σ H (Q:List V→Hp→Prop),t σ H Q→Q [] H):PE X (.Call (.Name x p) args [] pos) (fun σ H Q=>t σ H fun vs H1=>spP X.K ex cl f vs H1 Q):=by
 obtain⟨k1,k2,k3,k4⟩:=gl_of g h1
 obtain⟨k,fa',fd,ps,hm,hkp,hb,F,hr,hlen⟩:=(g.fns f (fnc_fn h2).1 (fnc_fn h2).2 x k2).ex
 obtain⟨E,hP,hE⟩:=g.exs
 intro pins s σ H Q I q
 have fin:∀ (us:List Value) (s1:Shared) (vs:List V) (H1:Hp),Inv X pins σ H1 s1→Vals vs us→spP X.K ex cl f vs H1 Q→wpAny (model X.prog X.w) X.A (call (.ref fa') us) (EP X pins σ Q) X.xe s1:=by
  intro us s1 vs H1 I1 r ⟨Fc,ds,fok,m,q1⟩
  have hl:=hlen ex _ _ q1
  rw[ers_length] at hl
  refine run_hid F hr hb hP g.hid I1 r (by rw[m.length];exact hl) fok m ?_
  cases z:cl f (ers ds) with
  | error er=>
   rw[z] at q1
   cases er with
   | stuck=>exact q1.no.elim
   | exc c=>exact hE c _ q1
  | ok d=>
   rw[z] at q1
   exact q1.ok
 refine wpAny_Call_Name_kw (ld_glob I k1 hm ?_ k4)
 cases args with
 | nil=>
  cases es with
  | cons _ _=>cases hst
  | nil=>exact PySem.W.callWith_K0 I.kIn hkp (fin [] s [] H I .nil (h0 rfl σ H _ q))
 | cons e l=>
  cases es with
  | nil=>cases hst
  | cons a es=>
   have hst':(notStar e && chk Z G a e && chks Z G es l)=true:=hst
   simp only[Bool.and_eq_true] at hst'
   refine PySem.W.callWith_K (h₀:=X.base) I.ok.mod.kin hkp (thn (h pos pins s σ H _ I q) fun us s1 ⟨vs,H1,I1,r,q1⟩=>⟨I1.kIn,?_⟩) (star_cons hst'.1.1 l X.env) (star_none Z G (es:=es) pos X.env hst'.2)
   exact fin us s1 vs H1 I1 r q1
theorem MRep.lfree_nil {K:PySem.W.Frag} {F F':Addr→Prop} {H:Hp} {v:V} {d:D} {fv:List Addr} (m:MRep K F H v d fv) (n:lfree d=true):MRep K F' H v d []:=(m.read (S:=fun _=>True) (fun _ _=>trivial) fun _ _=>trivial).free n
theorem o_call (g:GOk Z CX cl xp X ex G) {f:Nat} {x:Str} {p pos:Pos} {es:List IR} {args:List Expr} (h1:chkG Z G f x=true) (h2:Z.fnc G f=true) (hst:chks Z G es args=true) (mv:Bool) :
  PE X (.Call (.Name x p) args [] pos) (RO X.K ex (evO cl mv (.call f es))):=by
 have pa:=snds es X ex G args g hst
 have pe:=pe_callO (p:=p) (pos:=pos) g h1 h2 hst pa (fun e σ H Q ⟨S,τ,hs,q⟩=>by
  subst e
  cases es with
  | nil=>exact q.ok [] H (.refl _) .nil
  | cons _ _=>cases hst)
 refine peMono pe fun σ H Q ⟨F,τ,fo,fok,r,nd,q⟩=>?_
 have q':PO' ex (bnd (evRs cl es τ) fun ds=>bnd (cl f (ers ds)) fun d=>if lfree d=true then .ok (d,τ) else .ok (d,frz (varss es) τ)) (fun p=>∀ v H' F' fv f',Ow X.K F H fo F' H' σ v p.1 fv p.2 f'→Q v H'):=q
 -- read without giving up
 have borrow:(∀ ds,evRs cl es τ=.ok ds→PO' ex (cl f (ers ds)) fun d=>lfree d=true∧∀ v H' F' fv f',Ow X.K F H fo F' H' σ v d fv τ f'→Q v H')→PO' ex (evRs cl es τ) (fun _=>True)→RA X.K ex (varss es) (evRs cl es) σ H (fun vs H1=>spP X.K ex cl f vs H1 Q):=by
  intro hk hok
  refine raAt (.refl _) (all_slots r) hok.eq fun ds vs H1 e1 _ m1 q1=>?_
  refine⟨fun a=>H1 a≠none,ds,fun a h=>h,m1.step (fun a xs h rd=>⟨rd.some,rd⟩) fun a xs h=>h,(hk ds q1.1).mono fun d hd v H' F' fv o=>?_⟩
  obtain⟨k1,k2,k3⟩:=grow0 fok r (e1.trans o.same)
  exact hd.2 v H' F [] fo ⟨k3,k1,o.rep.lfree_nil hd.1,k2,by simpa using nd,fun a ha=>.inl (by simpa using ha)⟩
 cases z:evRs cl es τ with
 | error er=>
  rw[z] at q'
  cases er with
  | stuck=>exact q'.no.elim
  | exc c=>exact borrow (fun ds h=>by rw[z] at h;cases h) (by rw[z];exact q')
 | ok ds=>
  rw[z] at q'
  have q1:PO' ex (bnd (cl f (ers ds)) fun d=>if lfree d=true then .ok (d,τ) else .ok (d,frz (varss es) τ)) (fun p=>∀ v H' F' fv f',Ow X.K F H fo F' H' σ v p.1 fv p.2 f'→Q v H'):=q'
  cases zc:cl f (ers ds) with
  | error er=>
   rw[zc] at q1
   cases er with
   | stuck=>exact q1.no.elim
   | exc c=>exact borrow (fun ds' h=>by rw[z] at h;cases h;rw[zc];exact q1) (by rw[z];trivial)
  | ok d=>
   rw[zc] at q1
   have q2:PO' ex (if lfree d=true then .ok (d,τ) else .ok (d,frz (varss es) τ)) (fun p=>∀ v H' F' fv f',Ow X.K F H fo F' H' σ v p.1 fv p.2 f'→Q v H'):=q1
   by_cases hl:lfree d=true
   ·rw[if_pos hl] at q2
    exact borrow (fun ds' h=>by rw[z] at h;cases h;rw[zc];exact⟨hl,q2.ok⟩) (by rw[z];trivial)
   ·rw[if_neg hl] at q2
    obtain⟨F1,gg,b1,b2,b3,b4,b5,b6⟩:=freeze1 (varss es) fok r nd
    refine raAt (Kt:=fun ds'=>ds'=ds) (.refl _) b6 (by rw[z];rfl) fun ds' vs H1 e1 _ m1 e=>?_
    subst e
    have hm:HReps X.K (fun a=>F1 a∨(True∧H a=none∧H1 a≠none)) H1 vs ds':=m1.step (fun a xs h r=>⟨h.elim (fun z=>.inl z) fun z=>.inr ⟨trivial,z,r.some⟩,r⟩) fun a xs h=>h
    obtain⟨c1,c2,c3⟩:=grow (fun _=>True) b1 b2 e1
    refine⟨_,ds',c1,hm,?_⟩
    rw[zc]
    intro v H' F' fv o
    have s1:Stp (fun a=>F1 a∨(True∧H a=none∧H1 a≠none)) H1 gg F' H':=⟨o.same,o.inn,fun a h=>(o.out a h).elim (fun z=>.inl z) fun z=>.inr (.inr z)⟩
    have r2:Rps X.K F' H' σ (frz (varss es) τ) gg:=c2.step (fun a xs q rd=>⟨o.inn a q,o.same.rd rd⟩) (fun a xs q=>o.same.seqT q) fun a ha n hn=>by
     obtain⟨_,xs,e⟩:=c2.own a ha
     refine⟨fun z=>?_,(o.same _ _ e).trans e.symm⟩
     rcases o.out a z with z | z
     ·exact n z
     ·exact hn z
    refine q2.ok v H' F' fv gg ⟨(b4.trans c3 (fun x hx=>.inl (b5 x hx))).trans s1 (fun x hx=>.inl (b5 x hx)),o.fok,o.rep,r2,?_,fun a ha=>?_⟩
    ·refine List.nodup_append.mpr ⟨o.nod,b3,fun a h1 b h2 e=>?_⟩
     subst e
     obtain⟨_,xs,e⟩:=c2.own a h2
     rw[o.new a h1] at e
     cases e
    ·rcases List.mem_append.mp ha with ha | ha
     ·exact .inr (e1.free (o.new a ha))
     ·exact .inl (b5 a ha)
theorem o_keep {a:IR} {e:Expr} (he:PE X e (RD X.K ex (vars a) (evR cl a))) (hN:newList? a=true→PE X e (RN X.K ex (vars a) fun τ=>bnd (evR cl a τ) asLst)):PE X e (RO X.K ex fun τ=>bnd (evR cl a τ) fun d=>.ok (keepD a d τ)):=by
 intro pins s σ H Q I h
 obtain⟨F,τ,fo,fok,r,nd,q⟩:=h
 replace q:PO' ex (bnd (evR cl a τ) fun d=>.ok (keepD a d τ)) (fun p=>∀ v H' F' fv f',Ow X.K F H fo F' H' σ v p.1 fv p.2 f'→Q v H'):=q
 have rd:RD X.K ex (vars a) (evR cl a) σ H Q→wpAny (model X.prog X.w) X.A (eval e X.env) (EP X pins σ Q) X.xe s:=fun h=>he pins s σ H Q I h
 cases z:evR cl a τ with
 | error er=>
  rw[z] at q
  cases er with
  | stuck=>exact q.no.elim
  | exc c=>exact rd ⟨fun _=>True,τ,all_slots r,by rw[z];exact q⟩
 | ok d=>
  rw[z] at q
  have q1:∀ v H' F' fv f',Ow X.K F H fo F' H' σ v (keepD a d τ).1 fv (keepD a d τ).2 f'→Q v H':=q
  by_cases hl:lfree d=true
  ·unfold keepD at q1
   rw[if_pos hl] at q1
   refine rd ⟨fun _=>True,τ,all_slots r,?_⟩
   rw[z]
   intro v H' e m
   obtain⟨k1,k2,k3⟩:=grow0 fok r e
   exact q1 v H' F [] fo ⟨k3,k1,m.free hl,k2,by simpa using nd,fun a ha=>.inl (by simpa using ha)⟩
  ·have other:keepD a d τ=(er d,frz (vars a) τ)→wpAny (model X.prog X.w) X.A (eval e X.env) (EP X pins σ Q) X.xe s:=fun hk=>by
    rw[hk] at q1
    obtain⟨F1,gg,b1,b2,b3,b4,b5,b6⟩:=freeze1 (vars a) fok r nd
    refine rd ⟨F1,τ,b6,?_⟩
    rw[z]
    intro v H' e m
    obtain⟨c1,c2,c3⟩:=grow (fun _=>True) b1 b2 e
    exact q1 v H' _ [] gg ⟨b4.trans c3 (fun x hx=>.inl (b5 x hx)),c1,m.fix.frozen,c2,by simpa using b3,fun a ha=>.inl (b5 a (by simpa using ha))⟩
   by_cases hn:newList? a=true
   ·cases d with
    | lst o ds=>
     by_cases hi:lfrees ds=true
     ·have hk:keepD a (.lst o ds) τ=(.lst true ds,τ):=by
       unfold keepD
       rw[if_neg hl,hn]
       show (if lfrees ds=true then _ else _)=_
       rw[if_pos hi]
      rw[hk] at q1
      refine hN hn pins s σ H Q I ⟨fun _=>True,τ,all_slots r,?_⟩
      show PO' ex (bnd (evR cl a τ) asLst) _
      rw[z]
      intro p ys H' e hp hy m
      obtain⟨k1,k2,k3⟩:=grow0 fok r e
      refine q1 (.ref p) H' F [p] fo ⟨k3,k1,.lstO (fun zz=>fok p zz hp) hy (m.free hi),k2,?_,fun a ha=>?_⟩
      ·rw[List.singleton_append,List.nodup_cons]
       refine⟨fun zz=>?_,nd⟩
       obtain⟨_,xs,e⟩:=r.own p zz
       rw[hp] at e;cases e
      ·rw[List.singleton_append] at ha
       rcases List.mem_cons.mp ha with rfl | ha
       ·exact .inr hp
       ·exact .inl ha
     ·have hk:keepD a (.lst o ds) τ=(.lst true (ers ds),frz (vars a) τ):=by
       unfold keepD
       rw[if_neg hl,hn]
       show (if lfrees ds=true then _ else _)=_
       rw[if_neg hi]
      rw[hk] at q1
      obtain⟨F1,gg,b1,b2,b3,b4,b5,b6⟩:=freeze1 (vars a) fok r nd
      refine hN hn pins s σ H Q I ⟨F1,τ,b6,?_⟩
      show PO' ex (bnd (evR cl a τ) asLst) _
      rw[z]
      intro p ys H' e hp hy m
      obtain⟨c1,c2,c3⟩:=grow (fun a=>a≠p) b1 b2 e
      have m2:HReps X.K (fun a=>F1 a∨(a≠p∧H a=none∧H' a≠none)) H' ys ds:=m.step (fun a xs h r=>⟨h.1.elim (fun z=>.inl z) fun z=>.inr ⟨h.2,z,r.some⟩,r⟩) fun a xs h=>h
      refine q1 (.ref p) H' _ [p] gg ⟨b4.trans c3 (fun x hx=>.inl (b5 x hx)),c1,.lstO (fun zz=>?_) hy m2.frozen,c2,?_,fun a ha=>?_⟩
      ·rcases zz with zz | zz
       ·exact b1 p zz hp
       ·exact zz.1 rfl
      ·rw[List.singleton_append,List.nodup_cons]
       refine⟨fun zz=>?_,b3⟩
       obtain⟨_,xs,e⟩:=b2.own p zz
       rw[hp] at e;cases e
      ·rw[List.singleton_append] at ha
       rcases List.mem_cons.mp ha with rfl | ha
       ·exact .inr hp
       ·exact .inl (b5 a ha)
    | _=>
     refine other ?_
     unfold keepD
     rw[if_neg hl,hn]
   ·have hn':newList? a=false:=by simpa using hn
    refine other ?_
    unfold keepD
    rw[if_neg hl,hn']
theorem n_bin {a b:Expr} {pos:Pos} {va vb:List Nat} {fa fb:Ev→Res D} (ha:PE X a (RD X.K ex va fa)) (hb:PE X b (RD X.K ex vb fb)) :
  PE X (.BinOp a .Add b pos) (RN X.K ex (va++vb) fun τ=>bnd (bnd (fa τ) fun x=>bnd (fb τ) fun y=>opB .add x y) asLst):=by
 refine peMono (pe_op op_catL ha hb) fun σ H Q ⟨S,τ,hs,q⟩=>?_
 refine rdAt (.refl _) hs.left (PO'.bnd (PO'.bnd q)) fun x v H1 e1 _ m1 q1=>?_
 refine rdAt e1 hs.right (PO'.bnd q1) fun y w H2 e2 e2' m2 q2=>?_
 have stuck:∀ {P:Prop},opB .add x y=stk→P:=fun z=>by rw[z] at q2;exact q2.no.elim
 cases x with
 | int a=>cases y with
  | int b=>exact q2.ok.no.elim
  | _=>exact stuck rfl
 | str a=>cases y with
  | str b=>exact(PO'.grd q2).2.ok.no.elim
  | _=>exact stuck rfl
 | lst o a=>cases y with
  | lst o' b=>
   obtain⟨p,xs,rfl,h1,n1⟩:=m1.lstL
   obtain⟨p',ys,rfl,h2,n2⟩:=m2.lstL
   obtain⟨gd,q3⟩:=PO'.grd q2
   have g':=szOk_le gd
   have l1:=n1.length
   have l2:=n2.length
   have h1':Ls X.K H2 p xs:=h1.elim (fun z=>.inl (e2'.rd z)) .inr
   exact⟨p,p',xs,ys,rfl,rfl,h1',h2,by omega,fun z hz=>q3.ok.ok z _ _ (e2.trans (.upd hz)) (e2.free hz) upd_same (newN ((n1.later e2').append n2) hz)⟩
  | _=>exact stuck rfl
 | _=>exact stuck rfl
theorem n_sl {a:Expr} {lo hi:Option Expr} {pos p2:Pos} {va vl vh:List Nat} {fa:Ev→Res D} {fl fh:Ev→Res (Option Int)} (ha:PE X a (RD X.K ex va fa)) (hl:PO X lo (ROp X.K ex vl fl)) (hh:PO X hi (ROp X.K ex vh fh)) :
  PE X (.Subscript a (.Slice lo hi none p2) pos) (RN X.K ex (va++vl++vh) fun τ=>bnd (bnd (fa τ) fun x=>bnd (fl τ) fun l=>bnd (fh τ) fun h=>opSl x l h) asLst):=by
 refine peMono (pe_slice sl_list ha hl hh) fun σ H Q ⟨S,τ,hs,q⟩=>?_
 refine rdAt (.refl _) hs.left.left (PO'.bnd (PO'.bnd q)) fun x v H1 e1 _ m1 q1=>?_
 refine roAt e1 hs.left.right (PO'.bnd q1) fun l H2 e2 e2' q2=>?_
 refine roAt e2 hs.right (PO'.bnd q2) fun h H3 e3 e3' q3=>?_
 cases x with
 | lst o ds=>
  obtain⟨p,xs,rfl,h1,n1⟩:=m1.lstR
  exact⟨p,xs,rfl,(e2'.trans e3').seq h1,fun z hz=>q3.ok.ok z _ _ (e3.trans (.upd hz)) (e3.free hz) upd_same (newN (cut_rep l h (n1.later (e2'.trans e3'))) hz)⟩
 | str _=>exact(PO'.grd q3).2.ok.no.elim
 | _=>exact q3.no.elim
theorem call_list_two (hc:X.calm=true):CallR X (.type "list") (fun xs H Q=>(∃ p ys,xs=[.ref p]∧(SqL X.K H p ys∨SqT X.K H p ys)∧∀ l,H l=none→Q (.ref l) (upd H l (.lst ys)))∨∃ z:Str,xs=[.str z]∧z.length≤sizeLine∧∀ l,H l=none→Q (.ref l) (upd H l (.lst (charsV z)))):=by
 intro pins s σ H xs us Q I r h
 rcases h with h | h
 ·exact call_list_of pins s σ H xs us Q I r h
 ·exact call_list_txt hc pins s σ H xs us Q I r h
theorem n_list (g:GOk Z CX cl xp X ex G) {p pos:Pos} {es:List IR} {a:Expr} {args:List Expr} (hg:G.glc (biNum .list)=true) (hst:chks Z G es (a::args)=true) (h:PA X (a::args) (RA X.K ex (varss es) (evRs cl es))) :
  PE X (.Call (.Name (biName .list) p) (a::args) [] pos) (RN X.K ex (varss es) fun τ=>bnd (bnd (evRs cl es τ) fun ds=>opBi .list ds) asLst):=by
 obtain⟨k1,k2,k3,k4⟩:=gb_of g (bi_num .list) (glc_gl hg)
 cases es with
 | nil=>cases hst
 | cons b es=>
  have hst':(notStar a && chk Z G b a && chks Z G es args)=true:=hst
  simp only[Bool.and_eq_true] at hst'
  refine peMono (pe_callTy (call_list_two (g.calm (glc_cm hg))) k1 k2 (bi_boot .list) h k3 k4 (star_cons hst'.1.1 args X.env) (star_none Z G (es:=es) pos X.env hst'.2)) fun σ H Q ⟨S,τ,hs,q⟩=>?_
  refine raAt (.refl _) hs (PO'.bnd (PO'.bnd q)) fun ds vs H1 e1 _ m1 q1=>?_
  have stuck:∀ {P:Prop},opBi .list ds=stk→P:=fun z=>by rw[z] at q1;exact q1.no.elim
  match ds,m1 with
  | [],_=>exact stuck rfl
  | d::_::_,_=>exact stuck (by cases d<;>rfl)
  | [d],m1=>
   obtain⟨x,rfl,hd⟩:=m1.one1
   cases d with
   | tup ds=>
    obtain⟨a,ys,rfl,q',m⟩:=hd.tupR
    exact .inl ⟨a,ys,rfl,.inr q',fun z hz=>q1.ok.ok z _ _ (e1.trans (.upd hz)) (e1.free hz) upd_same (newN m hz)⟩
   | lst o ds=>
    obtain⟨a,ys,rfl,q',m⟩:=hd.lstR
    exact .inl ⟨a,ys,rfl,.inl q',fun z hz=>q1.ok.ok z _ _ (e1.trans (.upd hz)) (e1.free hz) upd_same (newN m hz)⟩
   | str z=>
    cases hd.strR
    obtain⟨gz,q1⟩:=PO'.grd q1
    exact .inr ⟨z,rfl,szOk_le gz,fun l hl=>q1.ok.ok l _ _ (e1.trans (.upd hl)) (e1.free hl) upd_same (newN (chars_rep z) hl)⟩
   | _=>exact stuck rfl
end
end L2
namespace L2
open PySem PySem.Spec PyProof.Rows PySem.SeqAt
section
variable {Z:Sg} {CX:CXT} {cl:Nat→List D→Res D} {xp:XK→Hp→Str→Prop}
theorem pv_of {X:Cx} {ex:Str→Prop} {G:Gm} (g:GOk Z CX cl xp X ex G) {i:Nat} {x:Str} {pos:Pos} (h:chkV G i x=true):PE X (.Name x pos) (tVar i):=by
 unfold chkV at h
 rw[Bool.and_eq_true] at h
 have hx:G.N[i]? = some x:=eq_of_beq h.1
 have hk:=g.kd i x hx
 have hv:Vis X.env.scope x:=by
  have h2:=h.2
  rw[Bool.or_eq_true,Bool.or_eq_true] at h2
  rcases h2 with (h2 | h2) | h2
  ·exact .inl (hk.trans (eq_of_beq h2))
  ·exact .inr (.inl (hk.trans (eq_of_beq h2)))
  ·exact .inr (.inr (hk.trans (eq_of_beq h2)))
 exact pe_var (i:=i) (by rw[g.N];exact hx) hv (g.noD i x hx).1 (g.noD i x hx).2
theorem n_comp {X:Cx} {ex:Str→Prop} {G G':Gm} {fr:List Nat} (g:GOk Z CX cl xp X ex G) {scope:Scope} {tg iter elt:Expr} {ifs:List Expr} {pos:Pos} {T:Tg} {s:Sr} {I:List IR} {E:IR} (hs:ScOk Z G scope G' fr) (hT:chkT G' T tg=true) (ha:∀ i ∈ tgs T,fr.length≤i)
  (hi:chkSr Z G s iter=true∧srOk s tg=true) (ht:chks Z G' I ifs=true) (he:chk Z G' E elt=true) :
  PE X (.ListComp elt [⟨tg,iter,ifs,0⟩] scope pos) (RN X.K ex (vars (.comp G' fr T s I E)) fun τ=>bnd (evR cl (.comp G' fr T s I E) τ) asLst):=by
 intro pins s' σ H Q Iv h
 obtain⟨cl',S⟩:=compSc_of g Iv.ok hs
 have p:=pe_comp (pos:=pos) (elt:=elt) (ifs:=ifs) (tg:=tg) (g:=gT X.K T) (tt:=RT X.K nox (varss I) (evTs cl I)) (te:=RD X.K nox (vars E) (evR cl E)) (g.calm hs.cm) S (sndS s X ex G iter tg g hi.1 hi.2) (fun C s H fp=>pgT (gok_comp g hs cl' C s H fp) T tg hT)
  (fun C s H fp=>sndT I _ nox G' ifs (gok_comp g hs cl' C s H fp) ht) (fun C s H fp=>(snd E _ nox G' elt (gok_comp g hs cl' C s H fp) he).1) (fun x=>folded_src hi.1 X.env x)
 refine p pins s' σ H Q Iv ?_
 obtain⟨S0,τ,hsl,q⟩:=h
 have q':=PO'.bnd (show PO' ex (bnd (evR cl (.comp G' fr T s I E) τ) asLst) _ from q)
 rw[evR_comp] at q'
 exact comp_core hs.fle ha hsl q' fun A ys ds H' e hA hA' m k=>k.ok A ys H' e hA hA' m
theorem snN:∀ (a:IR) (X:Cx) (ex:Str→Prop) (G:Gm) (e:Expr),GOk Z CX cl xp X ex G→chk Z G a e=true→newList? a=true→PE X e (RN X.K ex (vars a) fun τ=>bnd (evR cl a τ) asLst):=by
 intro a X ex G e g h n
 cases a with
 | bin op a b=>
  cases op with
  | add=>
   cases e with
   | BinOp l o r pos=>
    have h':(o == bop .add && chk Z G a l && chk Z G b r)=true:=h
    simp only[Bool.and_eq_true] at h'
    have e1:o=bop .add:=eq_of_beq h'.1.1
    subst e1
    exact n_bin (snd a X ex G l g h'.1.2).1 (snd b X ex G r g h'.2).1
   | _=>first | exact no_h h | cases h
  | _=>cases n
 | sl a lo hi=>
  cases e with
  | Subscript o s pos=>
   cases s with
   | Slice l u st p=>
    cases st with
    | none=>
     have h':(chk Z G a o && chkO Z G lo l && chkO Z G hi u)=true:=h
     simp only[Bool.and_eq_true] at h'
     exact n_sl (snd a X ex G o g h'.1.1).1 (sndO lo X ex G l g h'.1.2) (sndO hi X ex G u g h'.2)
    | some _=>first | exact no_h h | cases h
   | _=>first | exact no_h h | cases h
  | _=>first | exact no_h h | cases h
 | bi f es=>
  cases f with
  | list=>
   cases e with
   | Call fn args kws pos=>
    cases fn with
    | Name x p=>
     cases kws with
     | nil=>
      cases args with
      | nil=>first | exact no_h h | cases h
      | cons a args=>
       have h':(x == biName .list && G.glc (biNum .list) && chks Z G es (a::args))=true:=h
       simp only[Bool.and_eq_true] at h'
       have e1:x=biName .list:=eq_of_beq h'.1.1
       subst e1
       exact n_list g h'.1.2 h'.2 (snds es X ex G _ g h'.2)
     | cons _ _=>cases args<;>first | exact no_h h | cases h
    | _=>first | exact no_h h | cases h
   | _=>first | exact no_h h | cases h
  | _=>cases n
 | comp G' fr tg src ifs elt=>
  cases e with
  | ListComp el gens scope pos=>
   have h:gen1 gens (fun t it fs=>chkScope Z G scope G' fr && chkT G' tg t && (tgs tg).all (fun i=>decide (fr.length≤i)) && (chkSr Z G src it && srOk src t) && chks Z G' ifs fs && chk Z G' elt el)=true:=h
   obtain⟨t,it,fs,rfl,h⟩:=gen1_ok h
   have h':(chkScope Z G scope G' fr && chkT G' tg t && (tgs tg).all (fun i=>decide (fr.length≤i)) && (chkSr Z G src it && srOk src t) && chks Z G' ifs fs && chk Z G' elt el)=true:=h
   simp only[Bool.and_eq_true] at h'
   exact n_comp g (scOk_of h'.1.1.1.1.1) h'.1.1.1.1.2 (fun i hi=>of_decide_eq_true (List.all_eq_true.mp h'.1.1.1.2 i hi)) h'.1.1.2 h'.1.2 h'.2
  | _=>first | exact no_h h | cases h
 | _=>cases n
mutual
theorem snO:∀ (a:IR) (mv:Bool) (X:Cx) (ex:Str→Prop) (G:Gm) (e:Expr),GOk Z CX cl xp X ex G→chk Z G a e=true→PE X e (RO X.K ex (evO cl mv a))
 | .v i,mv,X,ex,G,e,g,h=>by
  cases e with
  | Name x pos=>exact o_v (pv_of g h) mv
  | _=>first | exact no_h h | cases h
 | .tup es,mv,X,ex,G,e,g,h=>by
  cases e with
  | Tuple l n pos=>exact o_tup (snOs es mv X ex G l g h)
  | _=>first | exact no_h h | cases h
 | .lst es,mv,X,ex,G,e,g,h=>by
  cases e with
  | List l pos=>exact o_lst (snOs es mv X ex G l g h)
  | _=>first | exact no_h h | cases h
 | .ite t a b,mv,X,ex,G,e,g,h=>by
  cases e with
  | IfExp c x y pos=>
   have h':(chk Z G t c && chk Z G a x && chk Z G b y)=true:=h
   simp only[Bool.and_eq_true] at h'
   exact o_ite (snd t X ex G c g h'.1.1).2 (snO a mv X ex G x g h'.1.2) (snO b mv X ex G y g h'.2)
  | _=>first | exact no_h h | cases h
 | .call f es,mv,X,ex,G,e,g,h=>by
  cases e with
  | Call fn args kws pos=>
   cases fn with
   | Name x p=>
    cases kws with
    | nil=>
     have h':(chkG Z G f x && Z.fnc G f && chks Z G es args)=true:=h
     simp only[Bool.and_eq_true] at h'
     exact o_call g h'.1.1 h'.1.2 h'.2 mv
    | cons _ _=>first | exact no_h h | cases h
   | _=>first | exact no_h h | cases h
  | _=>first | exact no_h h | cases h
 | .c d,mv,X,ex,G,e,g,h=>o_keep (snd _ X ex G e g h).1 (snN _ X ex G e g h)
 | .g n d,mv,X,ex,G,e,g,h=>o_keep (snd _ X ex G e g h).1 (snN _ X ex G e g h)
 | .bin op a b,mv,X,ex,G,e,g,h=>o_keep (snd _ X ex G e g h).1 (snN _ X ex G e g h)
 | .neg a,mv,X,ex,G,e,g,h=>o_keep (snd _ X ex G e g h).1 (snN _ X ex G e g h)
 | .cmp op a b,mv,X,ex,G,e,g,h=>o_keep (snd _ X ex G e g h).1 (snN _ X ex G e g h)
 | .chain op op' a b c,mv,X,ex,G,e,g,h=>o_keep (snd _ X ex G e g h).1 (snN _ X ex G e g h)
 | .and_ a b,mv,X,ex,G,e,g,h=>o_keep (snd _ X ex G e g h).1 (snN _ X ex G e g h)
 | .or_ a b,mv,X,ex,G,e,g,h=>o_keep (snd _ X ex G e g h).1 (snN _ X ex G e g h)
 | .not_ a,mv,X,ex,G,e,g,h=>o_keep (snd _ X ex G e g h).1 (snN _ X ex G e g h)
 | .idx a i,mv,X,ex,G,e,g,h=>o_keep (snd _ X ex G e g h).1 (snN _ X ex G e g h)
 | .sl a lo hi,mv,X,ex,G,e,g,h=>o_keep (snd _ X ex G e g h).1 (snN _ X ex G e g h)
 | .bi f es,mv,X,ex,G,e,g,h=>o_keep (snd _ X ex G e g h).1 (snN _ X ex G e g h)
 | .isx a ns tb,mv,X,ex,G,e,g,h=>o_keep (snd _ X ex G e g h).1 (snN _ X ex G e g h)
 | .isi a k,mv,X,ex,G,e,g,h=>o_keep (snd _ X ex G e g h).1 (snN _ X ex G e g h)
 | .ftr x a y,mv,X,ex,G,e,g,h=>o_keep (snd _ X ex G e g h).1 (snN _ X ex G e g h)
 | .lrev a,mv,X,ex,G,e,g,h=>o_keep (snd _ X ex G e g h).1 (snN _ X ex G e g h)
 | .mth m o es,mv,X,ex,G,e,g,h=>o_keep (snd _ X ex G e g h).1 (snN _ X ex G e g h)
 | .comp G' fr tg src ifs elt,mv,X,ex,G,e,g,h=>o_keep (snd _ X ex G e g h).1 (snN _ X ex G e g h)
theorem snOs:∀ (as:List IR) (mv:Bool) (X:Cx) (ex:Str→Prop) (G:Gm) (l:List Expr),GOk Z CX cl xp X ex G→chks Z G as l=true→PA X l (ROs X.K ex (evOs cl mv as))
 | [],mv,X,ex,G,l,g,h=>by
  cases l with
  | nil=>exact os_nil
  | cons _ _=>first | exact no_h h | cases h
 | a::as,mv,X,ex,G,l,g,h=>by
  cases l with
  | nil=>first | exact no_h h | cases h
  | cons e l=>
   have h':(notStar e && chk Z G a e && chks Z G as l)=true:=h
   simp only[Bool.and_eq_true] at h'
   exact os_cons h'.1.1 (snO a mv X ex G e g h'.1.2) (snOs as mv X ex G l g h'.2)
end
end
end L2
namespace L2
open PySem PySem.Spec PyProof.Rows PySem.SeqAt
structure Bs where
 F:Addr→Prop
 H:Hp
 L:Addr→List V→Prop
 T:Addr→List V ⊕ Str→Prop
structure Frm (K:PySem.W.Frag) (B:Bs) (F:Addr→Prop) (H:Hp) (σ:St) (τ:Ev) (f:List Addr):Prop where
 fok:FOk F H
 rps:Rps K F H σ τ f
 nod:f.Nodup
 same:Same B.H H
 own:∀ a ∈ f,B.H a=none
 inn:∀ a,B.F a→F a
 out:∀ a,F a→B.F a∨B.H a=none
 pin:∀ a xs,B.L a xs→F a∧Rd H a (.lst xs)
 pit:∀ a xs,B.T a xs→SqE K H a xs
noncomputable def Fk (K:PySem.W.Frag) (B:Bs) (Dn:Ends):Fl→Prop
 | .nx τ=>∀ σ H F f,Frm K B F H σ τ f→Dn.nx σ H
 | .bk τ=>∀ σ H F f,Frm K B F H σ τ f→Dn.bk σ H
 | .ct τ=>∀ σ H F f,Frm K B F H σ τ f→Dn.ct σ H
 | .rt d=>∀ v H F fv,Out K B.F B.H F H v d fv→Dn.rt v H
noncomputable def RS (K:PySem.W.Frag) (ex:Str→Prop) (g:Ev→Res Fl):TS:=fun Dn σ H=>∃ B F τ f,Frm K B F H σ τ f∧PO' ex (g τ) (Fk K B Dn)
section
variable {K:PySem.W.Frag} {B:Bs} {F F':Addr→Prop} {H H':Hp} {σ:St} {τ τ':Ev} {f f':List Addr} {ex:Str→Prop}
theorem Frm.stp (m:Frm K B F H σ τ f) (s:Stp F H f F' H') (fok:FOk F' H') (r:Rps K F' H' σ τ' f') (nd:f'.Nodup) (hm:∀ a ∈ f',a ∈ f∨H a=none):Frm K B F' H' σ τ' f' where
 fok:=fok
 rps:=r
 nod:=nd
 same:=m.same.trans s.same
 own:=fun a ha=>(hm a ha).elim (m.own a) fun z=>m.same.free z
 inn:=fun a h=>s.inn a (m.inn a h)
 out:=fun a h=>by
  rcases s.out a h with h | h | h
  ·exact m.out a h
  ·exact .inr (m.own a h)
  ·exact .inr (m.same.free h)
 pin:=fun a xs h=>⟨s.inn a (m.pin a xs h).1,s.same.rd (m.pin a xs h).2⟩
 pit:=fun a xs h=>s.same.seqT (m.pit a xs h)
theorem Frm.ow {v:V} {d:D} {fv:List Addr} (m:Frm K B F H σ τ f) (o:Ow K F H f F' H' σ v d fv τ' f'):Frm K B F' H' σ τ' f'∧∀ a ∈ fv,B.H a=none:=
 ⟨m.stp o.stp o.fok o.rps (List.nodup_append.mp o.nod).2.1 fun a ha=>o.mem a (List.mem_append_right _ ha),fun a ha=>(o.mem a (List.mem_append_left _ ha)).elim (m.own a) fun z=>m.same.free z⟩
theorem Frm.grow (m:Frm K B F H σ τ f) (e:Same H H'):Frm K B F H' σ τ f:=by
 obtain⟨k1,k2,k3⟩:=grow0 m.fok m.rps e
 exact m.stp k3 k1 k2 m.nod fun a ha=>.inl ha
theorem Frm.ro {g:Ev→Res (D×Ev)} {Kt:D×Ev→Prop} {Q:VK} (m:Frm K B F H σ τ f) (h:PO' ex (g τ) Kt) (k:∀ p v H' F' fv f',Ow K F H f F' H' σ v p.1 fv p.2 f'→Kt p→Q v H'):RO K ex g σ H Q:=
 ⟨F,τ,f,m.fok,m.rps,m.nod,h.mono fun p hp v H' F' fv f' o=>k p v H' F' fv f' o hp⟩
theorem Frm.rt {is:List Nat} {g:Ev→Res Bool} {Kt:Bool→Prop} {Q:Bool→Hp→Prop} (m:Frm K B F H σ τ f) (h:PO' ex (g τ) Kt) (k:∀ b H',Frm K B F H' σ τ f→Same H H'→Kt b→Q b H'):RT K ex is g σ H Q:=
 rtAt (.refl _) (all_slots m.rps) h fun b H2 e2 _ hb=>k b H2 (m.grow e2) e2 hb
theorem Frm.rd {is:List Nat} {g:Ev→Res D} {Kt:D→Prop} {Q:VK} (m:Frm K B F H σ τ f) (h:PO' ex (g τ) Kt) (k:∀ d v H',Frm K B F H' σ τ f→Same H H'→HRep K (nw (fun _=>True) H) H' v d→Kt d→Q v H'):RD K ex is g σ H Q:=
 rdAt (.refl _) (all_slots m.rps) h fun b v H2 e2 _ mv hb=>k b v H2 (m.grow e2) e2 mv hb
mutual
theorem gT_own:∀ (t:Tg) {σ:St} {τ:Ev} {f:List Addr} {v:V} {d:D} {fv:List Addr} {Kt:Ev→Prop} {Q:St→Hp→Prop},Rps K F H σ τ f→MRep K F H v d fv→(fv++f).Nodup→PO' ex (setT t d τ) Kt→
  (∀ τ' σ' f',Rps K F H σ' τ' f'→f'.Nodup→(∀ a ∈ f',a ∈ fv++f)→Kt τ'→Q σ' H)→gT K t v σ H Q
 | .nm i,σ,τ,f,v,d,fv,Kt,Q,r,m,nd,h,k=>by
  obtain⟨g,h',r2,p2⟩:=r.put i m
  have nd2:(g++h').Nodup:=p2.nodup_iff.mpr nd
  exact k (τ.set i (some d)) (σ.set i (some v)) g r2 (List.nodup_append.mp nd2).1 (fun a ha=>p2.mem_iff.mp (List.mem_append_left _ ha)) h.ok
 | .tp ts,σ,τ,f,v,d,fv,Kt,Q,r,m,nd,h,k=>by
  cases m with
  | tup h1 h2=>
   obtain⟨gd,h⟩:=PO'.grd h
   have g':=of_decide_eq_true gd
   exact⟨_,_,rfl,.inl h1,by rw[h2.length];exact g',gTs_own ts r h2 nd h k⟩
  | lstS h0 h1 h2=>
   obtain⟨gd,h⟩:=PO'.grd h
   have g':=of_decide_eq_true gd
   exact⟨_,_,rfl,.inr (.inl h1),by rw[h2.length];exact g',gTs_own ts r h2 nd h k⟩
  | lstK h1 h2=>
   obtain⟨gd,h⟩:=PO'.grd h
   have g':=of_decide_eq_true gd
   exact⟨_,_,rfl,.inr h1.sq,by rw[h2.length];exact g',gTs_own ts r h2 nd h k⟩
  | lstO h0 h1 h2=>
   obtain⟨gd,h⟩:=PO'.grd h
   have g':=of_decide_eq_true gd
   rw[List.cons_append,List.nodup_cons] at nd
   exact⟨_,_,rfl,.inr (.inl (.inl h1)),by rw[h2.length];exact g',gTs_own ts r h2 nd.2 h fun τ' σ' f' a1 a2 a3 a4=>k τ' σ' f' a1 a2 (fun x hx=>by rw[List.cons_append];exact List.mem_cons_of_mem _ (a3 x hx)) a4⟩
  | _=>exact h.no.elim
theorem gTs_own:∀ (ts:List Tg) {σ:St} {τ:Ev} {f:List Addr} {vs:List V} {ds:List D} {fv:List Addr} {Kt:Ev→Prop} {Q:St→Hp→Prop},Rps K F H σ τ f→MReps K F H vs ds fv→(fv++f).Nodup→PO' ex (setTs ts ds τ) Kt→
  (∀ τ' σ' f',Rps K F H σ' τ' f'→f'.Nodup→(∀ a ∈ f',a ∈ fv++f)→Kt τ'→Q σ' H)→gTs K ts vs σ H Q
 | [],σ,τ,f,vs,ds,fv,Kt,Q,r,m,nd,h,k=>by
  cases m with
  | nil=>exact⟨rfl,k τ σ f r (by simpa using nd) (fun a ha=>by simpa using ha) h.ok⟩
  | cons _ _=>exact h.no.elim
 | t::ts,σ,τ,f,vs,ds,fv,Kt,Q,r,m,nd,h,k=>by
  cases m with
  | nil=>exact h.no.elim
  | cons m1 m2=>
   rename_i v d f1 vs ds f2
   have nd':(f2++(f1++f)).Nodup:=by
    refine(List.Perm.nodup_iff ?_).mp nd
    rw[← List.append_assoc]
    exact List.Perm.append_right f List.perm_append_comm
   refine⟨_,_,rfl,gT_own t r m1 (List.nodup_append.mp nd').2.1 (PO'.bnd h) fun τ' σ' f' r' nf' hm' h'=>?_⟩
   refine gTs_own ts r' m2 (List.nodup_append.mpr ⟨(List.nodup_append.mp nd').1,nf',fun a h1 b h2 e=>(List.nodup_append.mp nd').2.2 a h1 b (hm' b h2) e⟩) h' fun τ'' σ'' f'' r'' nf'' hm'' h''=>k τ'' σ'' f'' r'' nf'' (fun a ha=>?_) h''
   rcases List.mem_append.mp (hm'' a ha) with z | z
   ·exact List.mem_append_left _ (List.mem_append_right _ z)
   ·rcases List.mem_append.mp (hm' a z) with z | z
    ·exact List.mem_append_left _ (List.mem_append_left _ z)
    ·exact List.mem_append_right _ z
end
theorem Frm.gT {t:Tg} {v:V} {d:D} {fv:List Addr} {Kt:Ev→Prop} {Q:St→Hp→Prop} (m:Frm K B F H σ τ f) (mv:MRep K F H v d fv) (nd:(fv++f).Nodup) (hb:∀ a ∈ fv,B.H a=none) (h:PO' ex (setT t d τ) Kt)
  (k:∀ τ' σ' f',Frm K B F H σ' τ' f'→Kt τ'→Q σ' H):L2.gT K t v σ H Q:=
 gT_own t m.rps mv nd h fun τ' σ' f' r' nf' hm h'=>k τ' σ' f' ⟨m.fok,r',nf',m.same,fun a ha=>(List.mem_append.mp (hm a ha)).elim (hb a) (m.own a),m.inn,m.out,m.pin,m.pit⟩ h'
theorem Frm.write {i:Nat} {ds ds':List D} {w:V} {d:D} {fv:List Addr} {l:Addr} {xs ys:List V} (m:Frm K B F H σ τ f) (hs:slotD τ i=some (.lst true ds)) (hσ:σ[i]? = some (some (.ref l))) (hl:H l=some (.lst xs)) (mw:MRep K F H w d fv) (nd:(fv++f).Nodup) (hb:∀ a ∈ fv,B.H a=none)
  (hy:∀ fi,MReps K F H xs ds fi→∃ fl h,MReps K F H ys ds' fl∧(fl++h).Perm (fv++fi)):∃ f',Frm K B F (upd H l (.lst ys)) σ (τ.set i (some (.lst true ds'))) f':=by
 obtain⟨v,fs,g,h1,h2,h3,h4⟩:=m.rps.at hs
 rw[hσ] at h1
 cases h1
 cases h2 with
 | @lstO a xs' ds0 fi hF hH hm=>
  rw[hl] at hH
  cases hH
  obtain⟨fl,h,hm',hp⟩:=hy fi hm
  have ndf:((l::fi)++g).Nodup:=h4.nodup_iff.mp m.nod
  have nda:(fv++((l::fi)++g)).Nodup:=(List.Perm.append_left fv h4).nodup_iff.mp nd
  have lg:l ∉ g:=by
   rw[List.cons_append,List.nodup_cons] at ndf
   exact fun z=>ndf.1 (List.mem_append_right _ z)
  have lfi:l ∉ fi:=by
   rw[List.cons_append,List.nodup_cons] at ndf
   exact fun z=>ndf.1 (List.mem_append_left _ z)
  have lfv:l ∉ fv:=fun z=>(List.nodup_append.mp nda).2.2 l z l (by simp) rfl
  have inFl:∀ a ∈ fl,a ∈ fv++fi:=fun a ha=>hp.mem_iff.mp (List.mem_append_left _ ha)
  have lfl:l ∉ fl:=fun z=>(List.mem_append.mp (inFl l z)).elim lfv lfi
  have sl:∀ a xs,F a→Rd H a (.lst xs)→F a∧Rd (upd H l (.lst ys)) a (.lst xs):=fun a xs h r=>by
   refine⟨h,?_⟩
   have:a≠l:=fun z=>hF (by rw[← z];exact h)
   unfold Rd
   rw[upd_ne this]
   exact r
  have st:∀ a xs,SqE K H a xs→SqE K (upd H l (.lst ys)) a xs:=fun a xs h=>h.upd hl
  have r1:Rps K F (upd H l (.lst ys)) σ (τ.set i none) g:=h3.step sl st fun a ha n _=>⟨n,upd_ne fun z=>lg (by rw[← z];exact ha)⟩
  have m1:MRep K F (upd H l (.lst ys)) (.ref l) (.lst true ds') (l::fl):=.lstO hF upd_same (hm'.step sl st fun a ha n _=>⟨n,upd_ne fun z=>lfl (by rw[← z];exact ha)⟩)
  obtain⟨g',h',r2,p2⟩:=r1.put i m1
  have hσ':σ.set i (some (.ref l))=σ:=by
   apply List.ext_getElem?
   intro j
   rw[List.getElem?_set]
   by_cases hj:i=j
   ·subst hj
    have hlt:i < σ.length:=(List.getElem?_eq_some_iff.mp hσ).1
    rw[if_pos rfl,if_pos hlt,hσ]
   ·rw[if_neg hj]
  rw[hσ',List.set_set] at r2
  have ndl:((l::fl)++g).Nodup:=by
   rw[List.cons_append,List.nodup_cons]
   refine⟨fun z=>(List.mem_append.mp z).elim lfl lg,List.nodup_append.mpr ⟨?_,(List.nodup_append.mp ndf).2.1,fun a h1 b h2 e=>?_⟩⟩
   ·have:(fl++h).Nodup:=hp.nodup_iff.mpr (List.nodup_append.mpr ⟨(List.nodup_append.mp nda).1,(List.nodup_cons.mp (List.nodup_append.mp ndf).1).2,fun a h1 b h2 e=>(List.nodup_append.mp nda).2.2 a h1 b (List.mem_append_left _ (List.mem_cons_of_mem _ h2)) e⟩)
    exact(List.nodup_append.mp this).1
   ·subst e
    rcases List.mem_append.mp (inFl a h1) with z | z
    ·exact(List.nodup_append.mp nda).2.2 a z a (List.mem_append_right _ h2) rfl
    ·exact(List.nodup_append.mp ndf).2.2 a (List.mem_cons_of_mem _ z) a h2 rfl
  have nd2:(g'++h').Nodup:=p2.nodup_iff.mpr ndl
  have lB:B.H l=none:=m.own l (h4.mem_iff.mpr (by simp))
  refine⟨g',fun a h=>?_,r2,(List.nodup_append.mp nd2).1,fun b o hbo=>?_,fun a ha=>?_,m.inn,m.out,fun a xs h=>⟨(m.pin a xs h).1,(sl a xs (m.pin a xs h).1 (m.pin a xs h).2).2⟩,fun a xs h=>st a xs (m.pit a xs h)⟩
  ·have:a≠l:=fun z=>hF (by rw[← z];exact h)
   rw[upd_ne this]
   exact m.fok a h
  ·have:b≠l:=fun z=>by rw[z,lB] at hbo;cases hbo
   rw[upd_ne this]
   exact m.same _ _ hbo
  ·have:a ∈ (l::fl)++g:=p2.mem_iff.mp (List.mem_append_left _ ha)
   rcases List.mem_append.mp this with z | z
   ·rcases List.mem_cons.mp z with rfl | z
    ·exact lB
    ·rcases List.mem_append.mp (inFl a z) with z | z
     ·exact hb a z
     ·exact m.own a (h4.mem_iff.mpr (List.mem_append_left _ (List.mem_cons_of_mem _ z)))
   ·exact m.own a (h4.mem_iff.mpr (List.mem_append_right _ z))
theorem MReps.set {w:V} {d:D} {fv:List Addr} (mw:MRep K F H w d fv):∀ {xs:List V} {ds:List D} {fi:List Addr} (j:Nat),MReps K F H xs ds fi→∃ fl h,MReps K F H (xs.set j w) (ds.set j d) fl∧(fl++h).Perm (fv++fi)
 | _,_,_,_,.nil=>⟨[],_,.nil,.refl _⟩
 | _,_,_,0,.cons (f:=f0) (g:=g0) m1 m2=>⟨_,f0,.cons mw m2,by rw[List.append_assoc];exact List.Perm.append_left _ List.perm_append_comm⟩
 | _,_,_,j + 1,.cons (f:=f0) (g:=g0) m1 m2=>by
  obtain⟨fl,h,h1,h2⟩:=MReps.set mw j m2
  refine⟨f0++fl,h,.cons m1 h1,?_⟩
  rw[List.append_assoc]
  refine(List.Perm.append_left f0 h2).trans ?_
  rw[← List.append_assoc,← List.append_assoc]
  exact List.Perm.append_right g0 List.perm_append_comm
theorem MReps.snoc {w:V} {d:D} {fv:List Addr} (mw:MRep K F H w d fv) {xs:List V} {ds:List D} {fi:List Addr} (m:MReps K F H xs ds fi):∃ fl h,MReps K F H (xs++[w]) (ds++[d]) fl∧(fl++h).Perm (fv++fi):=
 ⟨fi++(fv++[]),[],m.append (.cons mw .nil),by rw[List.append_nil,List.append_nil];exact List.perm_append_comm⟩
end
end L2
namespace L2
open PySem PySem.Spec PyProof.Rows PySem.SeqAt
noncomputable def notTuple:Expr→Bool
 | .Tuple ..=>false
 | _=>true
noncomputable def notComp:Expr→Bool
 | .ListComp ..=>false
 | .SetComp ..=>false
 | .DictComp ..=>false
 | _=>true
noncomputable def isName:Expr→Bool
 | .Name ..=>true
 | _=>false
noncomputable def isTup:Expr→Bool
 | .Tuple ..=>true
 | _=>false
noncomputable def rsv:Option Expr→(Str→Bool)→Bool
 | some (.Call (.Name x _) [.Constant (.str _) _ _] [] _),k=>k x
 | _,_=>false
theorem rsv_ok {e:Option Expr} {k:Str→Bool} (h:rsv e k=true):∃ x np w j p cpos,e=some (.Call (.Name x np) [.Constant (.str w) j p] [] cpos)∧k x=true:=by
 unfold rsv at h
 split at h
 ·exact⟨_,_,_,_,_,_,rfl,h⟩
 ·cases h
noncomputable def chkN (G:Gm) (i:Nat) (x:Str):Bool:=G.N[i]? == some x && (G.kd[i]? == some .local || (G.df && G.kd[i]? == some .cell))
noncomputable def rev:Stmt→(Option Expr→Bool)→Bool
 | .Raise e none _,k=>k e
 | _,_=>false
theorem rev_ok {s:Stmt} {k:Option Expr→Bool} (h:rev s k=true):∃ e pos,s=.Raise e none pos∧k e=true:=by
 unfold rev at h
 split at h
 ·exact⟨_,_,rfl,h⟩
 ·cases h
noncomputable def rsx:Option Expr→(Str→Expr→Bool)→Bool
 | some (.Call (.Name x _) [a] [] _),k=>k x a
 | _,_=>false
theorem rsx_ok {e:Option Expr} {k:Str→Expr→Bool} (h:rsx e k=true):∃ x np a cpos,e=some (.Call (.Name x np) [a] [] cpos)∧k x a=true:=by
 unfold rsx at h
 split at h
 ·exact⟨_,_,_,_,rfl,h⟩
 ·cases h
noncomputable def tcv:Stmt→(Str→Str→List Expr→Str→Str→Stmt→List Stmt→Bool)→Bool
 | .Try [.Assign [.Name xi _] (.Call (.Name xf _) args [] _) _] [.ExceptHandler (some (.Name xc _)) (some y) (b0::r) _] [] [] _,k=>k xi xf args xc y b0 r
 | _,_=>false
theorem tcv_ok {s:Stmt} {k:Str→Str→List Expr→Str→Str→Stmt→List Stmt→Bool} (h:tcv s k=true):∃ xi pi xf pf args pc pa xc np y b0 r hp pos,s=.Try [.Assign [.Name xi pi] (.Call (.Name xf pf) args [] pc) pa] [.ExceptHandler (some (.Name xc np)) (some y) (b0::r) hp] [] [] pos∧k xi xf args xc y b0 r=true:=by
 unfold tcv at h
 split at h
 ·exact⟨_,_,_,_,_,_,_,_,_,_,_,_,_,_,rfl,h⟩
 ·cases h
mutual
noncomputable def chkS (Z:Sg) (G:Gm):IS→Stmt→Bool
 | .asg tg e,.Assign [t] v _=>chkT G tg t && chk Z G e v && (isName t || (isTup t && notTuple v))
 | .setix i k e,.Assign [.Subscript (.Name x _) s _] v _=>chkV G i x && notSlice s && chk Z G k s && chk Z G e v
 | .app i e,.Expr (.Call (.Attribute (.Name x _) name apos) [v] [] cpos) _=>chkV G i x && name == "append" && apos.endLine == cpos.line && notStar v && chk Z G e v
 | .rvs i,.Expr (.Call (.Attribute (.Name x _) name apos) [] [] cpos) _=>chkV G i x && name == "reverse" && apos.endLine == cpos.line
 | .clr i,.Expr (.Call (.Attribute (.Name x _) name apos) [] [] cpos) _=>chkV G i x && name == "clear" && apos.endLine == cpos.line
 | .pass,.Expr (.Constant (.str _) _ _) _=>true
 | .exp e,.Expr v _=>notComp v && chk Z G e v
 | .ret e,.Return (some v) _=>chk Z G e v
 | .retN,.Return none _=>true
 | .if_ t a b,.If c x y _=>chk Z G t c && chkSs Z G a x && chkSs Z G b y
 | .for_ tg s body,.For t it b [] _=>((G.cm && G.rs) && chkT G tg t) && (chkSr Z G s it && srOk s t) && chkSs Z G body b
 | .while_ t body,.While c b [] _=>(G.rs && chk Z G t c) && chkSs Z G body b
 | .brk,.Break _=>true
 | .cnt,.Continue _=>true
 | .pass,.Pass _=>true
 | .never,_=>true
 | .raisee n c e,s=>rev s fun o=>rsx o fun x a=>G.rs && G.cm && chkG Z G n x && x == c && Z.rc.contains (n,c) && chks Z {G with rs:=false,tr:=false} [e] [a]
 | .tryc i f es n cs k hd,s=>tcv s fun xi xf args xc y b0 r=>G.tr && G.cm && chkN G i xi && chkG Z G f xf && Z.fnc G f && chks Z {G with rs:=false,tr:=false} es args && chkG Z G n xc && cs.all (fun c=>Z.xm.contains (c,n)) && G.N[k]? == some y && G.kd[k]? == some .local && chkSs Z {G with cm:=false,rs:=false,tr:=false} hd (b0::r)
 | .raise_ n c _,.Raise e none _=>rsv e fun x=>G.rs && G.cm && chkG Z G n x && x == c && Z.rc.contains (n,c)
 | _,_=>false
noncomputable def chkSs (Z:Sg) (G:Gm):List IS→List Stmt→Bool
 | [],[]=>true
 | a::as,s::ss=>chkS Z G a s && chkSs Z G as ss
 | _,_=>false
end
section
variable {Z:Sg} {CX:CXT} {cl:Nat→List D→Res D} {xp:XK→Hp→Str→Prop} {X:Cx} {ex:Str→Prop} {G:Gm}
theorem t_asg {tg:Tg} {ga:Ev→Res (D×Ev)} {Dn:Ends} {σ:St} {H:Hp} (h:RS X.K ex (fun τ=>bnd (ga τ) fun p=>bnd (setT tg p.1 p.2) fun τ'=>.ok (.nx τ')) Dn σ H):tAsg (RO X.K ex ga) (gT X.K tg) Dn σ H:=by
 obtain⟨B,F,τ,f,m,q⟩:=h
 refine m.ro (PO'.bnd q) fun p v H' F' fv f' o hp=>?_
 obtain⟨m',hb⟩:=m.ow o
 exact m'.gT o.rep o.nod hb (PO'.bnd hp) fun τ' σ' f'' m'' h'=>h'.ok _ _ _ _ m''
theorem st_asg (g:GOk Z CX cl xp X ex G) {tg:Tg} {e:IR} {t v:Expr} {pos:Pos} (ht:chkT G tg t=true) (hv:chk Z G e v=true) (hc:(isName t || (isTup t && notTuple v))=true):PS X (.Assign [t] v pos) (RS X.K ex (evS cl (.asg tg e))):=by
 have pe:=snO e false X ex G v g hv
 have pg:=pgT g tg t ht
 cases t with
 | Name x px=>
  cases tg with
  | tp _=>cases ht
  | nm i=>
   have ht':(G.N[i]? == some x && (G.kd[i]? == some .local || (G.df && G.kd[i]? == some .cell)))=true:=ht
   rw[Bool.and_eq_true,Bool.or_eq_true,Bool.and_eq_true] at ht'
   have hx:G.N[i]? = some x:=eq_of_beq ht'.1
   have hk:=g.kd i x hx
   have hloc:Loc X.env.scope x:=ht'.2.elim (fun z=>.inl (hk.trans (eq_of_beq z))) fun z=>.inr (hk.trans (eq_of_beq z.2))
   have hfn:X.fn x=true∨X.env.scope.names.lookup x=some .local:=ht'.2.elim (fun z=>.inr (hk.trans (eq_of_beq z))) fun z=>.inl (g.df z.1 x)
   have plain:swapsWith v (some (.Name x px)) pos.line X.env=pure false→PS X (.Assign [.Name x px] v pos) (RS X.K ex (evS cl (.asg (.nm i) e))):=fun hs=>
    psMono (ps_set (i:=i) (by rw[g.N];exact g.nod) (by rw[g.N];exact hx) hloc pe hs hfn) fun Dn σ H h=>t_asg h
   cases v with
   | ListComp el gens scope vpos=>
    have hsw:swapsWith (.ListComp el gens scope vpos) (some (.Name x px)) pos.line X.env=pure (X.env.blockKind == .function && X.env.kindOf x == some .local && px.line == vpos.line && !(scope.names.any fun (n,k)=>n == x && (k == .local || k == .cell))):=rfl
    cases hb:(X.env.blockKind == .function && X.env.kindOf x == some .local && px.line == vpos.line && !(scope.names.any fun (n,k)=>n == x && (k == .local || k == .cell))) with
    | false=>exact plain (by rw[hsw,hb])
    | true=>
     rw[hb] at hsw
     have hlx:X.env.kindOf x=some .local:=by
      simp only[Bool.and_eq_true] at hb
      exact eq_of_beq hb.1.1.2
     cases e with
     | comp G' fr T src ifs elt=>
      have hv:gen1 gens (fun t it fs=>chkScope Z G scope G' fr && chkT G' T t && (tgs T).all (fun i=>decide (fr.length≤i)) && (chkSr Z G src it && srOk src t) && chks Z G' ifs fs && chk Z G' elt el)=true:=hv
      obtain⟨t,it,fs,rfl,hv⟩:=gen1_ok hv
      have h':(chkScope Z G scope G' fr && chkT G' T t && (tgs T).all (fun i=>decide (fr.length≤i)) && (chkSr Z G src it && srOk src t) && chks Z G' ifs fs && chk Z G' elt el)=true:=hv
      simp only[Bool.and_eq_true] at h'
      have hs:=scOk_of h'.1.1.1.1.1
      have hT:=h'.1.1.1.1.2
      have ha:∀ i ∈ tgs T,fr.length≤i:=fun i hi=>of_decide_eq_true (List.all_eq_true.mp h'.1.1.1.2 i hi)
      intro pins s' σ H Dn Iv h
      obtain⟨cl',S⟩:=compSc_of g Iv.ok hs
      have p:=ps_comp (py:=px) (spos:=pos) (i:=i) (pos:=vpos) (elt:=el) (ifs:=fs) (tg:=t) (g:=gT X.K T) (tt:=RT X.K nox (varss ifs) (evTs cl ifs)) (te:=RD X.K nox (vars elt) (evR cl elt)) (g.calm hs.cm) (by rw[g.N];exact g.nod) (by rw[g.N];exact hx) hlx S (sndS src X ex G it t g h'.1.1.2.1 h'.1.1.2.2) (fun C s H fp=>pgT (gok_comp g hs cl' C s H fp) T t hT)
       (fun C s H fp=>sndT ifs _ nox G' fs (gok_comp g hs cl' C s H fp) h'.1.2) (fun C s H fp=>(snd elt _ nox G' el (gok_comp g hs cl' C s H fp) h'.2).1) hsw (fun x=>folded_src h'.1.1.2.1 X.env x)
      refine p pins s' σ H Dn Iv ?_
      obtain⟨B,F,τ,f,m,q⟩:=h
      -- as one that is kept
      have q0:PO' ex (bnd (bnd (evR cl (.comp G' fr T src ifs elt) τ) fun d=>.ok (keepD (.comp G' fr T src ifs elt) d τ)) fun p=>bnd (setT (.nm i) p.1 p.2) fun τ'=>.ok (.nx τ')) (Fk X.K B Dn):=q
      have q1:=PO'.bnd (PO'.bnd q0)
      have fin:∀ (d:D) (v:V) (H':Hp) (F':Addr→Prop) (fv f':List Addr),Ow X.K F H f F' H' σ v (keepD (.comp G' fr T src ifs elt) d τ).1 fv (keepD (.comp G' fr T src ifs elt) d τ).2 f'→(∀ (p:D×Ev),p=keepD (.comp G' fr T src ifs elt) d τ→PO' ex (bnd (setT (.nm i) p.1 p.2) fun τ'=>.ok (.nx τ')) (Fk X.K B Dn))→Dn.nx (σ.set i (some v)) H':=by
       intro d v H' F' fv f' o hp
       obtain⟨m',hb'⟩:=m.ow o
       have:=m'.gT (t:=.nm i) (Q:=Dn.nx) o.rep o.nod hb' (PO'.bnd (hp _ rfl)) fun τ' σ' f'' m'' h'=>h'.ok _ _ _ _ m''
       exact this
      cases z:evR cl (.comp G' fr T src ifs elt) τ with
      | error er=>
       rw[z] at q1
       cases er with
       | stuck=>exact q1.no.elim
       | exc c=>
        refine comp_core (S:=fun _=>True) (τ:=τ) (ex:=ex) (Kt:=fun _=>False) hs.fle ha (all_slots m.rps) ?_ fun A ys ds H' e hA hA' mm k=>k.elim
        show PO' ex (evR cl (.comp G' fr T src ifs elt) τ) _
        rw[z]
        exact q1
      | ok d=>
       rw[z] at q1
       have q2:=q1.ok.ok
       obtain⟨o',ds,rfl⟩:∃ o ds,d=.lst o ds:=by
        have zz:=z
        rw[evR_comp] at zz
        obtain⟨its,_,zz⟩:=bnd_ok zz
        obtain⟨_,zz⟩:=grd_ok zz
        obtain⟨ds,_,zz⟩:=bnd_ok zz
        cases zz
        exact⟨true,ds,rfl⟩
       by_cases hi:lfrees ds=true
       ·have hkp:keepD (.comp G' fr T src ifs elt) (.lst o' ds) τ=(.lst true ds,τ):=by
         unfold keepD
         rw[if_neg (show ¬ lfree (.lst o' ds)=true by intro z;cases z)]
         show (if lfrees ds=true then _ else _)=_
         rw[if_pos hi]
        refine comp_core (S:=fun _=>True) (τ:=τ) (ex:=ex) (Kt:=fun d'=>∃ o'',d'=.lst o'' ds) hs.fle ha (all_slots m.rps) ?_ fun A ys ds' H' e hA hA' mm k=>?_
        ·show PO' ex (evR cl (.comp G' fr T src ifs elt) τ) _
         rw[z]
         exact⟨o',rfl⟩
        ·obtain⟨o'',k⟩:=k
         cases k
         obtain⟨k1,k2,k3⟩:=grow0 m.fok m.rps e
         refine fin (.lst o' ds) (.ref A) H' F [A] f ?_ (fun p hp=>by subst hp;exact q2)
         rw[hkp]
         refine⟨k3,k1,.lstO (fun zz=>m.fok A zz hA) hA' (mm.free hi),k2,?_,fun a ha=>?_⟩
         ·rw[List.singleton_append,List.nodup_cons]
          refine⟨fun zz=>?_,m.nod⟩
          obtain⟨_,xs,e⟩:=m.rps.own A zz
          rw[hA] at e;cases e
         ·rw[List.singleton_append] at ha
          rcases List.mem_cons.mp ha with rfl | ha
          ·exact .inr hA
          ·exact .inl ha
       ·have hkp:keepD (.comp G' fr T src ifs elt) (.lst o' ds) τ=(.lst true (ers ds),frz (vars (.comp G' fr T src ifs elt)) τ):=by
         unfold keepD
         rw[if_neg (show ¬ lfree (.lst o' ds)=true by intro z;cases z)]
         show (if lfrees ds=true then _ else _)=_
         rw[if_neg hi]
        obtain⟨F1,gg,b1,b2,b3,b4,b5,b6⟩:=freeze1 (vars (.comp G' fr T src ifs elt)) m.fok m.rps m.nod
        refine comp_core (S:=F1) (τ:=τ) (ex:=ex) (Kt:=fun d'=>∃ o'',d'=.lst o'' ds) hs.fle ha b6 ?_ fun A ys ds' H' e hA hA' mm k=>?_
        ·show PO' ex (evR cl (.comp G' fr T src ifs elt) τ) _
         rw[z]
         exact⟨o',rfl⟩
        ·obtain⟨o'',k⟩:=k
         cases k
         obtain⟨c1,c2,c3⟩:=grow (fun a=>a≠A) b1 b2 e
         have m2:HReps X.K (fun a=>F1 a∨(a≠A∧H a=none∧H' a≠none)) H' ys ds:=mm.step (fun a xs h r=>⟨h.1.elim (fun z=>.inl z) fun z=>.inr ⟨h.2,z,r.some⟩,r⟩) fun a xs h=>h
         refine fin (.lst o' ds) (.ref A) H' (fun a=>F1 a∨(a≠A∧H a=none∧H' a≠none)) [A] gg ?_ (fun p hp=>by subst hp;exact q2)
         rw[hkp]
         refine⟨b4.trans c3 (fun x hx=>.inl (b5 x hx)),c1,.lstO (fun zz=>?_) hA' m2.frozen,c2,?_,fun a ha=>?_⟩
         ·rcases zz with zz | zz
          ·exact b1 A zz hA
          ·exact zz.1 rfl
         ·rw[List.singleton_append,List.nodup_cons]
          refine⟨fun zz=>?_,b3⟩
          obtain⟨_,xs,e⟩:=b2.own A zz
          rw[hA] at e;cases e
         ·rw[List.singleton_append] at ha
          rcases List.mem_cons.mp ha with rfl | ha
          ·exact .inr hA
          ·exact .inl (b5 a ha)
     | _=>first | exact no_h hv | cases hv
   | SetComp _ _ _ _=>cases e<;>first | exact no_h hv | cases hv
   | DictComp _ _ _ _ _=>cases e<;>first | exact no_h hv | cases hv
   | _=>exact plain rfl
 | Tuple ts k px=>
  have hc':notTuple v=true:=hc
  refine psMono (ps_asg pe pg ?_ ?_ rfl) fun Dn σ H h=>t_asg h
  ·cases v<;>rfl
  ·cases v<;>first | rfl | cases hc'
 | _=>cases hc
end
end L2
namespace L2
open PySem PySem.Spec PyProof.Rows PySem.SeqAt
theorem exc_own {K:PySem.W.Frag} {h:Heap} {C:Addr} {bmB:List Value} {newId:String} (X:K.In h) (q:PySem.W.excIn K C bmB newId=true):∃ bm N nm qn bs hdct sn sub ab col dd k0 k1 k2 k3 k5 mN,
  h.get? C=some (excClassObj nm qn C N bs bm hdct sn sub ab col dd k0 k1 k2 k3 k5 newId)∧h.Ns N mN∧mN "__init__" = none∧OwnTail h bmB bm:=by
 unfold PySem.W.excIn at q;split at q
 ·rename_i dd cd sl ho;split at q
  ·rename_i C' bm k0 k1 k2 k3 n k5 hm hs;simp only[Bool.and_eq_true,beq_iff_eq,Bool.not_eq_true'] at q
   obtain⟨⟨⟨⟨⟨rfl,rfl⟩,hdel⟩,ht⟩,hok⟩,hni⟩:=q;obtain⟨nm,bs,mro,ns,qn,hd,sn,sub,ab,col,del⟩:=cd
   dsimp only at hm hdel hok hni;subst hm hdel
   obtain⟨l⟩:=sl
   have hs:l=[k0,k1,k2,k3,some (.builtin n),k5]:=hs
   subst hs
   exact⟨bm,ns,nm,qn,bs,hd,sn,sub,ab,col,dd,k0,k1,k2,k3,k5,_,X _ _ ho,.of_isNs (PySem.W.isNs_of_in X hok),PySem.W.nsMap_none_of_in X hok hni,PySem.W.tail_of_in X ht⟩
  ·cases q
 ·cases q
section
variable {Z:Sg} {CX:CXT} {cl:Nat→List D→Res D} {xp:XK→Hp→Str→Prop} {X:Cx} {ex:Str→Prop} {G:Gm}
theorem st_raise (g:GOk Z CX cl xp X ex G) {n:Nat} {c w w':Str} {np cpos pos p1:Pos} {j:Nat} (hrs:G.rs=true) (hcm:G.cm=true) (hx:chkG Z G n c=true) (hc:(n,c) ∈ Z.rc) :
  PS X (.Raise (some (.Call (.Name c np) [.Constant (.str w) j p1] [] cpos)) none pos) (RS X.K ex (evS cl (.raise_ n c w'))):=by
 obtain⟨k1,k2,k3,k4⟩:=gl_of g hx
 obtain⟨_,C,hm,hn,hq⟩:=g.xrs n c hc
 intro pins s σ H Dn I ⟨B,F,τ,f,m,q⟩
 have q:ex c:=q
 obtain⟨bm,N,nm,qn,bs,hdct,sn,sub,ab,col,dd,k0,k1',k2',k3',k5,mN,e1,e2,e3,e4⟩:=exc_own I.ok.mod.kin hq
 refine wpAny_Raise_call_subT (C:=C) (nm:=nm) (q:=qn) (N:=N) (bs:=bs) (bm:=bm) (hdct:=hdct) (sn:=sn) (sub:=sub) (ab:=ab) (col:=col) (dd:=dd) (k0:=k0) (k1:=k1') (k2:=k2') (k3:=k3') (k5:=k5)
  PySem.F.excBase_ValueError (mN:=mN) (e4.hasType PySem.F.excBase_ValueError.hasBase) (I.ok.hd (g.calm hcm)) rfl e3 (ld_glob I k1 hm ⟨rfl,?_⟩ k4)
 have pa:PA X [.Constant (.str w) j p1] (tCons (tC (.str w)) tNil):=pa_cons pe_str pa_nil rfl
 refine Calls.evalArgs_plain (wpAny_mono (pa cpos pins s σ H (fun vs H'=>vs=[.str w]) I rfl) (fun us s2 ⟨vs,H1,I1,r,hv⟩=>⟨rfl,?_,I1.bk _ _ e1,e2.keeps I1.bk,e4.keeps I1.bk,fun h' e hx=>g.rse hrs pins σ H1 s2 c C h' e us I1 q hn hx⟩) fun _ _ y=>y)
 subst hv
 rw[← r.length]
 exact(by decide:1≤sizeLine)
end
end L2
namespace L2
open PySem PySem.Spec PyProof.Rows PySem.SeqAt
section
variable {X:Cx} {pins:List (Addr×Obj)} {σ:St} {H:Hp} {s:Shared}
theorem del_ok {M:Model} {A:Around} {E:Value→Shared→Prop} {i:Nat} {x:Str} {v:V} {Q:Unit→Shared→Prop} (I:Inv X pins σ H s) (hN:X.N.Nodup) (hi:X.N[i]? = some x) (hk:X.env.kindOf x=some .local) (hσ:σ[i]? = some (some v))
  (h:∀ s',Inv X pins (σ.set i none) H s'→Q () s'):wpAny M A (unbindName X.env x) Q E s:=by
 obtain⟨m,hn,hl⟩:=id I.loc
 have hcls:(X.env.scope.kind == .class || (X.env.scope.kind == .module && X.env.locals != X.env.globals))=false:=by rw[I.ok.kind];rfl
 have cne:=I.cne
 obtain⟨u,_,q⟩:=hl i x v hi hσ (.inl hk)
 have hv:m x=some u:=by
  rcases q with ⟨_,e⟩ | ⟨k,_⟩
  ·exact e
  ·rw[hk] at k;rcases k with k | k<;>cases k
 refine wpAny_unbindName_local hk hn hv hcls fun h' w hn' hs=>?_
 obtain⟨oL,_,_,hoL,_⟩:=id hn
 refine h _ ⟨I.ok,I.os,I.bare,⟨fun b o e n hb hx=>?_,fun b o e n hb hx=>?_,I.base.free,fun b o e hx=>?_,I.base.tups,I.base.frzs,I.base.tbls⟩,⟨_,hn',fun j y v' e1 e2 e3=>?_⟩,fun y c e=>?_,I.free,I.freeC,fun p hp=>?_,fun b ob e=>?_,by simpa using I.len⟩
 ·exact(hs.2 b (Nat.ne_of_lt (Nat.lt_of_lt_of_le (Heap.lt_size e) I.ok.above))).trans (I.base.keep b o e n hb hx)
 ·obtain⟨sl,e1⟩:=I.base.slot b o e n hb hx
  exact⟨sl,(hs.2 b (Nat.ne_of_lt (Nat.lt_of_lt_of_le (Heap.lt_size e) I.ok.above))).trans e1⟩
 ·obtain⟨o',e1⟩:=I.base.there b o e hx
  exact⟨o',(hs.2 b (Nat.ne_of_lt (Nat.lt_of_lt_of_le (Heap.lt_size e) I.ok.above))).trans e1⟩
 ·have hj:j≠i:=by
   rintro rfl
   have hlt:j < σ.length:=(List.getElem?_eq_some_iff.mp hσ).1
   rw[List.getElem?_set_self hlt] at e2
   cases e2
  rw[List.getElem?_set_ne (Ne.symm hj)] at e2
  obtain⟨u',r',q⟩:=hl j y v' e1 e2 e3
  refine⟨u',r',?_⟩
  rcases q with ⟨k,e⟩ | ⟨k,c,e,z⟩
  ·refine .inl ⟨k,?_⟩
   have:y≠x:=fun e=>hj (nodup_ix hN e1 (e ▸ hi))
   simp[this,e]
  ·exact .inr ⟨k,c,e,z.sameBut hs (cne y c e)⟩
 ·obtain⟨w',z⟩:=I.cell y c e
  exact⟨w',z.sameBut hs (cne y c e)⟩
 ·obtain⟨e,n,ne,nf,d⟩:=I.pin p hp
  exact⟨(hs.2 p.1 ne).trans e,n,ne,nf,d⟩
 ·refine(I.hok b ob e).stay (fun c w' hc q=>(hs.2 c ?_).trans q) (fun _ q=>q) fun _ _ q=>q
  rintro rfl
  rcases hc with rfl | hc
  ·rw[I.free] at e;cases e
  ·rw[I.free] at hc;cases hc
theorem unb_ok {M:Model} {A:Around} {E:Value→Shared→Prop} {i:Nat} {x:Str} {pos:Pos} {Q:Unit→Shared→Prop} (I:Inv X pins σ H s) (hN:X.N.Nodup) (hi:X.N[i]? = some x) (hk:X.env.kindOf x=some .local)
  (h:∀ s',Inv X pins (σ.set i none) H s'→Q () s'):wpAny M A (do bindName X.env x .none;unbindBehindTheSuite X.env x pos) Q E s:=by
 have hiσ:i < σ.length:=by rw[I.len];exact(List.getElem?_eq_some_iff.mp hi).1
 unfold bindName unbindBehindTheSuite
 refine wpAny_bind (wpAny_bind (wpAny_holding (wpAny_point (wpAny_bind (store_ok (v:=.non) I hN hi (.inl hk) rfl (fun s1 I1=>wpAny_point (wpAny_onRaise (del_ok I1 hN hi hk (v:=.non) (by rw[List.getElem?_set_self hiσ]) fun s2 I2=>?_))) (.inr hk))))))
 rw[List.set_set] at I2
 exact h s2 I2
theorem Inv.track {a:Addr} {o:Obj} {u:HO} (I:Inv X pins σ H s) (ha:s.heap.get? a=some o) (n:H a=none) (hu:ObjOk X.prog X.w (upd H a (.frz o u)) s.heap a u) (n0:∀ ob,X.s₀.heap.get? a=some ob→X.H₀ a=none→a ∉ X.ex→False)
  (n0':X.H₀ a=none) (nl:a≠X.env.locals) (nc:∀ x c,X.env.cells.lookup x=some c→c≠a) (np:∀ p ∈ X.pn++pins,p.1≠a):Inv X pins σ (upd H a (.frz o u)) s:=by
 refine⟨I.ok,I.os,I.bare,⟨I.base.keep,I.base.slot,fun b ob e z hx=>?_,I.base.there,fun b xs e=>?_,fun b ob v e=>?_,fun b ps e=>?_⟩,I.loc,I.cell,?_,fun x c e=>?_,fun p hp=>?_,fun b ob e=>?_,I.len⟩
 ·have:b≠a:=by rintro rfl;exact n0 ob e z hx
  rw[upd_ne this]
  exact I.base.free b ob e z hx
 ·have:b≠a:=by rintro rfl;rw[n0'] at e;cases e
  rw[upd_ne this];exact I.base.tups b xs e
 ·have:b≠a:=by rintro rfl;rw[n0'] at e;cases e
  rw[upd_ne this];exact I.base.frzs b ob v e
 ·have:b≠a:=by rintro rfl;rw[n0'] at e;cases e
  obtain⟨more,z⟩:=I.base.tbls b ps e
  exact⟨more,by rw[upd_ne this];exact z⟩
 ·rw[upd_ne (Ne.symm nl)];exact I.free
 ·rw[upd_ne (nc x c e)];exact I.freeC x c e
 ·obtain⟨e,z,r⟩:=I.pin p hp
  exact⟨e,by rw[upd_ne (np p hp)];exact z,r⟩
 ·by_cases hb:b=a
  ·subst hb
   rw[upd_same] at e
   cases e
   exact⟨ha,hu⟩
  ·rw[upd_ne hb] at e
   exact(I.hok b ob e).stay (fun _ _ _ z=>z) (fun c z=>by rw[upd_ne (ne_of_none z n)];exact z) fun c xs z=>by rw[upd_ne (ne_of_none z n)];exact z
theorem fly_inv {H1 H':Hp} {s1 s':Shared} {B:Heap} {a:Addr} {cls a0:Value} {h5:Heap} (I:Inv X pins σ H1 s1) (os:s'.os=s1.os) (bare:AllBare s'.gens) (un:Un (frs X.stack) [] H1 H' s1.heap s'.heap) (hB:HOk X.prog X.w H' B) (sm:Same H1 H')
  (kB:∀ b o,s1.heap.get? b=some o→H1 b=none→b ∉ frs X.stack→B.get? b=some o) (fl:Heap.FlyingW B X.stack a cls a0 h5) (up:s'.heap.UpToSlots h5):Inv X pins σ H' {s' with heap:=h5}:=by
 refine I.call' (s':={s' with heap:=h5}) os ⟨fun b o e n nf _=>fl.1 _ _ (kB b o e n nf),fun b o e n hf _=>?_,un.free,fun b o e _=>?_,fun b xs e=>sm _ _ e,fun b o u e=>sm _ _ e,fun b ps e=>⟨#[],by rw[sm _ _ e];simp⟩⟩ (hB.kept fl.1) bare (fun b z=>absurd z (by simp))
 ·obtain⟨sl,h1⟩:=un.slot b o e n hf (by simp)
  obtain⟨_,o',ho',nf⟩:=I.stack.mem hf
  rw[e] at ho'
  cases ho'
  obtain⟨sl',h2⟩:=up b _ h1 nf
  exact⟨sl',h2⟩
 ·cases q:H1 b with
  | none=>
   by_cases hf:b ∈ frs X.stack
   ·obtain⟨sl,h1⟩:=un.slot b o e q hf (by simp)
    obtain⟨_,o',ho',nf⟩:=I.stack.mem hf
    rw[e] at ho'
    cases ho'
    obtain⟨sl',h2⟩:=up b _ h1 nf
    exact⟨_,h2⟩
   ·exact⟨_,fl.1 _ _ (kB b o e q hf)⟩
  | some u=>
   obtain⟨ob,ho⟩:=(hB b u (sm _ _ q)).at
   exact⟨_,fl.1 _ _ ho⟩
end
theorem Rps.drop {K:PySem.W.Frag} {F:Addr→Prop} {H:Hp} {o:Option V}:∀ {σ:St} {τ:Ev} {f:List Addr} (i:Nat),Rps K F H σ τ f→f.Nodup→∃ g,Rps K F H (σ.set i o) (τ.set i Option.none) g∧g.Nodup∧∀ a ∈ g,a ∈ f
 | _,_,_,i,.nil,nd=>⟨[],.nil,nd,fun _ h=>h⟩
 | _,_,_,0,.none h,nd=>⟨_,.none h,nd,fun _ h=>h⟩
 | _,_,_,0,.some m h,nd=>⟨_,.none h,(List.nodup_append.mp nd).2.1,fun _ h=>List.mem_append_right _ h⟩
 | _,_,_,i + 1,.none h,nd=>by
  obtain⟨g,h1,h2,h3⟩:=Rps.drop (o:=o) i h nd
  exact⟨g,.none h1,h2,h3⟩
 | _,_,_,i + 1,.some (f:=f0) m h,nd=>by
  obtain⟨nd1,nd2,nd3⟩:=List.nodup_append.mp nd
  obtain⟨g,h1,h2,h3⟩:=Rps.drop (o:=o) i h nd2
  exact⟨f0++g,.some m h1,List.nodup_append.mpr ⟨nd1,h2,fun a ha b hb=>nd3 a ha b (h3 b hb)⟩,fun a ha=>(List.mem_append.mp ha).elim (List.mem_append_left _) fun z=>List.mem_append_right _ (h3 a z)⟩
theorem rps_none {K:PySem.W.Frag} {F:Addr→Prop} {H:Hp}:∀ {σ:St} {n:Nat},σ.length=n→Rps K F H σ (List.replicate n none) []
 | [],0,_=>.nil
 | _::σ,n + 1,h=>.none (rps_none (by simpa using h))
end L2
namespace L2
open PySem PySem.Spec PyProof.Rows PySem.SeqAt
noncomputable def xSuite (X:Cx) (a:Addr):Cx:={X with A:=X.A.mark (some (.ref a)),calm:=false,xe:=fun _ _=>False}
section
variable {X:Cx} {pins pins':List (Addr×Obj)} {σ:St} {H:Hp} {s:Shared} {E:Value→Shared→Prop} {a:Addr}
theorem inv_suite (I:Inv X pins σ H s):Inv (xSuite X a) pins σ H s:=
 ⟨⟨I.ok.mod,I.ok.kind,I.ok.glob,I.ok.blt,I.ok.above,I.ok.inj,I.ok.has,I.ok.cab,(fun z=>nomatch z),I.ok.frames,I.ok.stk,I.ok.exf,I.ok.bs,I.ok.bsz,I.ok.noex,I.ok.exfs,I.ok.funs,I.ok.frf⟩,I.os,I.bare,I.base,I.loc,I.cell,I.free,I.freeC,I.pin,I.hok,I.len⟩
theorem inv_unsuite (ok:X.Ok) (I:Inv (xSuite X a) pins σ H s):Inv X pins σ H s:=
 ⟨ok,I.os,I.bare,I.base,I.loc,I.cell,I.free,I.freeC,I.pin,I.hok,I.len⟩
end
section
variable {Z:Sg} {CX:CXT} {cl:Nat→List D→Res D} {xp:XK→Hp→Str→Prop} {X:Cx} {ex:Str→Prop} {G:Gm} {pins:List (Addr×Obj)} {a:Addr}
theorem gok_nox (g:GOk Z CX cl xp X ex G):GOk Z CX cl xp X.nox nox {G with rs:=false,tr:=false} where
 N:=g.N
 nod:=g.nod
 calm:=g.calm
 fk:=g.fk
 un:=g.un
 own:=fun z=>by cases z
 kd:=g.kd
 noD:=g.noD
 gl:=g.gl
 nam:=g.nam
 df:=g.df
 blt:=g.blt
 cst:=g.cst
 fns:=g.fns
 xcv:=g.xcv
 xcl:=g.xcl
 xmt:=g.xmt
 xrs:=g.xrs
 rse:=fun z=>by cases z
 tr:=fun z=>by cases z
 exs:=⟨fun _ _ _=>False,fun pins σ H s e s' _ h=>(g.exn _ _ _ _ _ h).elim,fun c _ z=>z.elim⟩
 hid:=g.hid
 exn:=g.exn
theorem gok_suite (g:GOk Z CX cl xp X ex G) (hpl:∀ f ∈ Z.fns,f ∈ Z.pl→∀ x,Z.name f=some x→FnC X.prog X.w X.K X.mg X.base CX (X.A.mark (some (.ref a))) cl xp f x):GOk Z CX cl xp (xSuite X a) nox {G with cm:=false,rs:=false,tr:=false} where
 N:=g.N
 nod:=g.nod
 calm:=fun z=>by cases z
 fk:=g.fk
 un:=g.un
 own:=fun z=>by cases z
 kd:=g.kd
 noD:=g.noD
 gl:=g.gl
 nam:=g.nam
 df:=g.df
 blt:=g.blt
 cst:=g.cst
 fns:=fun f hf h x hx=>hpl f hf (h.elim (fun z=>by cases z) id) x hx
 xcv:=g.xcv
 xcl:=g.xcl
 xmt:=g.xmt
 xrs:=g.xrs
 rse:=fun z=>by cases z
 tr:=fun z=>by cases z
 exs:=⟨fun _ _ _=>False,fun pins σ H s e s' _ h=>(g.exn _ _ _ _ _ h).elim,fun c _ z=>z.elim⟩
 hid:=g.hid
 exn:=g.exn
theorem st_raisee (g:GOk Z CX cl xp X ex G) {n:Nat} {c:Str} {e:IR} {a:Expr} {np cpos pos:Pos} (hrs:G.rs=true) (hcm:G.cm=true) (hx:chkG Z G n c=true) (hc:(n,c) ∈ Z.rc) (hst:chks Z {G with rs:=false,tr:=false} [e] [a]=true) :
  PS X (.Raise (some (.Call (.Name c np) [a] [] cpos)) none pos) (RS X.K ex (evS cl (.raisee n c e))):=by
 obtain⟨k1,k2,k3,k4⟩:=gl_of g hx
 obtain⟨_,C,hm,hn,hq⟩:=g.xrs n c hc
 intro pins s σ H Dn I ⟨B,F,τ,f,m,q⟩
 have q:PO' ex (bnd (noX (evR cl e τ)) fun _=>.error (.exc c)) (Fk X.K B Dn):=q
 have pa:=snds [e] X.nox nox _ [a] (gok_nox g) hst
 cases z:evR cl e τ with
 | error er=>rw[z] at q;exact q.no.elim
 | ok d=>
  rw[z] at q
  have q:ex c:=q
  obtain⟨bm,N,nm,qn,bs,hdct,sn,sub,ab,col,dd,k0,k1',k2',k3',k5,mN,e1,e2,e3,e4⟩:=exc_own I.ok.mod.kin hq
  refine wpAny_Raise_call_subT (C:=C) (nm:=nm) (q:=qn) (N:=N) (bs:=bs) (bm:=bm) (hdct:=hdct) (sn:=sn) (sub:=sub) (ab:=ab) (col:=col) (dd:=dd) (k0:=k0) (k1:=k1') (k2:=k2') (k3:=k3') (k5:=k5)
   PySem.F.excBase_ValueError (mN:=mN) (e4.hasType PySem.F.excBase_ValueError.hasBase) (I.ok.hd (g.calm hcm)) (star_none Z _ cpos X.env hst) e3 (ld_glob I k1 hm ⟨rfl,?_⟩ k4)
  have hra:RA X.K nox (varss [e]) (evRs cl [e]) σ H (fun vs _=>vs.length=1):=by
   refine⟨fun _=>True,τ,all_slots m.rps,?_⟩
   show PO' nox (bnd (evR cl e τ) fun d=>bnd (evRs cl [] τ) fun ds=>.ok (d::ds)) _
   rw[z]
   intro vs H' _ r
   exact r.length
  have hst':(notStar a && chk Z {G with rs:=false,tr:=false} e a && chks Z {G with rs:=false,tr:=false} [] [])=true:=hst
  simp only[Bool.and_eq_true] at hst'
  have e0:=star_cons hst'.1.1 [] X.env
  have pa':=pa cpos pins s σ H _ (I.wish _) hra
  rw[show starEach [a] X.nox.env=(false,eval a X.env)::starEach [] X.env from e0] at pa'
  rw[e0]
  refine Calls.evalArgs_plain (wpAny_mono pa' (fun us s2 ⟨vs,H1,I1,r,hv⟩=>⟨rfl,?_,I1.unwish.bk _ _ e1,e2.keeps I1.unwish.bk,e4.keeps I1.unwish.bk,fun h' e hx=>g.rse hrs pins σ H1 s2 c C h' e us I1.unwish q hn hx⟩) fun _ _ y=>y.elim)
  rw[← r.length,hv]
  exact(by decide:1≤sizeLine)
theorem run_hidA {k:Nat} {f:Nat} {fa:Addr} {fd:FuncData} {ps:List Str} {E:XK} {pins:List (Addr×Obj)} {σ:St} {H:Hp} {s:Shared} {Q:VK} {E':Value→Shared→Prop} {us:List Value} {vs:List V} {ds:List D} {Fc:Addr→Prop}
  (F:FnOk X.prog X.w X.K X.mg X.base CX k fa fd ps (spF X.K cl xp f ps)) (hr:Room k X.A) (hb:Binds X.K fd ps [])
  (hh:∀ (outer:List Env) (H:Hp) (s:Shared) (E:XK) (e:Value) (s':Shared),HOk X.prog X.w H s.heap→(∀ b ∈ frs outer,H b=none)→CX outer (hidC s.heap H) s E e s'→CX outer H s E e s')
  (I:Inv X pins σ H s) (hx:∀ (e:Value) (s':Shared),CX X.stack H s E e s'→E' e s') (r:Vals vs us) (hl:vs.length=ps.length) (fok:FOk Fc H) (m:HReps X.K Fc H vs ds)
  (q:PO' (xp E (hidC s.heap H)) (cl f (ers ds)) fun d=>∀ v H' F' fv,Out X.K Fc H F' H' v d fv→Q v H'):wpAny (model X.prog X.w) X.A (call (.ref fa) us) (EP X pins σ Q) E' s:=by
 have hsp:spF X.K cl xp f ps vs (hidC s.heap H) (fun v H'=>Pers s.heap (hidC s.heap H) H'→Q v (resC H H')) E:=
  ⟨hl,hid_lt _ _,_,ds,fun a h=>h.2,hid_rep I.hok m,q.mono fun d hd v H' F' fv o p=>hd v _ _ fv (out_hid I.hok fok p o)⟩
 have hl2:(us++([]:List Value)).length=ps.length:=by rw[List.append_nil,← r.length];exact hl
 have bd:=hb s us I.kIn hl2
 rw[List.append_nil] at bd
 refine wpAny_call (codeAny_mono (F.run X.A X.stack s (hidC s.heap H) ⟨us,[]⟩ us vs _ E hr I.env0h bd r hsp) fun r' s' hq=>?_)
 cases r' with
 | error e=>exact hx e s' (hh X.stack H s E e s' I.hok I.env0.frf hq)
 | ok fl=>
  cases fl with
  | ret u=>
   obtain⟨v,H',a1,a2,a3,a4,a5,a6⟩:=hq
   exact I.after (Q:=Q) ⟨v,resC H H',a1,a2,res_un I.hok a3,res_ok I.hok a4 (un_pers a3) (fs:=frs X.stack) (fun b o e n f=>a3.keep b o e n f (by simp)) I.env0.frf,a5,a6 (un_pers a3)⟩
  | next=>exact False.elim hq
  | brk=>exact False.elim hq
  | cont=>exact False.elim hq
theorem call_at (g:GOk Z CX cl xp X ex G) (tr:TrOk Z CX cl xp X) {f:Nat} {x:Str} {p pos:Pos} {es:List IR} {args:List Expr} (h1:chkG Z G f x=true) (h2:Z.fnc G f=true) (hst:chks Z {G with rs:=false,tr:=false} es args=true)
  {pins:List (Addr×Obj)} {s:Shared} {σ:St} {H:Hp} (I:Inv X pins σ H s) {τ:Ev} {S:Addr→Prop} (hs:Slots X.K S H σ τ (varss es)) {ds:List D} (hd:evRs cl es τ=.ok ds) {Q:VK} {E':Value→Shared→Prop}
  (hok:∀ vs H1,Same H H1→HReps X.K (nw S H) H1 vs ds→∃ Fc,FOk Fc H1∧HReps X.K Fc H1 vs ds∧∀ d,cl f (ers ds)=.ok d→∀ v H' F' fv,Out X.K Fc H1 F' H' v d fv→Q v H')
  (hsk:cl f (ers ds)≠stk) (hxc:∀ c,cl f (ers ds)=.error (.exc c)→∃ C,PySem.W.nsIn X.K mainGlobals c=some (some (.ref C))∧∀ (H1:Hp) (s1:Shared) (e:Value) (s':Shared),Same H H1→Inv X pins σ H1 s1→CX1 X.prog X.w X.stack H1 s1 (fun cls _ _=>cls=.ref C) e s'→E' e s') :
  wpAny (model X.prog X.w) X.A (eval (.Call (.Name x p) args [] pos) X.env) (EP X pins σ Q) E' s:=by
 obtain⟨k1,k2,k3,k4⟩:=gl_of g h1
 obtain⟨k,fa',fd,ps,hm,hkp,hb,F,hr,hlen⟩:=(g.fns f (fnc_fn h2).1 (fnc_fn h2).2 x k2).ex
 have pa:=snds es X.nox nox _ args (gok_nox g) hst
 have hlp:ds.length=ps.length:=by
  rw[← ers_length]
  refine hlen (fun _=>True) (ers ds) (fun _=>True) ?_
  cases z:cl f (ers ds) with
  | ok d=>trivial
  | error er=>
   cases er with
   | stuck=>exact absurd z hsk
   | exc c=>trivial
 have fin:∀ (us:List Value) (s1:Shared) (vs:List V) (H1:Hp),Inv X pins σ H1 s1→Vals vs us→Same H H1→HReps X.K (nw S H) H1 vs ds→wpAny (model X.prog X.w) X.A (call (.ref fa') us) (EP X pins σ Q) E' s1:=by
  intro us s1 vs H1 I1 r e1 m0
  obtain⟨Fc,fok,mm,hq⟩:=hok vs H1 e1 m0
  have hl:vs.length=ps.length:=by rw[mm.length];exact hlp
  cases z:cl f (ers ds) with
  | error er=>
   cases er with
   | stuck=>exact absurd z hsk
   | exc c=>
    obtain⟨C,hC,hx⟩:=hxc c z
    exact run_hidA (E:=fun cls _ _=>cls=.ref C) F hr hb g.hid I1 (fun e s' h'=>hx H1 s1 e s' e1 I1 (tr.cx _ _ _ _ _ _ h')) r hl fok mm (by rw[z];exact tr.xp c C _ hC)
  | ok d=>
   refine wpAny_mono (run_hid (X:=X.nox) (Q:=Q) (E:=fun _ _ _=>False) F hr hb (fun pins' σ' H' s' e s'' I' h'=>(g.exn _ _ _ _ _ h').elim) g.hid (I1.wish _) r hl fok mm (by rw[z];exact fun v H' F' fv o=>hq d z v H' F' fv o)) (fun _ _ ⟨v,H',I',rv,q⟩=>⟨v,H',I'.unwish,rv,q⟩) fun _ _ y=>y.elim
 have hra:RA X.K nox (varss es) (evRs cl es) σ H (fun vs H1=>Same H H1∧HReps X.K (nw S H) H1 vs ds):=by
  refine⟨S,τ,hs,?_⟩
  rw[hd]
  exact fun vs H' e r=>⟨e,r⟩
 refine wpAny_Call_Name_kw (ld_glob I k1 hm ?_ k4)
 cases args with
 | nil=>
  cases es with
  | cons _ _=>cases hst
  | nil=>
   cases hd
   exact PySem.W.callWith_K0 I.kIn hkp (fin [] s [] H I .nil (.refl _) .nil)
 | cons e l=>
  cases es with
  | nil=>cases hst
  | cons a es=>
   have hst':(notStar e && chk Z {G with rs:=false,tr:=false} a e && chks Z {G with rs:=false,tr:=false} es l)=true:=hst
   simp only[Bool.and_eq_true] at hst'
   refine PySem.W.callWith_K (h₀:=X.base) I.ok.mod.kin hkp (wpAny_mono (pa pos pins s σ H _ (I.wish _) hra) (fun us s1 ⟨vs,H1,I1,r,q1⟩=>⟨I1.unwish.kIn,?_⟩) fun _ _ y=>y.elim) (star_cons hst'.1.1 l X.env) (star_none Z _ (es:=es) pos X.env hst'.2)
   exact fin us s1 vs H1 I1.unwish r q1.1 q1.2
end
end L2
namespace L2
open PySem PySem.Spec PyProof.Rows PySem.SeqAt
section
variable {Z:Sg} {CX:CXT} {cl:Nat→List D→Res D} {xp:XK→Hp→Str→Prop} {X:Cx} {ex:Str→Prop} {G:Gm} {pins:List (Addr×Obj)}
theorem catch_at (g:GOk Z CX cl xp X ex G) (tr:TrOk Z CX cl xp X) {H1:Hp} {s1 s':Shared} {σ:St} {e:Value} {B:Bs} {F:Addr→Prop} {τ:Ev} {f:List Addr} (m:Frm X.K B F H1 σ τ f) (I2:Inv X pins σ H1 s1)
  {hd:List IS} {n k:Nat} {c x y:Str} {np hpos:Pos} {b0:Stmt} {suite:List Stmt} {Dn:Ends} {C C':Addr} (hc:CX1 X.prog X.w X.stack H1 s1 (fun cls _ _=>cls=.ref C) e s')
  (h2:chkG Z G n x=true) (hn:PySem.W.nsIn X.K mainGlobals c=some (some (.ref C))) (hnm:nameIn X.K C=some c) (hm:X.mg x=some (.ref C')) (hex:PySem.W.exmOne X.K (.ref C) (.ref C')=some true) (h4:G.N[k]? = some y) (h5:G.kd[k]? = some .local)
  (hsuite:∀ a:Addr,PSs (xSuite X a) (b0::suite) (RS X.K nox (evSs cl hd)))
  (q:PO' ex (bnd (noX (evSs cl hd (τ.set k (some (.exc c))))) fun | .nx τ'=>.ok (.nx (τ'.set k none)) | _=>stk) (Fk X.K B Dn)) :
  wpAny (model X.prog X.w) X.A (noteFrame e X.env) (fun _ s2=>wpAny (model X.prog X.w) X.A (setFlight e none) (fun _ s3=>wpAny (model X.prog X.w) X.A (handleBy e X.env [.ExceptHandler (some (.Name x np)) (some y) (b0::suite) hpos]) (SP X pins Dn) X.xe s3) X.xe s2) X.xe s':=by
 have hst:=tr.st
 have hfr:=tr.fr
 have lt:=tr.lt
 obtain⟨a,cls,a0,H',Bh,he,os,bare,un,hB,sm,kB,fl,hcls⟩:=hc
 subst he hcls
 obtain⟨k1,k2,k3,k4⟩:=gl_of g h2
 have hk:X.env.kindOf y=some .local:=(g.kd k y h4).trans h5
 have hNd:X.N.Nodup:=by rw[g.N];exact g.nod
 have hi:X.N[k]? = some y:=by rw[g.N];exact h4
 have ok:=I2.ok
 have fl0:Heap.FlyingW Bh (X.env::X.outer) a (.ref C) a0 s'.heap:=hst ▸ fl
 refine wpAny_looks_onW (A:=X.A) (by rw[← hst];exact ok.frames) hfr fl0 fun h4' held4 up4=>?_
 refine wpAny_landsW held4 fun h5' fl5 up5=>?_
 have I5:Inv X pins σ H' {s' with heap:=h5'}:=fly_inv I2 os bare un hB sm kB (show Heap.FlyingW Bh X.stack a (.ref C) a0 h5' from hst ▸ fl5) (up4.trans up5)
 have J5:Inv (xSuite X a) pins σ H' {s' with heap:=h5'}:=inv_suite I5
 refine wpAny_handleBy_cons (codeAny_handlers_test (ld_glob J5 k1 hm ?_ k4)) (by intro q;cases q)
 obtain⟨oe5,he5,hc5⟩:=fl5.there
 refine(PySem.W.exm_one J5.kIn (IX.type ⟨oe5,he5,hc5⟩) hex).here ?_
 refine codeAny_handlers_suite_as ?_
 refine lands_againW fl5 fun h6' fl6 up6=>?_
 have I6:Inv X pins σ H' {s' with heap:=h6'}:=fly_inv I2 os bare un hB sm kB (show Heap.FlyingW Bh X.stack a (.ref C) a0 h6' from hst ▸ fl6) ((up4.trans up5).trans up6)
 obtain⟨oe,vs,he6,hc6,hd6,_⟩:=fl6.first
 have na:H' a=none:=by
  cases z:H' a with
  | none=>rfl
  | some u=>
   obtain⟨ob,ho⟩:=(hB a u z).at
   rw[fl6.2.1] at ho;cases ho
 have nst:∀ b,b ∉ X.fs→b≠X.env.locals→b ∉ frs X.stack:=fun b h1 h2 z=>by
  rw[hst] at z
  unfold frs at z
  rcases List.mem_filterMap.mp z with ⟨env,hm,hf⟩
  rcases List.mem_cons.mp hm with rfl | hm
  ·rw[hfr] at hf;exact h2 (Option.some.inj hf).symm
  ·exact h1 (List.mem_filterMap.mpr ⟨env,hm,hf⟩)
 have nl:a≠X.env.locals:=by
  rintro rfl
  obtain⟨m,⟨o,es,ep,ho,hd,_⟩,_⟩:=I6.loc
  have ho:h6'.get? X.env.locals=some o:=ho
  rw[he6] at ho;cases ho
  rw[hd6] at hd;cases hd
 have I6t:Inv (xSuite X a) pins σ (upd H' a (.frz oe XU)) {s' with heap:=h6'}:=by
  refine(inv_suite I6).track he6 na ⟨trivial,⟨_,he6⟩,fun _ _ _ _=>trivial⟩ (fun ob e z hx=>?_) ?_ nl (fun y c e z=>?_) fun p hp z=>?_
  ·by_cases hf:a ∈ X.fs
   ·obtain⟨sl,e1⟩:=I6.base.slot a ob e z hf hx
    have e1:h6'.get? a=_:=e1
    obtain⟨_,o',ho',nf⟩:=ok.funs.mem hf
    rw[show X.s₀.heap.get? a=_ from e] at ho';cases ho'
    rw[he6] at e1;cases e1
    exact nf _ hd6
   ·have e1:=I2.base.keep a ob e z hf hx
    have e2:=I2.base.free a ob e z hx
    have:=kB a ob e1 e2 (nst a hf nl)
    rw[fl6.2.1] at this;cases this
  ·show X.H₀ a=none
   cases z:X.H₀ a with
   | none=>rfl
   | some u=>
    exfalso
    rcases lt a u z with ⟨ob,v,rfl⟩ | ⟨xs,rfl⟩
    ·have:=I6.base.frzs a ob v z;rw[na] at this;cases this
    ·have:=I6.base.tups a xs z;rw[na] at this;cases this
  ·subst z
   obtain⟨v,o,ho,hd⟩:=I6.cell y c e
   have ho:h6'.get? c=some o:=ho
   rw[he6] at ho;cases ho
   rw[hd6] at hd;cases hd
  ·subst z
   obtain⟨e1,e2,e3,e4,_⟩:=I2.pin p hp
   have:=kB p.1 p.2 e1 e2 (nst _ e4 e3)
   rw[fl6.2.1] at this;cases this
 refine store_ok (X:=xSuite X a) (v:=.ref a) I6t hNd hi (.inl hk) rfl (fun s7 I7=>?_) (.inr hk)
 have sm0:Same H1 (upd H' a (.frz oe XU)):=by
  intro b o e
  have hb:=sm b o e
  rw[upd_ne (ne_of_none hb na)]
  exact hb
 have xo:SqE X.K (upd H' a (.frz oe XU)) a (.inr c):=⟨C,oe,vs,hn,hnm,upd_same,hc6,hd6⟩
 have mg:=m.grow sm0
 obtain⟨g',h',r0,p0⟩:=mg.rps.put k (MRep.exc (F:=F) xo)
 have p0:(g'++h').Perm f:=p0
 have nd0:(g'++h').Nodup:=p0.nodup_iff.mpr mg.nod
 have frm:Frm X.K B F (upd H' a (.frz oe XU)) (σ.set k (some (.ref a))) (τ.set k (some (.exc c))) g':=
  ⟨mg.fok,r0,(List.nodup_append.mp nd0).1,mg.same,fun b hb=>mg.own b (p0.subset (List.mem_append_left _ hb)),mg.inn,mg.out,mg.pin,mg.pit⟩
 have q2:PO' nox (evSs cl hd (τ.set k (some (.exc c)))) (Fk X.K B {nx:=fun σ8 H8=>∃ F8 τ8 f8,Frm X.K B F8 H8 σ8 τ8 f8∧Fk X.K B Dn (.nx (τ8.set k none)),rt:=fun _ _=>False}):=by
  cases z:evSs cl hd (τ.set k (some (.exc c))) with
  | error er=>rw[z] at q;exact q.no.elim
  | ok r=>
   rw[z] at q
   cases r with
   | nx τ8=>exact fun σ8 H8 F8 f8 m8=>⟨F8,τ8,f8,m8,q.ok⟩
   | _=>exact q.no.elim
 refine wpAny_mono (hsuite a pins s7 _ _ _ I7 ⟨B,F,_,g',frm,q2⟩) (fun fw s8 hs=>?_) fun _ _ z=>z.elim
 cases fw with
 | next=>
  obtain⟨σ8,H8,I8,F8,τ8,f8,m8,q8⟩:=hs
  refine unb_ok (inv_unsuite ok I8) hNd hi hk fun s9 I9=>?_
  obtain⟨g8,r9,n9,m9⟩:=Rps.drop (o:=none) k m8.rps m8.nod
  exact⟨_,_,I9,q8 _ _ F8 g8 ⟨m8.fok,r9,n9,m8.same,fun b hb=>m8.own b (m9 b hb),m8.inn,m8.out,m8.pin,m8.pit⟩⟩
 | brk=>obtain⟨_,_,_,z⟩:=hs;exact z.elim
 | cont=>obtain⟨_,_,_,z⟩:=hs;exact z.elim
 | ret u=>obtain⟨_,_,_,_,_,z⟩:=hs;exact z.elim
theorem Frm.put {B:Bs} {F:Addr→Prop} {H:Hp} {σ:St} {τ:Ev} {f fv:List Addr} {v:V} {d:D} (i:Nat) (m:Frm X.K B F H σ τ f) (mv:MRep X.K F H v d fv) (nd:(fv++f).Nodup) (hb:∀ a ∈ fv,B.H a=none):∃ f',Frm X.K B F H (σ.set i (some v)) (τ.set i (some d)) f':=by
 obtain⟨g',h',r0,p0⟩:=m.rps.put i mv
 have nd0:(g'++h').Nodup:=p0.nodup_iff.mpr nd
 exact⟨g',m.fok,r0,(List.nodup_append.mp nd0).1,m.same,fun b hb'=>(List.mem_append.mp (p0.subset (List.mem_append_left _ hb'))).elim (hb b) (m.own b),m.inn,m.out,m.pin,m.pit⟩
theorem st_tryc (g:GOk Z CX cl xp X ex G) {i f n k:Nat} {es:List IR} {cs:List Str} {hd:List IS} {st:Stmt}
  (h:tcv st (fun xi xf args xc y b0 r=>G.tr && G.cm && chkN G i xi && chkG Z G f xf && Z.fnc G f && chks Z {G with rs:=false,tr:=false} es args && chkG Z G n xc && cs.all (fun c=>Z.xm.contains (c,n)) && G.N[k]? == some y && G.kd[k]? == some .local && chkSs Z {G with cm:=false,rs:=false,tr:=false} hd (b0::r))=true)
  (hsuite:TrOk Z CX cl xp X→∀ (a:Addr) (ss:List Stmt),chkSs Z {G with cm:=false,rs:=false,tr:=false} hd ss=true→PSs (xSuite X a) ss (RS X.K nox (evSs cl hd))):PS X st (RS X.K ex (evS cl (.tryc i f es n cs k hd))):=by
 obtain⟨xi,pi,xf,pf,args,pc,pa,xc,np,y,b0,r,hp,pos,rfl,h0⟩:=tcv_ok h
 simp only[Bool.and_eq_true] at h0
 obtain⟨⟨⟨⟨⟨⟨⟨⟨⟨⟨ht,hcm⟩,hi⟩,hf⟩,hfn⟩,hst⟩,hn⟩,hcs⟩,hk1⟩,hk2⟩,hsu⟩:=h0
 have tr:=g.tr ht
 have hk1:=eq_of_beq hk1
 have hk2:=eq_of_beq hk2
 rw[List.all_eq_true] at hcs
 obtain⟨q1,q2,q3,q4⟩:=gl_of g hn
 have hi':(G.N[i]? == some xi && (G.kd[i]? == some .local || (G.df && G.kd[i]? == some .cell)))=true:=hi
 rw[Bool.and_eq_true,Bool.or_eq_true,Bool.and_eq_true] at hi'
 have hx:G.N[i]? = some xi:=eq_of_beq hi'.1
 have hkd:=g.kd i xi hx
 have hloc:Loc X.env.scope xi:=hi'.2.elim (fun z=>.inl (hkd.trans (eq_of_beq z))) fun z=>.inr (hkd.trans (eq_of_beq z.2))
 have hfn':X.fn xi=true∨X.env.scope.names.lookup xi=some .local:=hi'.2.elim (fun z=>.inr (hkd.trans (eq_of_beq z))) fun z=>.inl (g.df z.1 xi)
 intro pins s σ H Dn I ⟨B,F,τ,fo,m,q⟩
 have q:PO' ex (bnd (noX (evRs cl es τ)) fun ds=>match cl f (ers ds) with
  | .ok d=>if lfree d=true then .ok (.nx (τ.set i (some d))) else .ok (.nx ((frz (varss es) τ).set i (some d)))
  | .error (.exc c)=>grd (cs.contains c) (bnd (noX (evSs cl hd (τ.set k (some (.exc c))))) fun
   | .nx τ'=>.ok (.nx (τ'.set k none))
   | _=>stk)
  | .error .stuck=>stk) (Fk X.K B Dn):=q
 cases zd:evRs cl es τ with
 | error er=>rw[zd] at q;exact q.no.elim
 | ok ds=>
  rw[zd] at q
  have q:PO' ex (match cl f (ers ds) with
   | .ok d=>if lfree d=true then .ok (.nx (τ.set i (some d))) else .ok (.nx ((frz (varss es) τ).set i (some d)))
   | .error (.exc c)=>grd (cs.contains c) (bnd (noX (evSs cl hd (τ.set k (some (.exc c))))) fun
    | .nx τ'=>.ok (.nx (τ'.set k none))
    | _=>stk)
   | .error .stuck=>stk) (Fk X.K B Dn):=q
  refine wpAny_Try_except (wpAny_execs_cons (wpAny_Assign_Name ?_ rfl))
  have done:∀ {v:Value} {s1:Shared},EP X pins σ (fun v H'=>Dn.nx (σ.set i (some v)) H') v s1→wpAny (model X.prog X.w) X.A (storeName X.env xi v) (fun _ s2=>wpAny (model X.prog X.w) X.A (execs [] X.env) (fun fl s₁=>match fl with | .next=>wpAny (model X.prog X.w) X.A (execs [] X.env) (SP X pins Dn) X.xe s₁ | fl=>SP X pins Dn fl s₁) (fun e s₁=>wpAny (model X.prog X.w) X.A (noteFrame e X.env) (fun _ s₂=>wpAny (model X.prog X.w) X.A (setFlight e none) (fun _ s₃=>wpAny (model X.prog X.w) X.A (handleBy e X.env [.ExceptHandler (some (.Name xc np)) (some y) (b0::r) hp]) (SP X pins Dn) X.xe s₃) X.xe s₂) X.xe s₁) s2) (fun e s₁=>wpAny (model X.prog X.w) X.A (noteFrame e X.env) (fun _ s₂=>wpAny (model X.prog X.w) X.A (setFlight e none) (fun _ s₃=>wpAny (model X.prog X.w) X.A (handleBy e X.env [.ExceptHandler (some (.Name xc np)) (some y) (b0::r) hp]) (SP X pins Dn) X.xe s₃) X.xe s₂) X.xe s₁) s1:=by
   intro v s1 ⟨x,H1,I1,r1,qq⟩
   exact store_ok I1 (by rw[g.N];exact g.nod) (by rw[g.N];exact hx) hloc r1 (fun s2 I2=>wpAny_execs_nil (wpAny_execs_nil ⟨_,_,I2,qq⟩)) hfn'
  have wide:∀ (vs:List V) (H1:Hp),HReps X.K (nw (fun _=>True) H) H1 vs ds→HReps X.K (fun a=>H1 a≠none) H1 vs ds:=fun vs H1 m0=>m0.step (fun a xs h rd=>⟨rd.some,rd⟩) fun a xs h=>h
  cases zc:cl f (ers ds) with
  | error er=>
   rw[zc] at q
   cases er with
   | stuck=>exact q.no.elim
   | exc c=>
    obtain⟨hcc,q⟩:=PO'.grd q
    have hc:(c,n) ∈ Z.xm:=by simpa using hcs c (by simpa using hcc)
    obtain⟨C,C',hC,_,hnm,hm,hex⟩:=g.xmt c n xc hc q2
    refine wpAny_mono (call_at (p:=pf) (pos:=pc) (Q:=fun _ _=>False) g tr hf hfn hst I (all_slots m.rps) zd (fun vs H1 e1 m0=>⟨fun a=>H1 a≠none,fun a h=>h,wide vs H1 m0,fun d hd=>by rw[zc] at hd;cases hd⟩) (by rw[zc];intro z;cases z) (fun c' hc'=>?_)) (fun v s1 ⟨_,_,_,_,z⟩=>z.elim) fun _ _ z=>z
    rw[zc] at hc'
    cases hc'
    exact⟨C,hC,fun H1 s1 e s' e1 I1 hx=>catch_at g tr (m.grow e1) I1 hx hn hC hnm hm hex hk1 hk2 (fun a=>hsuite tr a _ hsu) q⟩
  | ok d=>
   rw[zc] at q
   have q:PO' ex (if lfree d=true then .ok (.nx (τ.set i (some d))) else .ok (.nx ((frz (varss es) τ).set i (some d)))) (Fk X.K B Dn):=q
   have noexc:∀ c,cl f (ers ds)=.error (.exc c)→∀ {P:Prop},P:=fun c z=>by rw[zc] at z;cases z
   by_cases hl:lfree d=true
   ·rw[if_pos hl] at q
    have q:Fk X.K B Dn (.nx (τ.set i (some d))):=q.ok
    refine wpAny_mono (call_at (p:=pf) (pos:=pc) g tr hf hfn hst I (all_slots m.rps) zd (fun vs H1 e1 m0=>⟨fun a=>H1 a≠none,fun a h=>h,wide vs H1 m0,fun d' hd v H' F' fv o=>?_⟩) (by rw[zc];intro z;cases z) (fun c' hc'=>noexc c' hc')) (fun v s1 z=>done z) fun _ _ z=>z
    rw[zc] at hd
    cases hd
    obtain⟨f',m'⟩:=(m.grow (e1.trans o.same)).put i (o.rep.lfree_nil hl) (by simpa using m.nod) (fun a ha=>absurd ha (by simp))
    exact q _ _ _ _ m'
   ·rw[if_neg hl] at q
    have q:Fk X.K B Dn (.nx ((frz (varss es) τ).set i (some d))):=q.ok
    obtain⟨F1,gg,b1,b2,b3,b4,b5,b6⟩:=freeze1 (varss es) m.fok m.rps m.nod
    refine wpAny_mono (call_at (p:=pf) (pos:=pc) g tr hf hfn hst I b6 zd (fun vs H1 e1 m0=>?_) (by rw[zc];intro z;cases z) (fun c' hc'=>noexc c' hc')) (fun v s1 z=>done z) fun _ _ z=>z
    have hmm:HReps X.K (fun a=>F1 a∨(True∧H a=none∧H1 a≠none)) H1 vs ds:=m0.step (fun a xs h r=>⟨h.elim (fun z=>.inl z) fun z=>.inr ⟨trivial,z,r.some⟩,r⟩) fun a xs h=>h
    obtain⟨c1,c2,c3⟩:=grow (fun _=>True) b1 b2 e1
    refine⟨_,c1,hmm,fun d' hd v H' F' fv o=>?_⟩
    rw[zc] at hd
    cases hd
    have s1:Stp (fun a=>F1 a∨(True∧H a=none∧H1 a≠none)) H1 gg F' H':=⟨o.same,o.inn,fun a h=>(o.out a h).elim (fun z=>.inl z) fun z=>.inr (.inr z)⟩
    have r2:Rps X.K F' H' σ (frz (varss es) τ) gg:=c2.step (fun a xs q rd=>⟨o.inn a q,o.same.rd rd⟩) (fun a xs q=>o.same.seqT q) fun a ha n hn=>by
     obtain⟨_,xs,e⟩:=c2.own a ha
     refine⟨fun z=>?_,(o.same _ _ e).trans e.symm⟩
     rcases o.out a z with z | z
     ·exact n z
     ·exact hn z
    have ow:Ow X.K F H fo F' H' σ v d fv (frz (varss es) τ) gg:=by
     refine⟨(b4.trans c3 (fun x hx=>.inl (b5 x hx))).trans s1 (fun x hx=>.inl (b5 x hx)),o.fok,o.rep,r2,?_,fun a ha=>?_⟩
     ·refine List.nodup_append.mpr ⟨o.nod,b3,fun a h1 b h2 e=>?_⟩
      subst e
      obtain⟨_,xs,e⟩:=c2.own a h2
      rw[o.new a h1] at e
      cases e
     ·rcases List.mem_append.mp ha with ha | ha
      ·exact .inr (e1.free (o.new a ha))
      ·exact .inl (b5 a ha)
    obtain⟨mo,hb⟩:=m.ow ow
    obtain⟨f',m'⟩:=mo.put i ow.rep ow.nod hb
    exact q _ _ _ _ m'
end
end L2
namespace L2
open PySem PySem.Spec PyProof.Rows PySem.SeqAt
section
variable {Z:Sg} {CX:CXT} {cl:Nat→List D→Res D} {xp:XK→Hp→Str→Prop} {X:Cx} {ex:Str→Prop} {G:Gm}
theorem own_at {K:PySem.W.Frag} {F:Addr→Prop} {H:Hp} {σ:St} {τ:Ev} {f:List Addr} {i:Nat} {ds:List D} (r:Rps K F H σ τ f) (hs:slotD τ i=some (.lst true ds)):∃ l xs,σ[i]? = some (some (.ref l))∧H l=some (.lst xs)∧xs.length=ds.length:=by
 obtain⟨v,fs,g,h1,h2,h3,h4⟩:=r.at hs
 cases h2 with
 | lstO hF hH hm=>exact⟨_,_,h1,hH,hm.length⟩
theorem st_setix (g:GOk Z CX cl xp X ex G) {i:Nat} {k e:IR} {x:Str} {p sp pos:Pos} {s v:Expr} (h1:chkV G i x=true) (h2:notSlice s=true) (h3:chk Z G k s=true) (h4:chk Z G e v=true) :
  PS X (.Assign [.Subscript (.Name x p) s sp] v pos) (RS X.K ex (evS cl (.setix i k e))):=by
 refine psMono (ps_asg (snO e false X ex G v g h4) (pg_sub (pv_of g h1) (snd k X ex G s g h3).1 set_list (by intro _;cases s<;>first | rfl | cases h2)) (by cases v<;>rfl) (by cases v<;>rfl) rfl) fun Dn σ H h=>?_
 obtain⟨B,F,τ,f,m,q⟩:=h
 refine m.ro (PO'.bnd q) fun p v H' F' fv f' o hp=>?_
 obtain⟨m',hb⟩:=m.ow o
 have hp1:PO' ex (match slotD p.2 i with | some (.lst true ds)=>(bnd (evR cl k p.2) fun | .int z=>(match ixN ds.length z with | some j=>.ok (.nx (p.2.set i (some (.lst true (ds.set j p.1))))) | none=>stk) | _=>stk) | _=>stk) (Fk X.K B Dn):=hp
 cases zs:slotD p.2 i with
 | none=>rw[zs] at hp1;exact hp1.no.elim
 | some d=>
  rw[zs] at hp1
  cases d with
  | lst ow ds=>
   cases ow with
   | false=>exact hp1.no.elim
   | true=>
    obtain⟨l,xs,hσ,hl,hlen⟩:=own_at m'.rps zs
    refine⟨.ref l,hσ,m'.rd (PO'.bnd hp1) fun y w H2 m2 e2 mw hy=>?_⟩
    cases y with
    | int z=>
     cases mw.intR
     have hy':PO' ex (match ixN ds.length z with | some j=>.ok (.nx (p.2.set i (some (.lst true (ds.set j p.1))))) | none=>stk) (Fk X.K B Dn):=hy
     cases hj:ixN ds.length z with
     | none=>rw[hj] at hy';exact hy'.no.elim
     | some j=>
      rw[hj] at hy'
      obtain⟨k1,k2,k3⟩:=grow0 m'.fok m'.rps e2
      have mv2:MRep X.K F' H2 v p.1 fv:=o.rep.stp k3 fun a ha hb=>(List.nodup_append.mp o.nod).2.2 a ha a hb rfl
      have hl2:H2 l=some (.lst xs):=e2 _ _ hl
      obtain⟨f'',m3⟩:=m2.write (ys:=xs.set j v) (ds':=ds.set j p.1) zs hσ hl2 mv2 o.nod hb fun fi hm=>hm.set mv2 j
      exact⟨l,xs,z,j,rfl,rfl,hl2,by rw[hlen];exact hj,hy'.ok _ _ _ _ m3⟩
    | _=>exact hy.no.elim
  | _=>exact hp1.no.elim
theorem st_app (g:GOk Z CX cl xp X ex G) {i:Nat} {e:IR} {x:Str} {p apos cpos pos:Pos} {v:Expr} (h1:chkV G i x=true) (h2:(apos.endLine == cpos.line)=true) (h3:notStar v=true) (h4:chk Z G e v=true) :
  PS X (.Expr (.Call (.Attribute (.Name x p) "append" apos) [v] [] cpos) pos) (RS X.K ex (evS cl (.app i e))):=by
 have pa:PA X [v] (tCons (RO X.K ex (evO cl false e)) tNil):=pa_cons (snO e false X ex G v g h4) pa_nil (star_cons h3 _ _)
 have hfew:((backTo cpos (starEach [v] X.env)).all (fun x=>!x.1) && (backToKw cpos (keywordEach [] X.env)).all (fun x=>x.1.isSome) && decide ([v].length + ([]:List Keyword).length + (if ([]:List Keyword).isEmpty then 0 else 1) < 30))=true:=by
  rw[star_cons h3]
  rfl
 refine psMono (ps_expr (pe_bm PySem.F.plainAttrs_list PySem.F.slot_list_append PySem.F.type_list_append mt_append (pv_of g h1) pa rfl hfew h2 (star_cons h3 _ _) rfl)) fun Dn σ H h=>?_
 obtain⟨B,F,τ,f,m,q⟩:=h
 have q0:PO' ex (match slotD τ i with | some (.lst _ _)=>(bnd (evO cl false e τ) fun p=>(match slotD p.2 i with | some (.lst true ds)=>grd (szLt ds.length) (.ok (.nx (p.2.set i (some (.lst true (ds++[p.1])))))) | _=>stk)) | _=>stk) (Fk X.K B Dn):=q
 cases z0:slotD τ i with
 | none=>rw[z0] at q0;exact q0.no.elim
 | some d0=>
  rw[z0] at q0
  cases d0 with
  | lst o0 ds0=>
   obtain⟨v0,fv0,g0,a1,a2,a3,a4⟩:=m.rps.at z0
   have hq:∃ l xs,v0=.ref l∧SqL X.K H l xs:=by
    cases a2 with
    | lstS _ b1 _=>exact⟨_,_,rfl,.inl b1⟩
    | lstK b1 _=>exact⟨_,_,rfl,b1.sq⟩
    | lstO _ b1 _=>exact⟨_,_,rfl,.inl (.inl b1)⟩
   obtain⟨l,xs0,rfl,hq⟩:=hq
   refine⟨.ref l,a1,.inl ⟨rfl,xs0,hq⟩,m.ro (PO'.bnd q0) fun p v H' F' fv f' o hp=>?_⟩
   obtain⟨m',hb⟩:=m.ow o
   cases zs:slotD p.2 i with
   | none=>rw[zs] at hp;exact hp.no.elim
   | some d=>
    rw[zs] at hp
    cases d with
    | lst ow ds=>
     cases ow with
     | false=>exact hp.no.elim
     | true=>
      obtain⟨gd,hp⟩:=PO'.grd hp
      obtain⟨l',xs,hσ,hl,hlen⟩:=own_at m'.rps zs
      rw[a1] at hσ
      cases hσ
      obtain⟨f'',m3⟩:=m'.write (ys:=xs++[v]) (ds':=ds++[p.1]) zs a1 hl o.rep o.nod hb fun fi hm=>hm.snoc o.rep
      exact⟨l,xs,v,rfl,rfl,hl,by rw[hlen];exact szLt_lt gd,hp.ok _ _ _ _ m3⟩
    | _=>exact hp.no.elim
  | _=>exact q0.no.elim
theorem MReps.rev {K:PySem.W.Frag} {F:Addr→Prop} {H:Hp}:∀ {xs:List V} {ds:List D} {fi:List Addr},MReps K F H xs ds fi→∃ fl,MReps K F H xs.reverse ds.reverse fl∧fl.Perm fi
 | _,_,_,.nil=>⟨[],.nil,.refl _⟩
 | _,_,_,.cons h1 h2=>by
  obtain⟨fl,h3,h4⟩:=MReps.rev h2
  rw[List.reverse_cons,List.reverse_cons]
  exact⟨_,h3.append (.cons h1 .nil),by rw[List.append_nil];exact List.perm_append_comm.trans (h4.append_left _)⟩
theorem st_rvs (g:GOk Z CX cl xp X ex G) {i:Nat} {x:Str} {p apos cpos pos:Pos} (h1:chkV G i x=true) (h2:(apos.endLine == cpos.line)=true) :
  PS X (.Expr (.Call (.Attribute (.Name x p) "reverse" apos) [] [] cpos) pos) (RS X.K ex (evS cl (.rvs i))):=by
 refine psMono (ps_expr (pe_bm0 PySem.F.plainAttrs_list PySem.F.slot_list_reverse PySem.F.type_list_reverse mt_reverse (pv_of g h1) rfl h2)) fun Dn σ H h=>?_
 obtain⟨B,F,τ,f,m,q⟩:=h
 have q0:PO' ex (match slotD τ i with | some (.lst true ds)=>.ok (.nx (τ.set i (some (.lst true ds.reverse)))) | _=>stk) (Fk X.K B Dn):=q
 cases zs:slotD τ i with
 | none=>rw[zs] at q0;exact q0.no.elim
 | some d=>
  rw[zs] at q0
  cases d with
  | lst ow ds=>
   cases ow with
   | false=>exact q0.no.elim
   | true=>
    obtain⟨l,xs,hσ,hl,hlen⟩:=own_at m.rps zs
    obtain⟨f'',m3⟩:=m.write (w:=.non) (d:=.non) (fv:=[]) (ys:=xs.reverse) (ds':=ds.reverse) zs hσ hl .non (by simpa using m.nod) (fun a ha=>by cases ha) fun fi hm=>by
     obtain⟨fl,a1,a2⟩:=hm.rev
     exact⟨fl,[],a1,by simpa using a2⟩
    exact⟨.ref l,hσ,.inl ⟨rfl,xs,.inl (.inl hl)⟩,l,xs,rfl,rfl,hl,PO'.ok q0 _ _ _ _ m3⟩
  | _=>exact q0.no.elim
theorem st_clr (g:GOk Z CX cl xp X ex G) {i:Nat} {x:Str} {p apos cpos pos:Pos} (h1:chkV G i x=true) (h2:(apos.endLine == cpos.line)=true) :
  PS X (.Expr (.Call (.Attribute (.Name x p) "clear" apos) [] [] cpos) pos) (RS X.K ex (evS cl (.clr i))):=by
 refine psMono (ps_expr (pe_bm0 PySem.F.plainAttrs_list PySem.F.slot_list_clear PySem.F.type_list_clear mt_clear (pv_of g h1) rfl h2)) fun Dn σ H h=>?_
 obtain⟨B,F,τ,f,m,q⟩:=h
 have q0:PO' ex (match slotD τ i with | some (.lst true _)=>.ok (.nx (τ.set i (some (.lst true [])))) | _=>stk) (Fk X.K B Dn):=q
 cases zs:slotD τ i with
 | none=>rw[zs] at q0;exact q0.no.elim
 | some d=>
  rw[zs] at q0
  cases d with
  | lst ow ds=>
   cases ow with
   | false=>exact q0.no.elim
   | true=>
    obtain⟨l,xs,hσ,hl,hlen⟩:=own_at m.rps zs
    obtain⟨f'',m3⟩:=m.write (w:=.non) (d:=.non) (fv:=[]) (ys:=[]) (ds':=[]) zs hσ hl .non (by simpa using m.nod) (fun a ha=>by cases ha) fun fi hm=>⟨[],fi,.nil,by simp⟩
    exact⟨.ref l,hσ,.inl ⟨rfl,xs,.inl (.inl hl)⟩,l,xs,rfl,rfl,hl,PO'.ok q0 _ _ _ _ m3⟩
  | _=>exact q0.no.elim
theorem Fk.rt_of {K:PySem.W.Frag} {B:Bs} {F F':Addr→Prop} {H H':Hp} {σ:St} {τ τ':Ev} {f f':List Addr} {v:V} {d:D} {fv:List Addr} (m:Frm K B F H σ τ f) (o:Ow K F H f F' H' σ v d fv τ' f'):Out K B.F B.H F' H' v d fv:=by
 obtain⟨m',hb⟩:=m.ow o
 exact⟨m'.fok,m'.same,o.rep,(List.nodup_append.mp o.nod).1,hb,m'.inn,m'.out⟩
theorem st_ret (g:GOk Z CX cl xp X ex G) {e:IR} {v:Expr} {pos:Pos} (h:chk Z G e v=true):PS X (.Return (some v) pos) (RS X.K ex (evS cl (.ret e))):=by
 refine psMono (ps_ret (snO e true X ex G v g h)) fun Dn σ H ⟨B,F,τ,f,m,q⟩=>?_
 exact m.ro (PO'.bnd q) fun p v H' F' fv f' o hp=>hp.ok _ _ _ _ (Fk.rt_of m o)
theorem st_retN {pos:Pos}:PS X (.Return none pos) (RS X.K ex (evS cl .retN)):=
 psMono ps_retN fun Dn σ H ⟨B,F,τ,f,m,q⟩=>q.ok .non H F [] ⟨m.fok,m.same,.non,List.nodup_nil,fun a ha=>absurd ha (by simp),m.inn,m.out⟩
theorem st_exp (g:GOk Z CX cl xp X ex G) {e:IR} {v:Expr} {pos:Pos} (hc:notComp v=true) (h:chk Z G e v=true):PS X (.Expr v pos) (RS X.K ex (evS cl (.exp e))):=by
 refine psMono (ps_expr (snd e X ex G v g h).1 (by cases v<;>first | rfl | cases hc)) fun Dn σ H ⟨B,F,τ,f,m,q⟩=>?_
 exact m.rd (PO'.bnd q) fun d v H' m' _ _ hd=>hd.ok _ _ _ _ m'
theorem st_if {c:Expr} {x y:List Stmt} {pos:Pos} {t:IR} {a b:List IS} (hc:PT X c (RT X.K ex (vars t) fun τ=>bnd (evR cl t τ) truD)) (ha:PSs X x (RS X.K ex (evSs cl a))) (hb:PSs X y (RS X.K ex (evSs cl b))):PS X (.If c x y pos) (RS X.K ex (evS cl (.if_ t a b))):=by
 refine psMono (ps_if hc ha hb) fun Dn σ H ⟨B,F,τ,f,m,q⟩=>?_
 refine m.rt (PO'.bnd q) fun r H' m' _ hr=>?_
 cases r with
 | true=>rw[if_pos rfl] at hr ⊢;exact⟨B,F,τ,f,m',hr⟩
 | false=>rw[if_neg Bool.false_ne_true] at hr ⊢;exact⟨B,F,τ,f,m',hr⟩
theorem st_while (g:GOk Z CX cl xp X ex G) (hrs:G.rs=true) {c:Expr} {x:List Stmt} {pos:Pos} {t:IR} {a:List IS} (hc:PT X c (RT X.K ex (vars t) fun τ=>bnd (evR cl t τ) truD)) (ha:PSs X x (RS X.K ex (evSs cl a))):PS X (.While c x [] pos) (RS X.K ex (evS cl (.while_ t a))):=by
 refine psMono (ps_while (g.own hrs) hc ha) fun Dn σ H ⟨B,F,τ,f,m,q⟩=>?_
 refine⟨fun n σ H=>∃ F τ f,Frm X.K B F H σ τ f∧PO' ex (whileM (evT cl t) (evSs cl a) n τ) (Fk X.K B Dn),⟨wfuel,F,τ,f,m,q⟩,?_⟩
 rintro n σ H ⟨F,τ,f,m,q⟩
 cases n with
 | zero=>exact q.no.elim
 | succ n=>
  refine m.rt (PO'.bnd q) fun r H' m' _ hr=>?_
  cases r with
  | false=>rw[if_neg Bool.false_ne_true] at hr ⊢;exact hr.ok _ _ _ _ m'
  | true=>
   rw[if_pos rfl] at hr ⊢
   refine⟨fun σ H=>∃ F τ f,Frm X.K B F H σ τ f∧PO' ex (whileM (evT cl t) (evSs cl a) n τ) (Fk X.K B Dn),fun σ' H' h=>⟨n,Nat.lt_succ_self n,h⟩,B,F,τ,f,m',(PO'.bnd hr).mono fun r hr=>?_⟩
   cases r with
   | nx τ'=>exact fun σ' H' F' f' m''=>⟨F',τ',f',m'',hr⟩
   | ct τ'=>exact fun σ' H' F' f' m''=>⟨F',τ',f',m'',hr⟩
   | bk τ'=>exact fun σ' H' F' f' m''=>hr.ok _ _ _ _ m''
   | rt d=>exact fun v H' F' fv o=>hr.ok _ _ _ _ o
theorem Frm.less {K:PySem.W.Frag} {B:Bs} {L:Addr→List V→Prop} {T:Addr→List V ⊕ Str→Prop} {F:Addr→Prop} {H:Hp} {σ:St} {τ:Ev} {f:List Addr} (m:Frm K ⟨B.F,B.H,fun a xs=>B.L a xs∨L a xs,fun a xs=>B.T a xs∨T a xs⟩ F H σ τ f):Frm K B F H σ τ f:=
 ⟨m.fok,m.rps,m.nod,m.same,m.own,m.inn,m.out,fun a xs h=>m.pin a xs (.inl h),fun a xs h=>m.pit a xs (.inl h)⟩
theorem ers_drop:∀ (ds:List D) (i:Nat),(ers ds).drop i=ers (ds.drop i):=by
 intro ds i
 rw[ers_map,ers_map,List.map_drop]
theorem for_core {J:It} {K:PySem.W.Frag} {B:Bs} {F:Addr→Prop} {H:Hp} {σ:St} {τ:Ev} {f:List Addr} {T:Tg} {body:List IS} {its:List D} {Dn:Ends} (m:Frm K B F H σ τ f) (w:Wlk K F H J its)
  (q:PO' ex (forM (fun x τ=>bnd (setT T x τ) fun τ'=>evSs cl body τ') (ers its) τ) (Fk K B Dn)) :
  ∃ W:Nat→Nat→St→Hp→Prop,(∃ m,W 0 m σ H)∧∀ i m σ H,W i m σ H→(J.stop i H∧Dn.nx σ H)∨(J.go i H∧∃ N:St→Hp→Prop,(∀ σ' H',N σ' H'→∃ m',m' < m∧W (i + 1) m' σ' H')∧
   ∀ x H',J.yld i H x H'→gT K T x σ H' fun σ2 H2=>RS K ex (evSs cl body) {Dn with nx:=N,ct:=N,bk:=Dn.nx} σ2 H2):=by
 let B':Bs:=⟨B.F,B.H,fun a xs=>B.L a xs∨(F a∧Rd H a (.lst xs)),fun a xs=>B.T a xs∨SqE K H a xs⟩
 have m0:Frm K B' F H σ τ f:=⟨m.fok,m.rps,m.nod,m.same,m.own,m.inn,m.out,fun a xs h=>h.elim (m.pin a xs) id,fun a xs h=>h.elim (m.pit a xs) id⟩
 let bd:D→Ev→Res Fl:=fun x τ=>bnd (setT T x τ) fun τ'=>evSs cl body τ'
 refine⟨fun i n σ H=>n=its.length - i∧i≤its.length∧∃ F τ f,Frm K B' F H σ τ f∧PO' ex (forM bd ((ers its).drop i) τ) (Fk K B Dn),⟨its.length,by simp,Nat.zero_le _,F,τ,f,m0,by rw[List.drop_zero];exact q⟩,?_⟩
 rintro i n σ1 H1 ⟨rfl,hi,F1,τ1,f1,m1,q1⟩
 have w1:Wlk K F1 H1 J its:=w.step (fun a xs h r=>m1.pin a xs (.inr ⟨h,r⟩)) fun a xs h=>m1.pit a xs (.inr h)
 by_cases hlt:i < its.length
 ·refine .inr ⟨w1.go hlt,fun σ H=>∃ F τ f,Frm K B' F H σ τ f∧PO' ex (forM bd ((ers its).drop (i + 1)) τ) (Fk K B Dn),fun σ' H' h=>⟨its.length - (i + 1),by omega,rfl,hlt,h⟩,fun x H' y=>?_⟩
  obtain⟨eH,mx⟩:=w1.yld y (d:=its[i]) (by simp[hlt])
  have m1:=m1.grow eH
  have hd:(ers its).drop i=er its[i]::(ers its).drop (i + 1):=by
   rw[ers_drop,List.drop_eq_getElem_cons hlt,ers,ers_drop]
  rw[hd] at q1
  have q2:=PO'.bnd q1
  refine m1.gT mx.frozen (by simpa using m1.nod) (fun a ha=>absurd ha (by simp)) (PO'.bnd q2) fun τ' σ' f' m' h'=>?_
  refine⟨B',F1,τ',f',m',h'.mono fun r hr=>?_⟩
  cases r with
  | nx τ'=>exact fun σ' H' F' f' m''=>⟨F',τ',f',m'',hr⟩
  | ct τ'=>exact fun σ' H' F' f' m''=>⟨F',τ',f',m'',hr⟩
  | bk τ'=>exact fun σ' H' F' f' m''=>hr.ok _ _ _ _ m''.less
  | rt d=>exact fun v H' F' fv o=>hr.ok _ _ _ _ o
 ·have e:i=its.length:=by omega
  subst e
  refine .inl ⟨w1.stop (Nat.le_refl _),?_⟩
  have:(ers its).drop its.length=[]:=by rw[← ers_length its,List.drop_length]
  rw[this] at q1
  exact q1.ok _ _ _ _ m1.less
theorem ers_rng (a b:Int):ers (rngD a b)=rngD a b:=by
 unfold rngD
 rw[ers_map,List.map_map]
 rfl
noncomputable def evRng (cl:Nat→List D→Res D):Sr→Ev→Res (Int×Int)
 | .rng1 n,τ=>bnd (evR cl n τ) fun | .int i=>grd (rngOk i) (.ok (0,i)) | _=>stk
 | .rng2 a b,τ=>bnd (evR cl a τ) fun x=>bnd (evR cl b τ) fun y=>match x,y with | .int i,.int j=>grd (rngOk i && rngOk j) (.ok (i,j)) | _,_=>stk
 | _,_=>stk
noncomputable def RIr (K:PySem.W.Frag) (ex:Str→Prop) (is:List Nat) (f:Ev→Res (Int×Int)):TI:=fun σ H R=>∃ S τ,Slots K S H σ τ is∧PO' ex (f τ) fun p=>∀ H',Same H H'→R (Itr p.1 (p.2 - p.1).toNat) H'
noncomputable def isRng:Sr→Bool
 | .rng1 _=>true
 | .rng2 _ _=>true
 | _=>false
theorem evSr_rng {s:Sr} (h:isRng s=true) {τ:Ev} {k:List D→Prop} (q:PO' ex (evSr cl s τ) k):PO' ex (evRng cl s τ) fun p=>k (rngD p.1 p.2):=by
 cases s with
 | rng1 n=>
  refine PO'.mk ((PO'.bnd (show PO' ex (bnd (evR cl n τ) fun | .int i=>grd (rngOk i) (.ok (rngD 0 i)) | _=>stk) k from q)).mono fun d hd=>?_)
  cases d with
  | int i=>
   obtain⟨gd,hd⟩:=PO'.grd hd
   show PO' ex (grd (rngOk i) (.ok (0,i))) _
   unfold grd
   rw[if_pos gd]
   exact hd.ok
  | _=>exact hd.no.elim
 | rng2 a b=>
  refine PO'.mk ((PO'.bnd (show PO' ex (bnd (evR cl a τ) fun x=>bnd (evR cl b τ) fun y=>match x,y with | .int i,.int j=>grd (rngOk i && rngOk j) (.ok (rngD i j)) | _,_=>stk) k from q)).mono fun d hd=>PO'.mk ((PO'.bnd hd).mono fun e he=>?_))
  cases d with
  | int i=>
   cases e with
   | int j=>
    obtain⟨gd,he⟩:=PO'.grd he
    show PO' ex (grd (rngOk i && rngOk j) (.ok (i,j))) _
    unfold grd
    rw[if_pos gd]
    exact he.ok
   | _=>exact he.no.elim
  | _=>cases e<;>exact he.no.elim
 | _=>first | exact no_h h | cases h
theorem sndR:∀ (s:Sr) (X:Cx) (ex:Str→Prop) (G:Gm) (e tg:Expr),GOk Z CX cl xp X ex G→chkSr Z G s e=true→isRng s=true→PI X tg e (RIr X.K ex (varsS s) (evRng cl s)):=by
 intro s X ex G e tg g h hr
 cases s with
 | rng1 n=>
  cases e with
  | Call fn args kws pos=>
   cases fn with
   | Name x p=>
    match args,kws,h with
    | [a],[],h=>
     have h':(x == "range" && G.gl.contains 15 && notStar a && chk Z G n a)=true:=h
     simp only[Bool.and_eq_true] at h'
     have e1:x = "range":=eq_of_beq h'.1.1.1
     subst e1
     obtain⟨k1,k2,_,_⟩:=gb_of g (show bnames[15]? = some ("range" : Str) from rfl) h'.1.1.2
     refine piMono (pi_range1 k1 k2 (pa_cons (snd n X ex G a g h'.2).1 pa_nil (star_cons h'.1.2 _ _)) (star_cons h'.1.2 _ _)) fun σ H Q ⟨S,τ,hs,q⟩=>?_
     refine rdAt (.refl _) hs (PO'.bnd q) fun x v H1 e1 _ m1 q1=>?_
     cases x with
     | int i=>
      cases m1.intR
      obtain⟨gd,q1⟩:=PO'.grd q1
      have gd' : -(2 ^ 62)≤i∧i < 2 ^ 62:=of_decide_eq_true gd
      refine⟨i,rfl,gd'.1,gd'.2,?_⟩
      have:=q1.ok _ e1
      rw[show (0,i).2 - (0,i).1=i from Int.sub_zero i] at this
      exact this
     | _=>exact q1.no.elim
    | [],_,h=>first | exact no_h h | cases h
    | [_],_::_,h=>first | exact no_h h | cases h
    | _::_::_,_,h=>first | exact no_h h | cases h
   | _=>first | exact no_h h | cases h
  | _=>first | exact no_h h | cases h
 | rng2 a b=>
  cases e with
  | Call fn args kws pos=>
   cases fn with
   | Name x p=>
    match args,kws,h with
    | [l,r],[],h=>
     have h':(x == "range" && G.gl.contains 15 && notStar l && notStar r && chk Z G a l && chk Z G b r)=true:=h
     simp only[Bool.and_eq_true] at h'
     have e1:x = "range":=eq_of_beq h'.1.1.1.1.1
     subst e1
     obtain⟨k1,k2,_,_⟩:=gb_of g (show bnames[15]? = some ("range" : Str) from rfl) h'.1.1.1.1.2
     have hn:=h'.1.1.1.2
     have hn':=h'.1.1.2
     refine piMono (pi_range2 k1 k2 (pa_cons (snd a X ex G l g h'.1.2).1 (pa_cons (snd b X ex G r g h'.2).1 pa_nil (star_cons hn' _ _)) (star_cons hn _ _)) (by rw[star_cons hn,star_cons hn'];rfl) (star_cons hn' _ _)) fun σ H Q ⟨S,τ,hs,q⟩=>?_
     refine rdAt (.refl _) hs.left (PO'.bnd q) fun x v H1 e1 _ m1 q1=>?_
     refine rdAt e1 hs.right (PO'.bnd q1) fun y w H2 e2 e2' m2 q2=>?_
     cases x with
     | int i=>
      cases y with
      | int j=>
       cases m1.intR;cases m2.intR
       obtain⟨gd,q2⟩:=PO'.grd q2
       rw[Bool.and_eq_true] at gd
       have g1 : -(2 ^ 62)≤i∧i < 2 ^ 62:=of_decide_eq_true gd.1
       have g2 : -(2 ^ 62)≤j∧j < 2 ^ 62:=of_decide_eq_true gd.2
       exact⟨i,j,rfl,⟨g1.1,g1.2,g2.1,g2.2⟩,q2.ok _ e2⟩
      | _=>exact q2.no.elim
     | _=>cases y<;>exact q2.no.elim
    | [],_,h=>first | exact no_h h | cases h
    | [_],_,h=>first | exact no_h h | cases h
    | [_,_],_::_,h=>first | exact no_h h | cases h
    | _::_::_::_,_,h=>first | exact no_h h | cases h
   | _=>first | exact no_h h | cases h
  | _=>first | exact no_h h | cases h
 | _=>cases hr
theorem st_for (g:GOk Z CX cl xp X ex G) {t it:Expr} {x:List Stmt} {pos:Pos} {T:Tg} {s:Sr} {a:List IS} (hT':(G.cm=true∧G.rs=true)∧chkT G T t=true) (hs':chkSr Z G s it=true∧srOk s t=true) (ha:PSs X x (RS X.K ex (evSs cl a))):PS X (.For t it x [] pos) (RS X.K ex (evS cl (.for_ T s a))):=by
 have hT:=hT'.2
 have hs:=hs'.1
 by_cases hr:isRng s=true
 ·refine psMono (ps_for (g.own hT'.1.2) (g.calm hT'.1.1) (sndR s X ex G it t g hs hr) (pgT g T t hT) ha (fun x=>folded_src hs X.env x)) fun Dn σ H ⟨B,F,τ,f,m,q⟩=>?_
  have q0:PO' ex (bnd (srcO cl s τ) fun p=>forM (fun x τ=>bnd (setT T x τ) fun τ'=>evSs cl a τ') p.1 p.2) (Fk X.K B Dn):=q
  have base:PO' ex (evSr cl s τ) fun its=>PO' ex (forM (fun x τ=>bnd (setT T x τ) fun τ'=>evSs cl a τ') its τ) (Fk X.K B Dn):=by
   cases s with
   | rng1 u=>exact(PO'.bnd (show PO' ex (bnd (evSr cl (.rng1 u) τ) fun its=>.ok (its,τ)) _ from PO'.bnd q0)).mono fun its h=>h.ok
   | rng2 u v=>exact(PO'.bnd (show PO' ex (bnd (evSr cl (.rng2 u v) τ) fun its=>.ok (its,τ)) _ from PO'.bnd q0)).mono fun its h=>h.ok
   | _=>cases hr
  exact⟨fun _=>True,τ,all_slots m.rps,(evSr_rng hr base).mono fun p hp H1 e1=>for_core (m.grow e1) (.rng p.1 p.2) (by rw[ers_rng];exact hp)⟩
 ·refine psMono (ps_for (g.own hT'.1.2) (g.calm hT'.1.1) (sndS s X ex G it t g hs hs'.2) (pgT g T t hT) ha (fun x=>folded_src hs X.env x)) fun Dn σ H ⟨B,F,τ,f,m,q⟩=>?_
  have q0:PO' ex (bnd (srcO cl s τ) fun p=>forM (fun x τ=>bnd (setT T x τ) fun τ'=>evSs cl a τ') p.1 p.2) (Fk X.K B Dn):=q
  have q1:=PO'.bnd q0
  have hsrc:srcO cl s τ=(bnd (evSr cl s τ) fun its=>.ok (ers its,frz (varsS s) τ)):=by
   cases s with
   | val u=>rfl
   | zip u v=>rfl
   | _=>exact absurd rfl hr
  rw[hsrc] at q1
  obtain⟨F1,gg,b1,b2,b3,b4,b5,b6⟩:=freeze1 (varsS s) m.fok m.rps m.nod
  refine riAt (.refl _) b6 (PO'.bnd q1) fun its J H1 e1 _ w1 hk=>?_
  obtain⟨c1,c2,c3⟩:=grow (fun _=>True) b1 b2 e1
  have m2:Frm X.K B (fun a=>F1 a∨(True∧H a=none∧H1 a≠none)) H1 σ (frz (varsS s) τ) gg:=m.stp (b4.trans c3 (fun x hx=>.inl (b5 x hx))) c1 c2 b3 fun a ha=>.inl (b5 a ha)
  exact for_core m2 (w1.step (fun a xs h r=>⟨h.elim (fun z=>.inl z) fun z=>.inr ⟨trivial,z,r.some⟩,r⟩) fun a xs h=>h) hk.ok
mutual
theorem snS:∀ (a:IS) (X:Cx) (ex:Str→Prop) (G:Gm) (s:Stmt),GOk Z CX cl xp X ex G→chkS Z G a s=true→PS X s (RS X.K ex (evS cl a))
 | .asg tg e,X,ex,G,s,g,h=>by
  cases s with
  | Assign ts v pos=>
   match ts,h with
   | [t],h=>
    have h':(chkT G tg t && chk Z G e v && (isName t || (isTup t && notTuple v)))=true:=h
    simp only[Bool.and_eq_true] at h'
    exact st_asg g h'.1.1 h'.1.2 h'.2
   | [],h=>first | exact no_h h | cases h
   | _::_::_,h=>first | exact no_h h | cases h
  | _=>first | exact no_h h | cases h
 | .par i j a b,X,ex,G,s,g,h=>by cases s<;>first | exact no_h h | cases h
 | .setix i k e,X,ex,G,s,g,h=>by
  cases s with
  | Assign ts v pos=>
   cases ts with
   | nil=>first | exact no_h h | cases h
   | cons t ts=>
    cases ts with
    | cons _ _=>cases t<;>first | exact no_h h | cases h | (rename_i o _ _;cases o<;>cases h)
    | nil=>
     cases t with
     | Subscript o s sp=>
      cases o with
      | Name x p=>
       have h':(chkV G i x && notSlice s && chk Z G k s && chk Z G e v)=true:=h
       simp only[Bool.and_eq_true] at h'
       exact st_setix g h'.1.1.1 h'.1.1.2 h'.1.2 h'.2
      | _=>first | exact no_h h | cases h
     | _=>first | exact no_h h | cases h
  | _=>first | exact no_h h | cases h
 | .app i e,X,ex,G,s,g,h=>by
  cases s with
  | Expr v pos=>
   cases v with
   | Call fn args kws cpos=>
    cases fn with
    | Attribute o name apos=>
     cases o with
     | Name x p=>
      match args,kws,h with
      | [v],[],h=>
       have h':(chkV G i x && name == "append" && apos.endLine == cpos.line && notStar v && chk Z G e v)=true:=h
       simp only[Bool.and_eq_true] at h'
       have e1:name = "append":=eq_of_beq h'.1.1.1.2
       subst e1
       exact st_app g h'.1.1.1.1 h'.1.1.2 h'.1.2 h'.2
      | [],_,h=>first | exact no_h h | cases h
      | [_],_::_,h=>first | exact no_h h | cases h
      | _::_::_,_,h=>first | exact no_h h | cases h
     | _=>first | exact no_h h | cases h
    | _=>first | exact no_h h | cases h
   | _=>first | exact no_h h | cases h
  | _=>first | exact no_h h | cases h
 | .rvs i,X,ex,G,s,g,h=>by
  cases s with
  | Expr v pos=>
   cases v with
   | Call fn args kws cpos=>
    cases fn with
    | Attribute o name apos=>
     cases o with
     | Name x p=>
      match args,kws,h with
      | [],[],h=>
       have h':(chkV G i x && name == "reverse" && apos.endLine == cpos.line)=true:=h
       simp only[Bool.and_eq_true] at h'
       have e1:name = "reverse":=eq_of_beq h'.1.2
       subst e1
       exact st_rvs g h'.1.1 h'.2
      | [],_::_,h=>first | exact no_h h | cases h
      | _::_,_,h=>first | exact no_h h | cases h
     | _=>first | exact no_h h | cases h
    | _=>first | exact no_h h | cases h
   | _=>first | exact no_h h | cases h
  | _=>first | exact no_h h | cases h
 | .clr i,X,ex,G,s,g,h=>by
  cases s with
  | Expr v pos=>
   cases v with
   | Call fn args kws cpos=>
    cases fn with
    | Attribute o name apos=>
     cases o with
     | Name x p=>
      match args,kws,h with
      | [],[],h=>
       have h':(chkV G i x && name == "clear" && apos.endLine == cpos.line)=true:=h
       simp only[Bool.and_eq_true] at h'
       have e1:name = "clear":=eq_of_beq h'.1.2
       subst e1
       exact st_clr g h'.1.1 h'.2
      | [],_::_,h=>first | exact no_h h | cases h
      | _::_,_,h=>first | exact no_h h | cases h
     | _=>first | exact no_h h | cases h
    | _=>first | exact no_h h | cases h
   | _=>first | exact no_h h | cases h
  | _=>first | exact no_h h | cases h
 | .appx _ _ _,X,ex,G,s,g,h=>by cases s<;>first | exact no_h h | cases h
 | .exp e,X,ex,G,s,g,h=>by
  cases s with
  | Expr v pos=>
   have h':(notComp v && chk Z G e v)=true:=by cases v<;>first | exact h | (rename_i c _ _;cases c<;>exact h)
   simp only[Bool.and_eq_true] at h'
   exact st_exp g h'.1 h'.2
  | _=>first | exact no_h h | cases h
 | .ret e,X,ex,G,s,g,h=>by
  cases s with
  | Return v pos=>
   cases v with
   | none=>first | exact no_h h | cases h
   | some v=>exact st_ret g h
  | _=>first | exact no_h h | cases h
 | .retN,X,ex,G,s,g,h=>by
  cases s with
  | Return v pos=>
   cases v with
   | none=>exact st_retN
   | some v=>first | exact no_h h | cases h
  | _=>first | exact no_h h | cases h
 | .if_ t a b,X,ex,G,s,g,h=>by
  cases s with
  | If c x y pos=>
   have h':(chk Z G t c && chkSs Z G a x && chkSs Z G b y)=true:=h
   simp only[Bool.and_eq_true] at h'
   exact st_if (snd t X ex G c g h'.1.1).2 (snSs a X ex G x g h'.1.2) (snSs b X ex G y g h'.2)
  | _=>first | exact no_h h | cases h
 | .for_ tg s body,X,ex,G,st,g,h=>by
  cases st with
  | For t it b els pos=>
   cases els with
   | cons _ _=>first | exact no_h h | cases h
   | nil=>
    have h':(((G.cm && G.rs) && chkT G tg t) && (chkSr Z G s it && srOk s t) && chkSs Z G body b)=true:=h
    simp only[Bool.and_eq_true] at h'
    exact st_for g h'.1.1 h'.1.2 (snSs body X ex G b g h'.2)
  | _=>first | exact no_h h | cases h
 | .while_ t body,X,ex,G,s,g,h=>by
  cases s with
  | While c b els pos=>
   cases els with
   | cons _ _=>first | exact no_h h | cases h
   | nil=>
    have h':((G.rs && chk Z G t c) && chkSs Z G body b)=true:=h
    simp only[Bool.and_eq_true] at h'
    exact st_while g h'.1.1 (snd t X ex G c g h'.1.2).2 (snSs body X ex G b g h'.2)
  | _=>first | exact no_h h | cases h
 | .brk,X,ex,G,s,g,h=>by
  cases s with
  | Break pos=>exact psMono ps_break fun Dn σ H ⟨B,F,τ,f,m,q⟩=>q.ok _ _ _ _ m
  | _=>first | exact no_h h | cases h
 | .cnt,X,ex,G,s,g,h=>by
  cases s with
  | Continue pos=>exact psMono ps_continue fun Dn σ H ⟨B,F,τ,f,m,q⟩=>q.ok _ _ _ _ m
  | _=>first | exact no_h h | cases h
 | .pass,X,ex,G,s,g,h=>by
  cases s with
  | Pass pos=>exact psMono ps_pass fun Dn σ H ⟨B,F,τ,f,m,q⟩=>q.ok _ _ _ _ m
  | Expr v pos=>
   cases v with
   | Constant c j p=>
    cases c with
    | str z=>exact psMono ps_doc fun Dn σ H ⟨B,F,τ,f,m,q⟩=>q.ok _ _ _ _ m
    | _=>first | exact no_h h | cases h
   | _=>first | exact no_h h | cases h
  | _=>first | exact no_h h | cases h
 | .raise_ n c w,X,ex,G,s,g,h=>by
  cases s with
  | Raise e cause pos=>
   cases cause with
   | some _=>exact no_h h
   | none=>
    have h:rsv e (fun x=>G.rs && G.cm && chkG Z G n x && x == c && Z.rc.contains (n,c))=true:=h
    obtain⟨x,np,w',j,p,cpos,rfl,h⟩:=rsv_ok h
    have h':(G.rs && G.cm && chkG Z G n x && x == c && Z.rc.contains (n,c))=true:=h
    simp only[Bool.and_eq_true] at h'
    have e:=eq_of_beq h'.1.2
    subst e
    exact st_raise g h'.1.1.1.1 h'.1.1.1.2 h'.1.1.2 (by simpa using h'.2)
  | _=>exact no_h h
 | .tryx body n cs i hd,X,ex,G,s,g,h=>by cases s<;>exact no_h h
 | .raisee n c e,X,ex,G,s,g,h=>by
  have h1:rev s (fun o=>rsx o fun x a=>G.rs && G.cm && chkG Z G n x && x == c && Z.rc.contains (n,c) && chks Z {G with rs:=false,tr:=false} [e] [a])=true:=by cases s<;>exact h
  obtain⟨o,pos,rfl,h2⟩:=rev_ok h1
  obtain⟨x,np,a,cpos,rfl,h3⟩:=rsx_ok h2
  simp only[Bool.and_eq_true] at h3
  obtain⟨⟨⟨⟨⟨hrs,hcm⟩,hx⟩,hxc⟩,hrc⟩,hst⟩:=h3
  have e:=eq_of_beq hxc
  subst e
  exact st_raisee g hrs hcm hx (by simpa using hrc) hst
 | .tryc i f es n cs k hd,X,ex,G,s,g,h=>by
  have h1:tcv s (fun xi xf args xc y b0 r=>G.tr && G.cm && chkN G i xi && chkG Z G f xf && Z.fnc G f && chks Z {G with rs:=false,tr:=false} es args && chkG Z G n xc && cs.all (fun c=>Z.xm.contains (c,n)) && G.N[k]? == some y && G.kd[k]? == some .local && chkSs Z {G with cm:=false,rs:=false,tr:=false} hd (b0::r))=true:=by cases s<;>exact h
  exact st_tryc g h1 fun tr a ss hss=>snSs hd (xSuite X a) nox _ ss (gok_suite g (tr.pl a)) hss
 | .never,X,ex,G,s,g,h=>psMono ps_never fun Dn σ H ⟨B,F,τ,f,m,q⟩=>q.no.elim
theorem snSs:∀ (as:List IS) (X:Cx) (ex:Str→Prop) (G:Gm) (ss:List Stmt),GOk Z CX cl xp X ex G→chkSs Z G as ss=true→PSs X ss (RS X.K ex (evSs cl as))
 | [],X,ex,G,ss,g,h=>by
  cases ss with
  | nil=>exact pssMono pss_nil fun Dn σ H ⟨B,F,τ,f,m,q⟩=>q.ok _ _ _ _ m
  | cons _ _=>first | exact no_h h | cases h
 | a::as,X,ex,G,ss,g,h=>by
  cases ss with
  | nil=>first | exact no_h h | cases h
  | cons s ss=>
   have h':(chkS Z G a s && chkSs Z G as ss)=true:=h
   simp only[Bool.and_eq_true] at h'
   refine pssMono (pss_cons (snS a X ex G s g h'.1) (snSs as X ex G ss g h'.2)) fun Dn σ H ⟨B,F,τ,f,m,q⟩=>?_
   refine⟨B,F,τ,f,m,(PO'.bnd q).mono fun r hr=>?_⟩
   cases r with
   | nx τ'=>exact fun σ' H' F' f' m'=>⟨B,F',τ',f',m',hr⟩
   | ct τ'=>exact hr.ok
   | bk τ'=>exact hr.ok
   | rt d=>exact hr.ok
end
end
end L2
namespace L2
open PySem PySem.Spec PyProof.Rows PySem.SeqAt
section
variable {P:Program} {w:World}
theorem cx1_hid {outer:List Env} {H:Hp} {s:Shared} {E:XK} {e:Value} {s':Shared} (x:HOk P w H s.heap) (fr:∀ b ∈ frs outer,H b=none) (h:CX1 P w outer (hidC s.heap H) s E e s'):CX1 P w outer H s E e s':=by
 obtain⟨a,cls,a0,H',B,h1,h2,h3,h4,h5,_,h6,h7,h8⟩:=h
 exact⟨a,cls,a0,resC H H',B,h1,h2,h3,res_un x h4,res_ok x h5 (un_pers h4) h6 fr,res_same,fun b o e n f=>h6 b o e (hid_none n) f,h7,h8⟩
theorem cx1_no {outer:List Env} {H:Hp} {s:Shared} {e:Value} {s':Shared}:¬ CX1 P w outer H s (fun _ _ _=>False) e s':=fun ⟨_,_,_,_,_,_,_,_,_,_,_,_,_,z⟩=>z
variable {K:PySem.W.Frag} {mg:Str→Option Value} {base:Heap} {N:List Str} {qual:Str} {scope:Scope} {f:Addr} {cd:Value} {A:Around} {outer:List Env} {s:Shared} {H:Hp} {E:XK}
theorem cx_mk {H':Hp} {B:Heap} {s2:Shared} {a:Addr} {cls a0:Value} (lt:LTH H) (os:s2.os=s.os) (bare:AllBare s2.gens) (fl:Heap.FlyingW B outer a cls a0 s2.heap) (hB:HOk P w H' B)
  (kB:∀ b o,s.heap.get? b=some o→H b=none→b ∉ frs outer→B.get? b=some o) (hs:∀ b o,s.heap.get? b=some o→H b=none→b ∈ frs outer→∃ sl,s2.heap.get? b=some {o with slots:=sl})
  (fr:∀ b o,s.heap.get? b=some o→H b=none→H' b=none) (pz:∀ b o u,H b=some (.frz o u)→H' b=some (.frz o u)) (pt:∀ b xs,H b=some (.tup xs)→H' b=some (.tup xs)) (hE:E cls none H0):CX1 P w outer H s E (.ref a) s2:=by
 refine⟨a,cls,a0,H',B,rfl,os,bare,⟨fun b o e n nf _=>fl.1 _ _ (kB b o e n nf),fun b o e n hf _=>hs b o e n hf,fun b o e n _=>fr b o e n,fun b o e _=>?_,pt,pz,fun b ps e=>?_⟩,hB,fun b o e=>(lt b o e).elim (fun ⟨ob,u,z⟩=>by subst z;exact pz _ _ _ e) fun ⟨xs,z⟩=>by subst z;exact pt _ _ e,kB,fl,hE⟩
 ·cases q:H b with
  | none=>
   by_cases hf:b ∈ frs outer
   ·obtain⟨sl,h⟩:=hs b o e q hf
    exact⟨_,h⟩
   ·exact⟨_,fl.1 _ _ (kB b o e q hf)⟩
  | some u=>
   have:∃ u',H' b=some u':=by
    rcases lt b u q with ⟨ob,v,rfl⟩ | ⟨xs,rfl⟩
    ·exact⟨_,pz _ _ _ q⟩
    ·exact⟨_,pt _ _ q⟩
   obtain⟨u',hu⟩:=this
   obtain⟨ob,ho⟩:=(hB b u' hu).at
   exact⟨_,fl.1 _ _ ho⟩
 ·rcases lt b _ e with ⟨ob,v,z⟩ | ⟨xs,z⟩<;>cases z
theorem cx_fr {b:Addr} {o:Obj} (e:s.heap.get? b=some o) (n:b ∉ frs outer):b ∉ frs (envOfC qual scope s.heap.objs.size f cd::outer):=fun z=>by
 unfold frs at z n
 rcases List.mem_filterMap.mp z with ⟨env,hm,hf⟩
 rcases List.mem_cons.mp hm with rfl | hm
 ·have h1:s.heap.objs.size=b:=Option.some.inj hf
  have h2:=Heap.lt_size e
  rw[h1] at h2
  exact Nat.lt_irrefl _ h2
 ·exact n (List.mem_filterMap.mpr ⟨env,hm,hf⟩)
theorem cx_pass (lt:LTH H) {ex:Str→Prop} (hE:∀ c C,ex c→PySem.W.nsIn K mainGlobals c=some (some (.ref C))→E (.ref C) none H0) :
  Passes (CX1 P w) (cxOf (CX1 P w) P w K mg base N qual scope f cd A outer s H E) (fun cls _ _=>∃ c C,ex c∧PySem.W.nsIn K mainGlobals c=some (some (.ref C))∧cls=.ref C):=by
 intro pins σ H1 s1 e s' I ⟨a,cls,a0,H',B,he,os,bare,un,hB,_,kB,fl,c,C,hc,hn,hcls⟩
 subst he hcls
 have I':=I.call' os un (hB.kept fl.1) bare (fun b z=>absurd z (by simp))
 show wpAny _ _ (leaving _ (.ref a)) _ _ s'
 refine wpAny_leaves_onW (show (A.deeper (envOfC qual scope s.heap.objs.size f cd)).frames=some (envOfC qual scope s.heap.objs.size f cd::outer) from I.ok.frames) rfl fl fun h' fl' up=>?_
 refine cx_mk lt I'.os I'.bare fl' hB (fun b o e n nf=>?_) (fun b o e n hf=>?_) (fun b o e n=>I'.base.free b o e n (by simp[cxOf])) I'.base.frzs I'.base.tups (hE c C hc hn)
 ·exact kB b o (I.base.keep b o e n nf (by simp[cxOf])) (I.base.free b o e n (by simp[cxOf])) (cx_fr e nf)
 ·obtain⟨sl,h1⟩:=I'.base.slot b o e n hf (by simp[cxOf])
  obtain⟨_,o',ho',nf⟩:=I.ok.funs.mem hf
  have ho':s.heap.get? b=some o':=ho'
  rw[e] at ho'
  cases ho'
  obtain⟨sl',h2⟩:=up b _ h1 nf
  exact⟨sl',h2⟩
theorem cx_raise (lt:LTH H) {pins:List (Addr×Obj)} {σ:St} {H1:Hp} {s1:Shared} {C e:Addr} {h':Heap} {vs:List Value} (hE:E (.ref C) none H0)
  (I:Inv (cxOf (CX1 P w) P w K mg base N qual scope f cd A outer s H E) pins σ H1 s1) (hx:Heap.MadeExcOf s1.heap h' e (.ref C) vs) :
  (cxOf (CX1 P w) P w K mg base N qual scope f cd A outer s H E).xe (.ref e) {s1 with heap:=h'}:=by
 have hin:∀ env ∈ (cxOf (CX1 P w) P w K mg base N qual scope f cd A outer s H E).stack,∀ b,env.frame=some b→b ∈ frs (cxOf (CX1 P w) P w K mg base N qual scope f cd A outer s H E).stack:=fun env he b hb=>List.mem_filterMap.mpr ⟨env,he,hb⟩
 show wpAny _ _ (leaving _ (.ref e)) _ _ _
 refine wpAny_leaves_madeW (base:=PySem.W.hideAll s1.heap (frs (cxOf (CX1 P w) P w K mg base N qual scope f cd A outer s H E).stack)) (h:=s1.heap) (show (A.deeper (envOfC qual scope s.heap.objs.size f cd)).frames=some (envOfC qual scope s.heap.objs.size f cd::outer) from I.ok.frames) rfl (fun b o q=>PySem.W.of_hideAll _ q) (PySem.W.funFrames_hide I.stack hin) hx fun h2 t fl _ _ up=>?_
 have trk:∀ b u o,H1 b=some u→s1.heap.get? b=some o→(PySem.W.hideAll s1.heap (frs (cxOf (CX1 P w) P w K mg base N qual scope f cd A outer s H E).stack)).get? b=some o:=fun b u o hu ho=>PySem.W.hideAll_get _ ho fun z=>by
  rw[I.stkFree b z] at hu;cases hu
 refine cx_mk (H':=H1) lt I.os I.bare fl (fun b o hb=>?_) (fun b o he n nf=>?_) (fun b o he n hf=>?_) (fun b o e n=>I.base.free b o e n (by simp[cxOf])) I.base.frzs I.base.tups hE
 ·refine(I.hok b o hb).stay (fun c u hc hu=>?_) (fun _ z=>z) fun _ _ z=>z
  rcases hc with rfl | hc
  ·exact trk _ _ _ hb hu
  ·exact trk _ _ _ hc hu
 ·exact PySem.W.hideAll_get _ (I.base.keep b o he n nf (by simp[cxOf])) (cx_fr he nf)
 ·obtain⟨sl,h1⟩:=I.base.slot b o he n hf (by simp[cxOf])
  obtain⟨_,o',ho',nf⟩:=I.ok.funs.mem hf
  have ho':s.heap.get? b=some o':=ho'
  rw[he] at ho'
  cases ho'
  obtain⟨sl',h3⟩:=up b _ (hx.keeps b _ h1) nf
  exact⟨sl',h3⟩
end
end L2
namespace L2
open PySem PySem.Spec PyProof.Rows PySem.SeqAt
noncomputable def xTry (X:Cx) (pins:List (Addr×Obj)) (E:Value→Shared→Prop):Cx:={X with xe:=E,pn:=X.pn++pins}
noncomputable def RSB (K:PySem.W.Frag) (B:Bs) (ex:Str→Prop) (g:Ev→Res Fl):TS:=fun Dn σ H=>∃ F τ f,Frm K B F H σ τ f∧PO' ex (g τ) (Fk K B Dn)
section
variable {X:Cx} {pins pins':List (Addr×Obj)} {σ:St} {H:Hp} {s:Shared} {E:Value→Shared→Prop} {a:Addr}
theorem inv_try (I:Inv X pins σ H s):Inv (xTry X pins E) [] σ H s:=
 ⟨⟨I.ok.mod,I.ok.kind,I.ok.glob,I.ok.blt,I.ok.above,I.ok.inj,I.ok.has,I.ok.cab,I.ok.hd,I.ok.frames,I.ok.stk,I.ok.exf,I.ok.bs,I.ok.bsz,I.ok.noex,I.ok.exfs,I.ok.funs,I.ok.frf⟩,I.os,I.bare,I.base,I.loc,I.cell,I.free,I.freeC,fun p hp=>I.pin p (by simpa[xTry] using hp),I.hok,I.len⟩
theorem inv_untry (I:Inv (xTry X pins E) pins' σ H s):Inv X pins σ H s:=
 ⟨⟨I.ok.mod,I.ok.kind,I.ok.glob,I.ok.blt,I.ok.above,I.ok.inj,I.ok.has,I.ok.cab,I.ok.hd,I.ok.frames,I.ok.stk,I.ok.exf,I.ok.bs,I.ok.bsz,I.ok.noex,I.ok.exfs,I.ok.funs,I.ok.frf⟩,I.os,I.bare,I.base,I.loc,I.cell,I.free,I.freeC,fun p hp=>I.pin p (List.mem_append_left _ hp),I.hok,I.len⟩
end
section
variable {Z:Sg} {CX:CXT} {cl:Nat→List D→Res D} {xp:XK→Hp→Str→Prop} {X:Cx} {ex:Str→Prop} {G:Gm} {pins:List (Addr×Obj)} {a:Addr}
theorem gok_try (g:GOk Z CX cl xp X ex G) {E:Value→Shared→Prop} {ex':Str→Prop} (hE:∃ E':XK,Passes CX (xTry X pins E) E'∧∀ c H,ex' c→xp E' H c):GOk Z CX cl xp (xTry X pins E) ex' {G with rs:=false,tr:=false} where
 N:=g.N
 nod:=g.nod
 calm:=g.calm
 fk:=g.fk
 un:=g.un
 own:=fun z=>by cases z
 kd:=g.kd
 noD:=g.noD
 gl:=g.gl
 nam:=g.nam
 df:=g.df
 blt:=g.blt
 cst:=g.cst
 fns:=g.fns
 xcv:=g.xcv
 xcl:=g.xcl
 xmt:=g.xmt
 xrs:=g.xrs
 rse:=fun z=>by cases z
 tr:=fun z=>by cases z
 exs:=hE
 hid:=g.hid
 exn:=g.exn
noncomputable def catchE (X:Cx) (pins:List (Addr×Obj)) (Dn:Ends) (hs:List ExceptHandler):Value→Shared→Prop:=fun e s1=>
 wpAny (model X.prog X.w) X.A (noteFrame e X.env) (fun _ s2=>wpAny (model X.prog X.w) X.A (setFlight e none) (fun _ s3=>wpAny (model X.prog X.w) X.A (handleBy e X.env hs) (SP X pins Dn) X.xe s3) X.xe s2) X.xe s1
theorem catch_ok (g:GOk Z (CX1 X.prog X.w) cl xp X ex G) (hst:X.stack=X.env::X.outer) (hfr:X.env.frame=some X.env.locals) (lt:LTH X.H₀) (hpl:∀ a:Addr,∀ f ∈ Z.fns,f ∈ Z.pl→∀ x,Z.name f=some x→FnC X.prog X.w X.K X.mg X.base (CX1 X.prog X.w) (X.A.mark (some (.ref a))) cl xp f x)
  {B0:Bs} (hB0:B0.H=X.H₀) (hBF:FOk B0.F B0.H) (hBL:∀ a xs,¬ B0.L a xs) (hBT:∀ a xs,¬ B0.T a xs) {hd:List IS} {n i:Nat} {c x y:Str} {np hpos:Pos} {b0:Stmt} {suite:List Stmt} {Dn:Ends} {C C':Addr} {N:Nat}
  (h2:chkG Z G n x=true) (hn:PySem.W.nsIn X.K mainGlobals c=some (some (.ref C))) (hnm:nameIn X.K C=some c) (hm:X.mg x=some (.ref C')) (hex:PySem.W.exmOne X.K (.ref C) (.ref C')=some true) (h4:G.N[i]? = some y) (h5:G.kd[i]? = some .local)
  (h6:chkSs Z {G with cm:=false,rs:=false,tr:=false} hd (b0::suite)=true) (hN:N=X.N.length) (q:PO' ex (bnd (noX (evSs cl hd ((List.replicate N none).set i (some (.exc c))))) fun | .nx τ'=>.ok (.nx (τ'.set i none)) | _=>stk) (Fk X.K B0 Dn)) :
  Passes (CX1 X.prog X.w) (xTry X pins (catchE X pins Dn [.ExceptHandler (some (.Name x np)) (some y) (b0::suite) hpos])) (fun cls _ _=>cls=.ref C):=by
 intro pins' σ' H1 s1 e s' I2 ⟨a,cls,a0,H',B,he,os,bare,un,hB,sm,kB,fl,hcls⟩
 subst he hcls
 obtain⟨k1,k2,k3,k4⟩:=gl_of g h2
 have hk:X.env.kindOf y=some .local:=(g.kd i y h4).trans h5
 have hNd:X.N.Nodup:=by rw[g.N];exact g.nod
 have hi:X.N[i]? = some y:=by rw[g.N];exact h4
 have ok:=(inv_untry I2).ok
 have fl0:Heap.FlyingW B (X.env::X.outer) a (.ref C) a0 s'.heap:=hst ▸ fl
 show wpAny (model X.prog X.w) X.A (noteFrame (.ref a) X.env) _ X.xe s'
 refine wpAny_looks_onW (A:=X.A) (by rw[← hst];exact ok.frames) hfr fl0 fun h4' held4 up4=>?_
 refine wpAny_landsW held4 fun h5' fl5 up5=>?_
 have I5:Inv (xTry X pins (catchE X pins Dn [.ExceptHandler (some (.Name x np)) (some y) (b0::suite) hpos])) pins' σ' H' {s' with heap:=h5'}:=fly_inv I2 os bare un hB sm kB (show Heap.FlyingW B X.stack a (.ref C) a0 h5' from hst ▸ fl5) (up4.trans up5)
 have J5:Inv (xSuite X a) pins σ' H' {s' with heap:=h5'}:=inv_suite (inv_untry I5)
 refine wpAny_handleBy_cons (codeAny_handlers_test (ld_glob J5 k1 hm ?_ k4)) (by intro q;cases q)
 obtain⟨oe5,he5,hc5⟩:=fl5.there
 refine(PySem.W.exm_one J5.kIn (IX.type ⟨oe5,he5,hc5⟩) hex).here ?_
 refine codeAny_handlers_suite_as ?_
 refine lands_againW fl5 fun h6' fl6 up6=>?_
 have I6:Inv (xTry X pins (catchE X pins Dn [.ExceptHandler (some (.Name x np)) (some y) (b0::suite) hpos])) pins' σ' H' {s' with heap:=h6'}:=fly_inv I2 os bare un hB sm kB (show Heap.FlyingW B X.stack a (.ref C) a0 h6' from hst ▸ fl6) ((up4.trans up5).trans up6)
 obtain⟨oe,vs,he6,hc6,hd6,_⟩:=fl6.first
 have na:H' a=none:=by
  cases z:H' a with
  | none=>rfl
  | some u=>
   obtain⟨ob,ho⟩:=(hB a u z).at
   rw[fl6.2.1] at ho;cases ho
 have nst:∀ b,b ∉ X.fs→b≠X.env.locals→b ∉ frs X.stack:=fun b h1 h2 z=>by
  rw[hst] at z
  unfold frs at z
  rcases List.mem_filterMap.mp z with ⟨env,hm,hf⟩
  rcases List.mem_cons.mp hm with rfl | hm
  ·rw[hfr] at hf;exact h2 (Option.some.inj hf).symm
  ·exact h1 (List.mem_filterMap.mpr ⟨env,hm,hf⟩)
 have nl:a≠X.env.locals:=by
  rintro rfl
  obtain⟨m,⟨o,es,ep,ho,hd,_⟩,_⟩:=I6.loc
  have ho:h6'.get? X.env.locals=some o:=ho
  rw[he6] at ho;cases ho
  rw[hd6] at hd;cases hd
 have I6t:Inv (xSuite X a) pins σ' (upd H' a (.frz oe XU)) {s' with heap:=h6'}:=by
  refine(inv_suite (inv_untry I6)).track he6 na ⟨trivial,⟨_,he6⟩,fun _ _ _ _=>trivial⟩ (fun ob e z hx=>?_) ?_ nl (fun y c e z=>?_) fun p hp z=>?_
  ·by_cases hf:a ∈ X.fs
   ·obtain⟨sl,e1⟩:=I6.base.slot a ob e z hf hx
    have e1:h6'.get? a=_:=e1
    obtain⟨_,o',ho',nf⟩:=ok.funs.mem hf
    rw[show X.s₀.heap.get? a=_ from e] at ho';cases ho'
    rw[he6] at e1;cases e1
    exact nf _ hd6
   ·have e1:=I2.base.keep a ob e z hf hx
    have e2:=I2.base.free a ob e z hx
    have:=kB a ob e1 e2 (nst a hf nl)
    rw[fl6.2.1] at this;cases this
  ·show X.H₀ a=none
   cases z:X.H₀ a with
   | none=>rfl
   | some u=>
    exfalso
    rcases lt a u z with ⟨ob,v,rfl⟩ | ⟨xs,rfl⟩
    ·have:=I6.base.frzs a ob v z;rw[na] at this;cases this
    ·have:=I6.base.tups a xs z;rw[na] at this;cases this
  ·subst z
   obtain⟨v,o,ho,hd⟩:=I6.cell y c e
   have ho:h6'.get? c=some o:=ho
   rw[he6] at ho;cases ho
   rw[hd6] at hd;cases hd
  ·subst z
   obtain⟨e1,e2,e3,e4,_⟩:=I2.pin p (List.mem_append_left _ hp)
   have:=kB p.1 p.2 e1 e2 (nst _ e4 e3)
   rw[fl6.2.1] at this;cases this
 refine store_ok (X:=xSuite X a) (v:=.ref a) I6t hNd hi (.inl hk) rfl (fun s7 I7=>?_) (.inr hk)
 have sm0:Same B0.H (upd H' a (.frz oe XU)):=by
  rw[hB0]
  intro b o e
  have hb:H' b=some o:=by
   rcases lt b o e with ⟨ob,v,rfl⟩ | ⟨xs,rfl⟩
   ·exact I6.base.frzs b ob v e
   ·exact I6.base.tups b xs e
  rw[upd_ne (ne_of_none hb na)]
  exact hb
 have hlen:σ'.length=N:=by rw[hN];exact I6.len
 have hiN:i < σ'.length:=by rw[I6.len];exact(List.getElem?_eq_some_iff.mp hi).1
 have xo:SqE X.K (upd H' a (.frz oe XU)) a (.inr c):=⟨C,oe,vs,hn,hnm,upd_same,hc6,hd6⟩
 obtain⟨g',h',r0,p0⟩:=(rps_none (K:=X.K) (F:=B0.F) (H:=upd H' a (.frz oe XU)) hlen).put i (MRep.exc xo)
 have gn:g'=[]:=by
  have:=p0.length_eq
  simp at this
  exact this.1
 subst gn
 have frm:Frm X.K B0 B0.F (upd H' a (.frz oe XU)) (σ'.set i (some (.ref a))) ((List.replicate N none).set i (some (.exc c))) []:=
  ⟨fun b hb z=>hBF b hb (sm0.free z),r0,List.nodup_nil,sm0,fun _ z=>absurd z (by simp),fun _ z=>z,fun _ z=>.inl z,fun a xs z=>(hBL a xs z).elim,fun a xs z=>(hBT a xs z).elim⟩
 have q2:PO' nox (evSs cl hd ((List.replicate N none).set i (some (.exc c)))) (Fk X.K B0 {nx:=fun σ8 H8=>∃ F8 τ8 f8,Frm X.K B0 F8 H8 σ8 τ8 f8∧Fk X.K B0 Dn (.nx (τ8.set i none)),rt:=fun _ _=>False}):=by
  cases z:evSs cl hd ((List.replicate N none).set i (some (.exc c))) with
  | error er=>rw[z] at q;exact q.no.elim
  | ok r=>
   rw[z] at q
   cases r with
   | nx τ8=>exact fun σ8 H8 F8 f8 m8=>⟨F8,τ8,f8,m8,q.ok⟩
   | _=>exact q.no.elim
 refine wpAny_mono (snSs hd (xSuite X a) nox _ (b0::suite) (gok_suite g (hpl a)) h6 pins s7 _ _ _ I7 ⟨B0,B0.F,_,[],frm,q2⟩) (fun fw s8 hs=>?_) fun _ _ z=>z.elim
 cases fw with
 | next=>
  obtain⟨σ8,H8,I8,F8,τ8,f8,m8,q8⟩:=hs
  refine unb_ok (inv_unsuite ok I8) hNd hi hk fun s9 I9=>?_
  obtain⟨g8,r9,n9,m9⟩:=Rps.drop (o:=none) i m8.rps m8.nod
  exact⟨_,_,I9,q8 _ _ F8 g8 ⟨m8.fok,r9,n9,m8.same,fun b hb=>m8.own b (m9 b hb),m8.inn,m8.out,m8.pin,m8.pit⟩⟩
 | brk=>obtain⟨_,_,_,z⟩:=hs;exact z.elim
 | cont=>obtain⟨_,_,_,z⟩:=hs;exact z.elim
 | ret u=>obtain⟨_,_,_,_,_,z⟩:=hs;exact z.elim
end
end L2
namespace L2
open PySem PySem.Spec PyProof.Rows PySem.SeqAt
noncomputable def tyv:Stmt→(List Stmt→Str→Str→Stmt→List Stmt→Bool)→Bool
 | .Try b [.ExceptHandler (some (.Name x _)) (some y) (b0::r) _] [] [] _,k=>k b x y b0 r
 | _,_=>false
theorem tyv_ok {s:Stmt} {k:List Stmt→Str→Str→Stmt→List Stmt→Bool} (h:tyv s k=true):∃ b x np y b0 r hp pos,s=.Try b [.ExceptHandler (some (.Name x np)) (some y) (b0::r) hp] [] [] pos∧k b x y b0 r=true:=by
 unfold tyv at h
 split at h
 ·exact⟨_,_,_,_,_,_,_,_,rfl,h⟩
 ·cases h
noncomputable def chkTry (Z:Sg) (G:Gm):IS→Stmt→Bool
 | .tryx body n cs i hd,s=>tyv s fun b x y b0 r=>chkSs Z {G with rs:=false,tr:=false} body b && chkG Z G n x && cs.all (fun c=>Z.xm.contains (c,n)) && G.N[i]? == some y && G.kd[i]? == some .local && chkSs Z {G with cm:=false,rs:=false,tr:=false} hd (b0::r)
 | _,_=>false
noncomputable def isTry:IS→Bool
 | .tryx _ _ _ _ _=>true
 | _=>false
noncomputable def chkB (Z:Sg) (G:Gm):List IS→List Stmt→Bool
 | [],[]=>true
 | a::as,s::ss=>(if isTry a=true then chkTry Z G a s else chkS Z G a s) && chkB Z G as ss
 | _,_=>false
section
variable {Z:Sg} {cl:Nat→List D→Res D} {X:Cx} {ex:Str→Prop} {G:Gm}
theorem st_try (g:GOk Z (CX1 X.prog X.w) cl (xp1 X.K) X ex G) (hst:X.stack=X.env::X.outer) (hfr:X.env.frame=some X.env.locals) (lt:LTH X.H₀) (hpl:∀ a:Addr,∀ f ∈ Z.fns,f ∈ Z.pl→∀ x,Z.name f=some x→FnC X.prog X.w X.K X.mg X.base (CX1 X.prog X.w) (X.A.mark (some (.ref a))) cl (xp1 X.K) f x)
  {B0:Bs} (hB0:B0.H=X.H₀) (hBF:FOk B0.F B0.H) (hBL:∀ a xs,¬ B0.L a xs) (hBT:∀ a xs,¬ B0.T a xs) {a:IS} {st:Stmt} (h:chkTry Z G a st=true):PS X st (RSB X.K B0 ex (evS cl a)):=by
 cases a with
 | tryx body n cs i hd=>
  obtain⟨b,x,np,y,b0,r,hp,pos,rfl,h0⟩:=tyv_ok (k:=fun b x y b0 r=>chkSs Z {G with rs:=false,tr:=false} body b && chkG Z G n x && cs.all (fun c=>Z.xm.contains (c,n)) && G.N[i]? == some y && G.kd[i]? == some .local && chkSs Z {G with cm:=false,rs:=false,tr:=false} hd (b0::r)) h
  have h:(chkSs Z {G with rs:=false,tr:=false} body b && chkG Z G n x && cs.all (fun c=>Z.xm.contains (c,n)) && G.N[i]? == some y && G.kd[i]? == some .local && chkSs Z {G with cm:=false,rs:=false,tr:=false} hd (b0::r))=true:=h0
  simp only[Bool.and_eq_true] at h
  obtain⟨⟨⟨⟨⟨h1,h2⟩,h3⟩,h4⟩,h5⟩,h6⟩:=h
  have h4:=eq_of_beq h4
  have h5:=eq_of_beq h5
  rw[List.all_eq_true] at h3
  obtain⟨k1,k2,k3,k4⟩:=gl_of g h2
  intro pins s σ H Dn I ⟨F,τ,f,m,q⟩
  have hτ:τ.length=X.N.length:=by rw[← m.rps.len];exact I.len
  refine wpAny_Try_except ?_
  have q:PO' ex (match evSs cl body τ with
   | .ok (.nx τ')=>.ok (.nx τ')
   | .error (.exc c)=>grd (cs.contains c) (bnd (noX (evSs cl hd ((List.replicate τ.length none).set i (some (.exc c))))) fun
    | .nx τ'=>.ok (.nx (τ'.set i none))
    | _=>stk)
   | _=>stk) (Fk X.K B0 Dn):=q
  cases z:evSs cl body τ with
  | ok rr=>
   rw[z] at q
   cases rr with
   | nx τ'=>
    have q:Fk X.K B0 Dn (.nx τ'):=q.ok
    refine wpAny_mono (snSs body X.nox nox _ b (gok_nox g) h1 pins s σ H Dn (I.wish _) ⟨B0,F,τ,f,m,by rw[z];exact q⟩) (fun fw s' hs=>?_) fun _ _ z=>False.elim z
    have hs:=SP.unwish hs
    cases fw with
    | next=>exact wpAny_execs_nil hs
    | _=>exact hs
   | _=>exact q.no.elim
  | error er=>
   rw[z] at q
   cases er with
   | stuck=>exact q.no.elim
   | exc c=>
    obtain⟨hcs,q⟩:=PO'.grd q
    have hc:(c,n) ∈ Z.xm:=by simpa using h3 c (by simpa using hcs)
    obtain⟨C,C',hn,_,hnm,hm,hex⟩:=g.xmt c n x hc k2
    have ps:=catch_ok (pins:=pins) (np:=np) (hpos:=hp) (Dn:=Dn) g hst hfr lt hpl hB0 hBF hBL hBT h2 hn hnm hm hex h4 h5 h6 hτ q
    have go:GOk Z (CX1 X.prog X.w) cl (xp1 X.K) (xTry X pins (catchE X pins Dn [.ExceptHandler (some (.Name x np)) (some y) (b0::r) hp])) (fun c'=>c'=c) {G with rs:=false,tr:=false}:=
     gok_try g ⟨_,ps,fun c' H e C'' hC=>by subst e;rw[hn] at hC;cases hC;rfl⟩
    refine wpAny_mono (snSs body _ _ _ b go h1 [] s σ H Dn (inv_try I) ⟨B0,F,τ,f,m,by rw[z];exact rfl⟩) (fun fw s' hs=>?_) fun e s' he=>he
    cases fw with
    | next=>
     obtain⟨σ',H',I',q'⟩:=hs
     exact wpAny_execs_nil ⟨σ',H',inv_untry I',q'⟩
    | brk=>obtain⟨σ',H',I',q'⟩:=hs;exact⟨σ',H',inv_untry I',q'⟩
    | cont=>obtain⟨σ',H',I',q'⟩:=hs;exact⟨σ',H',inv_untry I',q'⟩
    | ret u=>obtain⟨v,σ',H',I',rv,q'⟩:=hs;exact⟨v,σ',H',inv_untry I',rv,q'⟩
 | _=>cases h
theorem snB (g:GOk Z (CX1 X.prog X.w) cl (xp1 X.K) X ex G) (hst:X.stack=X.env::X.outer) (hfr:X.env.frame=some X.env.locals) (lt:LTH X.H₀) (hpl:∀ a:Addr,∀ f ∈ Z.fns,f ∈ Z.pl→∀ x,Z.name f=some x→FnC X.prog X.w X.K X.mg X.base (CX1 X.prog X.w) (X.A.mark (some (.ref a))) cl (xp1 X.K) f x)
  {B0:Bs} (hB0:B0.H=X.H₀) (hBF:FOk B0.F B0.H) (hBL:∀ a xs,¬ B0.L a xs) (hBT:∀ a xs,¬ B0.T a xs):∀ (as:List IS) (ss:List Stmt),chkB Z G as ss=true→PSs X ss (RSB X.K B0 ex (evSs cl as))
 | [],ss,h=>by
  cases ss with
  | nil=>exact pssMono pss_nil fun Dn σ H ⟨F,τ,f,m,q⟩=>q.ok _ _ _ _ m
  | cons _ _=>cases h
 | a::as,ss,h=>by
  cases ss with
  | nil=>cases h
  | cons s ss=>
   have h':((if isTry a=true then chkTry Z G a s else chkS Z G a s) && chkB Z G as ss)=true:=h
   rw[Bool.and_eq_true] at h'
   have p1:PS X s (RSB X.K B0 ex (evS cl a)):=by
    by_cases ht:isTry a=true
    ·rw[if_pos ht] at h'
     exact st_try g hst hfr lt hpl hB0 hBF hBL hBT h'.1
    ·rw[if_neg ht] at h'
     exact psMono (snS a X ex G s g h'.1) fun Dn σ H ⟨F,τ,f,m,q⟩=>⟨B0,F,τ,f,m,q⟩
   refine pssMono (pss_cons p1 (snB g hst hfr lt hpl hB0 hBF hBL hBT as ss h'.2)) fun Dn σ H ⟨F,τ,f,m,q⟩=>?_
   refine⟨F,τ,f,m,(PO'.bnd q).mono fun r hr=>?_⟩
   cases r with
   | nx τ'=>exact fun σ' H' F' f' m'=>⟨F',τ',f',m',hr⟩
   | ct τ'=>exact hr.ok
   | bk τ'=>exact hr.ok
   | rt d=>exact hr.ok
end
end L2
namespace L2
open PySem PySem.Spec PyProof.Rows PySem.SeqAt
noncomputable def chkDef (Z:Sg) (fn:Fn) (ps:List Str) (st:Stmt):Bool:=
 (defScope st).kind == .function && !(defScope st).isCoroutine && !(defScope st).isGenerator && decide (fn.G.N.Nodup) && fn.G.N.take ps.length == ps
 && ps.all (fun x=>(defScope st).names.lookup x == some .local || (defScope st).names.lookup x == some .cell) && (defScope st).names.all (fun y=>y.2 != .free)
 && (List.range fn.G.N.length).all (fun i=>(fn.G.N[i]?).bind ((defScope st).names.lookup ·) == fn.G.kd[i]?)
 && fn.G.N.all (fun x=>!(x == "__debug__") && !(x == "__classdict__"))
 && fn.G.gl.all (fun n=>match Z.name n with | some x=>(defScope st).names.lookup x == some .globalImplicit | none=>false)
 && decide (ps.length=fn.np) && chkB Z fn.G fn.body (defBody st)
structure DefSc (Z:Sg) (fn:Fn) (ps:List Str) (st:Stmt):Prop where
 sc:FnScope fn.G.N ps (defScope st)
 kd:∀ (i:Nat) (x:Str),fn.G.N[i]? = some x→(defScope st).names.lookup x=fn.G.kd[i]?
 noD:∀ x ∈ fn.G.N,(x == ("__debug__" : Str))=false∧(x == ("__classdict__" : Str))=false
 gl:∀ n ∈ fn.G.gl,∀ x,Z.name n=some x→(defScope st).names.lookup x=some .globalImplicit
 np:ps.length=fn.np
 body:chkB Z fn.G fn.body (defBody st)=true
theorem defSc_of {Z:Sg} {fn:Fn} {ps:List Str} {st:Stmt} (h:chkDef Z fn ps st=true):DefSc Z fn ps st:=by
 unfold chkDef at h
 simp only[Bool.and_eq_true] at h
 obtain⟨⟨⟨⟨⟨⟨⟨⟨⟨⟨⟨h1,h2⟩,h3⟩,h4⟩,h5⟩,h6⟩,h7⟩,h8⟩,h9⟩,h10⟩,h11⟩,h12⟩:=h
 rw[List.all_eq_true] at h6 h7 h8 h9 h10
 refine⟨⟨eq_of_beq h1,by simpa using h2,by simpa using h3,of_decide_eq_true h4,eq_of_beq h5,fun x hx=>?_,fun y hy=>by simpa using h7 y hy⟩,fun i x hx=>?_,fun x hx=>by simpa using h9 x hx,fun n hn x hx=>?_,of_decide_eq_true h11,h12⟩
 ·have:=h6 x hx
  rw[Bool.or_eq_true] at this
  exact this.elim (fun z=>.inl (eq_of_beq z)) fun z=>.inr (eq_of_beq z)
 ·have hlt:i < fn.G.N.length:=(List.getElem?_eq_some_iff.mp hx).1
  have:=eq_of_beq (h8 i (List.mem_range.mpr hlt))
  rw[hx] at this
  exact this
 ·have:=h10 n hn
  rw[hx] at this
  exact eq_of_beq this
structure DefOk (K:PySem.W.Frag) (mg:Str→Option Value) (Z:Sg) (T:Tb) (f:Nat) (x:Str):Prop where
 ex:∃ (fn:Fn) (st:Stmt) (fa:Addr) (fd:FuncData) (ps:List Str),T f=some fn∧Fun K x x st fa fd∧mg x=some (.ref fa)∧Binds K fd ps []∧DefSc Z fn ps st
section
variable {P:Program} {w:World} {K:PySem.W.Frag} {mg:Str→Option Value} {base:Heap} {Z:Sg} {T:Tb}
noncomputable def CVk (mg:Str→Option Value) (x:Str) (v:V):Prop:=(∃ C,v=.ref C∧mg x=some (.ref C))∨(∃ T,v=.ty T∧mg x=none∧bootBuiltins x=some (.type T))
structure TopOk (K:PySem.W.Frag) (mg:Str→Option Value) (Z:Sg) (T:Tb):Prop where
 nam:∀ n x,Z.name n=some x→x≠"__name__"∧(x == ("__debug__" : Str))=false
 blt:∀ (n:Nat) (x:Str),bnames[n]? = some x→mg x=none
 cst:∀ n d x,(n,d) ∈ Z.kst→Z.name n=some x→∃ u v,mg x=some u∧RelV v u∧∀ S H,HRep K S H v d
 fns:∀ f ∈ Z.fns,∀ x,Z.name f=some x→DefOk K mg Z T f x
 plc:∀ f ∈ Z.pl,∀ fn,T f=some fn→fn.G.cm=false
 xcv:∀ n ∈ Z.cls,∀ x,Z.name n=some x→∃ v,CVk mg x v
 xcl:∀ c n b x,(c,n,b) ∈ Z.xt→Z.name n=some x→∃ C,PySem.W.nsIn K mainGlobals c=some (some (.ref C))∧ExcAt K C∧∀ v,CVk mg x v→PySem.W.kitOne K (.ref C) (vv v)=some b
 xmt:∀ c n x,(c,n) ∈ Z.xm→Z.name n=some x→∃ C C',PySem.W.nsIn K mainGlobals c=some (some (.ref C))∧PySem.W.nsIn K mainGlobals x=some (some (.ref C'))∧nameIn K C=some c∧mg x=some (.ref C')∧PySem.W.exmOne K (.ref C) (.ref C')=some true
 xrs:∀ n c,(n,c) ∈ Z.rc→Z.name n=some c∧∃ C,mg c=some (.ref C)∧PySem.W.nsIn K mainGlobals c=some (some (.ref C))∧PySem.W.excIn K C bmV "ValueError.__new__" = true
theorem start_rps {F:Addr→Prop} {H:Hp}:∀ {vs:List V} {ds:List D} (n:Nat),HReps K F H vs ds→Rps K F H (vs.map some++List.replicate n none) ((ers ds).map some++List.replicate n none) []
 | [],[],n,.nil=>by
  induction n with
  | zero=>exact .nil
  | succ n ih=>exact .none ih
 | v::vs,d::ds,n,.cons h1 h2=>.some (f:=[]) h1.frozen (start_rps n h2)
structure Rm (n:Nat) (A:Around):Prop where
 dp:A.depth + 3 * n + 5 < recursionLimit
 un:A.units + 16 * n + 200 < cLine
theorem Rm.room {n:Nat} {A:Around} (r:Rm n A) (hn:n < 900) (h:A.handled=none):Room n A:=⟨fun _=>h,by have:=r.dp;rw[Nat.mod_eq_of_lt (by omega)];exact this,by have:=r.un;rw[Nat.mod_eq_of_lt (by omega)];exact this⟩
theorem Rm.roomp {n:Nat} {A:Around} (r:Rm n A) (hn:n < 900):Room (1000 + n) A:=⟨fun z=>by omega,by have:=r.dp;rw[show (1000 + n) % 1000=n by omega];exact this,by have:=r.un;rw[show (1000 + n) % 1000=n by omega];exact this⟩
theorem Rm.of {n k:Nat} {A:Around} (r:Room k A) (h:k % 1000=n):Rm n A:=⟨by have:=r.dp;rw[h] at this;exact this,by have:=r.un;rw[h] at this;exact this⟩
theorem fn_body (t:TopOk K mg Z T) {n k:Nat} {f:Nat} {fn:Fn} {x:Str} {st:Stmt} {fa:Addr} {fd:FuncData} {ps:List Str} (hk:k % 1000=n) (hn:n < 900) (h1:T f=some fn) (h2:Fun K x x st fa fd) (h5:DefSc Z fn ps st) (hp:k < 1000∨fn.G.cm=false)
  (ih:∀ (A:Around),Rm n A→∀ f ∈ Z.fns,(A.handled=none∨f ∈ Z.pl)→∀ x,Z.name f=some x→FnC P w K mg base (CX1 P w) A (callF T n) (xp1 K) f x) :
  FnOk P w K mg base (CX1 P w) (k + 1) fa fd ps (spF K (callF T (n + 1)) (xp1 K) f ps):=by
 have hcall:∀ ds,callF T (n + 1) f ds=runF (callF T n) fn ds:=fun ds=>by
  show (match T f with | some fn=>runF (callF T n) fn ds | none=>stk)=_
  rw[h1]
 obtain⟨oc,od,kV,doc,pm,an,cdv,ct,osl,rfl,lk,hcd⟩:=h2.ex
 refine fn_of lk hcd h5.sc (by omega) (fun vs H Q E h=>h.1) fun A outer s H vs Q E hr hsp=>?_
 obtain⟨hl,lt,F,ds,fok,m,q⟩:=hsp
 have hcm:fn.G.cm=true→A.handled=none:=fun z=>hp.elim (fun h=>hr.hd h) fun h=>by rw[h] at z;cases z
 refine⟨_,snB (Z:=Z) (cl:=callF T n) (ex:=xp1 K E H) (G:=fn.G) (B0:=⟨F,H,fun _ _=>False,fun _ _=>False⟩) ?_ rfl rfl lt (fun a f' hf' hpl' x' hx'=>ih ((A.deeper (envOfC x (defScope st) s.heap.objs.size fa cdv)).mark (some (.ref a))) ⟨(Rm.of hr hk).dp,(Rm.of hr hk).un⟩ f' hf' (.inr hpl') x' hx') rfl fok (fun _ _ z=>z) (fun _ _ z=>z) fn.body (defBody st) h5.body,?_⟩
 ·refine⟨rfl,h5.sc.nd,fun z=>by show A.handled.isNone=true;rw[hcm z];rfl,h5.sc.kind,?_,fun _=>PassesOwn.leaving,fun i y hy=>h5.kd i y hy,fun i y hy=>h5.noD y (List.mem_of_getElem? hy),fun m hm y hy=>h5.gl m hm y hy,t.nam,fun _ _=>rfl,t.blt,t.cst,?_,t.xcv,t.xcl,t.xmt,t.xrs,?_,?_,?_,?_,?_⟩
  ·have:=hr.un
   show (A.deeper _).units + 42 < cLine
   omega
  ·exact fun f' hf' hc x' hx'=>ih _ (Rm.of hr hk) f' hf' (hc.elim (fun z=>.inl (hcm z)) .inr) x' hx'
  ·exact fun _ pins σ H1 s1 c C h' e vs I hex hn hx=>cx_raise lt (hex C hn) I hx
  ·exact fun _=>⟨rfl,rfl,lt,fun a f' hf' hpl' x' hx'=>ih ((A.deeper (envOfC x (defScope st) s.heap.objs.size fa cdv)).mark (some (.ref a))) ⟨(Rm.of hr hk).dp,(Rm.of hr hk).un⟩ f' hf' (.inr hpl') x' hx',fun _ _ _ _ _ _ z=>z,fun c C H' hC C'' hC'=>by rw[hC] at hC';cases hC';rfl⟩
  ·exact⟨_,cx_pass (ex:=xp1 K E H) lt fun c C hc hn=>hc C hn,fun c H' hc C hn=>⟨c,C,hc,hn,rfl⟩⟩
  ·exact fun outer H s E e s' x fr h=>cx1_hid x fr h
  ·exact fun H outer s e s'=>cx1_no
 ·rw[hcall] at q
  obtain⟨gd,q⟩:=PO'.grd q
  have gd':(ers ds).length=fn.np:=of_decide_eq_true gd
  have hn':fn.G.N.length - vs.length=fn.G.N.length - fn.np:=by rw[m.length,← ers_length ds,gd']
  refine⟨F,(ers ds).map some++List.replicate (fn.G.N.length - fn.np) none,[],⟨fok,?_,List.nodup_nil,.refl _,fun a ha=>absurd ha (by simp),fun a h=>h,fun a h=>.inl h,fun a xs h=>h.elim,fun a xs h=>h.elim⟩,(PO'.bnd q).mono fun r hr=>?_⟩
  ·show Rps K F H (start fn.G.N vs) _ []
   unfold start
   rw[hn']
   exact start_rps _ m
  ·cases r with
   | nx τ'=>exact fun σ' H' F' f' m'=>hr.ok .non H' F' [] ⟨m'.fok,m'.same,.non,List.nodup_nil,fun a ha=>absurd ha (by simp),m'.inn,m'.out⟩
   | rt d=>exact fun v H' F' fv o=>hr.ok v H' F' fv o
   | bk τ'=>exact hr.no.elim
   | ct τ'=>exact hr.no.elim
theorem fnc_all (t:TopOk K mg Z T):∀ (n:Nat),n < 900→∀ (A:Around),Rm n A→∀ f ∈ Z.fns,(A.handled=none∨f ∈ Z.pl)→∀ x,Z.name f=some x→FnC P w K mg base (CX1 P w) A (callF T n) (xp1 K) f x
 | 0,h9,A,hr,f,hf,hc,x,hx=>by
  obtain⟨fn,st,fa,fd,ps,h1,h2,h3,h4,h5⟩:=(t.fns f hf x hx).ex
  have no:∀ vs H Q E,¬ spF K (callF T 0) (xp1 K) f ps vs H Q E:=fun vs H Q E ⟨_,_,F,ds,_,_,h⟩=>h
  exact⟨1000 + 0,fa,fd,ps,h3,h2.kp,h4,⟨fun vs H Q E h=>h.1,fun A outer s H args us vs Q E _ _ _ _ h=>(no _ _ _ _ h).elim⟩,hr.roomp h9,fun ex ds k h=>h.elim⟩
 | n + 1,h9,A,hr,f,hf,hc,x,hx=>by
  obtain⟨fn,st,fa,fd,ps,h1,h2,h3,h4,h5⟩:=(t.fns f hf x hx).ex
  have ih:=fnc_all t n (by omega)
  have hlen:∀ (ex:Str→Prop) ds (k:D→Prop),PO' ex (callF T (n + 1) f ds) k→ds.length=ps.length:=fun ex ds k h=>by
   have hcall:callF T (n + 1) f ds=runF (callF T n) fn ds:=by
    show (match T f with | some fn=>runF (callF T n) fn ds | none=>stk)=_
    rw[h1]
   rw[hcall] at h
   obtain⟨gd,_⟩:=PO'.grd h
   rw[of_decide_eq_true gd,h5.np]
  by_cases hpl:f ∈ Z.pl
  ·exact⟨1000 + n + 1,fa,fd,ps,h3,h2.kp,h4,fn_body t (k:=1000 + n) (n:=n) (by omega) (by omega) h1 h2 h5 (.inr (t.plc f hpl fn h1)) ih,hr.roomp h9,hlen⟩
  ·exact⟨n + 1,fa,fd,ps,h3,h2.kp,h4,fn_body t (k:=n) (n:=n) (by omega) (by omega) h1 h2 h5 (.inl (by omega)) ih,hr.room h9 (hc.elim id fun z=>absurd z hpl),hlen⟩
end
end L2
namespace L2
open PySem PySem.Spec PyProof.Rows PySem.SeqAt
section
variable {P:Program} {w:World} {K:PySem.W.Frag} {mg:Str→Option Value} {base:Heap} {Z:Sg} {T:Tb}
theorem CVk.fn {mg:Str→Option Value} {x:Str} {v v':V} (h:CVk mg x v) (h':CVk mg x v'):v=v':=by
 rcases h with ⟨C,rfl,h1⟩ | ⟨T,rfl,h1,h2⟩<;>rcases h' with ⟨C',rfl,k1⟩ | ⟨T',rfl,k1,k2⟩
 ·rw[h1] at k1;cases k1;rfl
 ·rw[h1] at k1;cases k1
 ·rw[h1] at k1;cases k1
 ·rw[h2] at k2;cases k2;rfl
noncomputable def spL (K:PySem.W.Frag) (cl:Nat→List D→Res D) (f:Nat) (ps:List Str):Sp:=fun vs H Q E=>vs.length=ps.length∧∃ F ds,FOk F H∧HReps K F H vs ds∧
 PO' nox (cl f (ers ds)) fun d=>∀ v H' F' fv,Out K F H F' H' v d fv→Q v H'
theorem fn_unhid {cl:Nat→List D→Res D} {k f:Nat} {fa:Addr} {fd:FuncData} {ps:List Str} (F:FnOk P w K mg base (CX1 P w) k fa fd ps (spF K cl (xp1 K) f ps)):FnOk P w K mg base (CX1 P w) k fa fd ps (spL K cl f ps):=by
 refine⟨fun vs H Q E h=>h.1,fun A outer s H args us vs Q E hr e0 bd r hsp=>?_⟩
 obtain⟨hl,Fc,ds,fok,m,q⟩:=hsp
 have e1:Env0 P w K mg base A outer s (hidC s.heap H):=⟨e0.frames,e0.mod,fun b o e=>⟨(e0.bs b o e).1,hid_none (e0.bs b o e).2⟩,e0.bsz,e0.funs,fun b hb=>hid_none (e0.frf b hb),hid_ok e0.hok,e0.bare⟩
 have hq:PO' (xp1 K E (hidC s.heap H)) (cl f (ers ds)) fun d=>∀ v H' F' fv,Out K Fc H F' H' v d fv→Q v H':=by
  cases z:cl f (ers ds) with
  | ok d=>rw[z] at q;exact q
  | error er=>
   rw[z] at q
   cases er with
   | stuck=>exact q.no.elim
   | exc c=>exact False.elim q
 have hs:spF K cl (xp1 K) f ps vs (hidC s.heap H) (fun v H'=>Pers s.heap (hidC s.heap H) H'→Q v (resC H H')) E:=
  ⟨hl,hid_lt _ _,_,ds,fun a h=>h.2,hid_rep e0.hok m,hq.mono fun d hd v H' F' fv o p=>hd v _ _ fv (out_hid e0.hok fok p o)⟩
 refine codeAny_mono (F.run A outer s (hidC s.heap H) args us vs _ E hr e1 bd r hs) fun r' s' hq=>?_
 cases r' with
 | error e=>exact cx1_hid e0.hok e0.frf hq
 | ok fl=>
  cases fl with
  | ret u=>
   obtain⟨v,H',a1,a2,a3,a4,a5,a6⟩:=hq
   exact⟨v,resC H H',a1,a2,res_un e0.hok a3,res_ok e0.hok a4 (un_pers a3) (fs:=frs outer) (fun b o e n f=>a3.keep b o e n f (by simp)) e0.frf,a5,a6 (un_pers a3)⟩
  | next=>exact hq
  | brk=>exact hq
  | cont=>exact hq
theorem def_fn (t:TopOk K mg Z T) (n:Nat) (hn:n < 900) {f:Nat} {fn:Fn} {x:Str} {st:Stmt} {fa:Addr} {fd:FuncData} {ps:List Str} (h1:T f=some fn) (h2:Fun K x x st fa fd) (h5:DefSc Z fn ps st):FnOk P w K mg base (CX1 P w) (n + 1) fa fd ps (spL K (callF T (n + 1)) f ps):=
 fn_unhid (fn_body t (k:=n) (n:=n) (by omega) hn h1 h2 h5 (.inl (by omega)) (fnc_all t n hn))
theorem law_sp {f n:Nat} {x:Str} {a:Addr} {H:Hp} {ns:List Int} (hS:Ls K H a (ns.map V.int)) (hl:callF T n f [.lst false (ns.map .int)]=.ok (.bl true)) :
  spL K (callF T n) f [x] [.ref a] H (fun v _=>v=.bl true) fun _ _ _=>False:=by
 have m:HReps K (fun a=>H a≠none) H [.ref a] [.lst false (ns.map .int)]:=by
  refine .cons ?_ .nil
  rcases hS with hS | hS
  ·exact .lst hS.some hS (HReps.ofInts ns)
  ·exact .lstK hS (HReps.ofInts ns)
 refine⟨rfl,fun a=>H a≠none,[.lst false (ns.map .int)],fun a h=>h,m,?_⟩
 have he:ers [.lst false (ns.map .int)]=[D.lst false (ns.map .int)]:=by
  rw[ers,ers,er,ers_map,List.map_map]
  rfl
 rw[he,hl]
 intro v H' F' fv o
 cases o.rep
 rfl
theorem law_walk {l:PySem.W.OpenLaw} {q:Program} {loose:List Str} {XP:(Str→Option Value)→Heap→Prop} {YP:World→Heap→Prop} {d:DefRec} {K:Params→PySem.W.Frag} {T:Tb} {n f:Nat} {x:Str} (hn:l.most=some 63) (hdf:d.params.defaults=[]) (hr:Room (n + 1) callerA)
  (hY:∀ (w:World) (h:Heap),YP w h→(K w.params).In h)
  (F:∀ (w:World) (mg:Str→Option Value) (fa:Addr) (h:Heap),(K w.params).In h→h.Ns mainGlobals mg→mg d.name=some (.ref fa)→
   ∃ fd:FuncData,(∀ (s:Shared) (u:Value),BindsTo s fd ⟨[u],[]⟩ [(x,u)])∧∀ base:Heap,(K w.params).In base→base.Ns mainGlobals mg→FnOk l.prog w (K w.params) mg base (CX1 l.prog w) (n + 1) fa fd [x] (spL (K w.params) (callF T (n + 1)) f [x]))
  (hl:∀ ns:List Int,ns.length≤63→callF T (n + 1) f [.lst false (ns.map .int)]=.ok (.bl true)) :
  PySem.W.WalkO q loose XP YP l.row.toRowW d [] (fun f vs=>PySem.call f vs):=
 L2.walk_of (n:=63) (k:=n + 1) (x:=x) (CX:=fun w=>CX1 l.prog w) (sp:=fun w=>spL (K w.params) (callF T (n + 1)) f [x]) hn (by decide) hdf hr hY F (fun w H a ns h1 _ hS=>law_sp hS (hl ns h1)) fun _ _ _ _ _ z=>cx1_no z
end
end L2
namespace L2
open PySem PySem.Spec PyProof.Rows PySem.SeqAt
namespace Ev
section
variable {α β:Type} {cl:Nat→List D→Res D} {τ:Ev} {mv:Bool}
theorem bnd_k {a:α} {f:α→Res β}:bnd (.ok a) f=f a:=rfl
theorem grd_t {x:Res α}:grd true x=x:=rfl
theorem if_t {a b:α}:(if true=true then a else b)=a:=rfl
theorem if_f {a b:α}:(if false=true then a else b)=b:=rfl
theorem r_c {d:D}:evR cl (.c d) τ=.ok d:=rfl
theorem r_g {n:Nat} {d:D}:evR cl (.g n d) τ=.ok d:=rfl
theorem r_v {i:Nat}:evR cl (.v i) τ=(match slotD τ i with | some d=>.ok d | none=>stk):=rfl
noncomputable def binK (cl:Nat→List D→Res D) (op:BOp) (b:IR) (τ:Ev) (x:D):Res D:=bnd (evR cl b τ) (opB op x)
theorem binK_k {op:BOp} {b:IR} {x:D}:binK cl op b τ x=bnd (evR cl b τ) (opB op x):=rfl
theorem r_bin {op:BOp} {a b:IR}:evR cl (.bin op a b) τ=bnd (evR cl a τ) (binK cl op b τ):=rfl
noncomputable def negD:D→Res D
 | .int i=>.ok (.int (-i))
 | _=>stk
theorem r_neg {a:IR}:evR cl (.neg a) τ=bnd (evR cl a τ) negD:=rfl
theorem negD_i {i:Int}:negD (.int i)=.ok (.int (-i)):=rfl
noncomputable def blK (r:Bool):Res D:=.ok (.bl r)
theorem blK_k {r:Bool}:blK r=.ok (.bl r):=rfl
noncomputable def cmpK2 (op:COp) (x y:D):Res D:=bnd (opC op x y) blK
theorem cmpK2_k {op:COp} {x y:D}:cmpK2 op x y=bnd (opC op x y) blK:=rfl
noncomputable def cmpK (cl:Nat→List D→Res D) (op:COp) (b:IR) (τ:Ev) (x:D):Res D:=bnd (evR cl b τ) (cmpK2 op x)
theorem cmpK_k {op:COp} {b:IR} {x:D}:cmpK cl op b τ x=bnd (evR cl b τ) (cmpK2 op x):=rfl
theorem r_cmp {op:COp} {a b:IR}:evR cl (.cmp op a b) τ=bnd (evR cl a τ) (cmpK cl op b τ):=rfl
noncomputable def chK3 (cl:Nat→List D→Res D) (op':COp) (c:IR) (τ:Ev) (y:D) (r:Bool):Res D:=if r=true then bnd (evR cl c τ) (cmpK2 op' y) else .ok (.bl false)
theorem chK3_k {op':COp} {c:IR} {y:D} {r:Bool}:chK3 cl op' c τ y r=if r=true then bnd (evR cl c τ) (cmpK2 op' y) else .ok (.bl false):=rfl
noncomputable def chK2 (cl:Nat→List D→Res D) (op op':COp) (c:IR) (τ:Ev) (x y:D):Res D:=bnd (opC op x y) (chK3 cl op' c τ y)
theorem chK2_k {op op':COp} {c:IR} {x y:D}:chK2 cl op op' c τ x y=bnd (opC op x y) (chK3 cl op' c τ y):=rfl
noncomputable def chK (cl:Nat→List D→Res D) (op op':COp) (b c:IR) (τ:Ev) (x:D):Res D:=bnd (evR cl b τ) (chK2 cl op op' c τ x)
theorem chK_k {op op':COp} {b c:IR} {x:D}:chK cl op op' b c τ x=bnd (evR cl b τ) (chK2 cl op op' c τ x):=rfl
theorem r_chain {op op':COp} {a b c:IR}:evR cl (.chain op op' a b c) τ=bnd (evR cl a τ) (chK cl op op' b c τ):=rfl
noncomputable def andK2 (cl:Nat→List D→Res D) (b:IR) (τ:Ev) (x:D) (r:Bool):Res D:=if r=true then evR cl b τ else .ok x
theorem andK2_k {b:IR} {x:D} {r:Bool}:andK2 cl b τ x r=if r=true then evR cl b τ else .ok x:=rfl
noncomputable def andK (cl:Nat→List D→Res D) (b:IR) (τ:Ev) (x:D):Res D:=bnd (truD x) (andK2 cl b τ x)
theorem andK_k {b:IR} {x:D}:andK cl b τ x=bnd (truD x) (andK2 cl b τ x):=rfl
theorem r_and {a b:IR}:evR cl (.and_ a b) τ=bnd (evR cl a τ) (andK cl b τ):=rfl
noncomputable def orK2 (cl:Nat→List D→Res D) (b:IR) (τ:Ev) (x:D) (r:Bool):Res D:=if r=true then .ok x else evR cl b τ
theorem orK2_k {b:IR} {x:D} {r:Bool}:orK2 cl b τ x r=if r=true then .ok x else evR cl b τ:=rfl
noncomputable def orK (cl:Nat→List D→Res D) (b:IR) (τ:Ev) (x:D):Res D:=bnd (truD x) (orK2 cl b τ x)
theorem orK_k {b:IR} {x:D}:orK cl b τ x=bnd (truD x) (orK2 cl b τ x):=rfl
theorem r_or {a b:IR}:evR cl (.or_ a b) τ=bnd (evR cl a τ) (orK cl b τ):=rfl
noncomputable def notK2 (r:Bool):Res D:=.ok (.bl !r)
theorem notK2_k {r:Bool}:notK2 r=.ok (.bl !r):=rfl
noncomputable def notK (x:D):Res D:=bnd (truD x) notK2
theorem notK_k {x:D}:notK x=bnd (truD x) notK2:=rfl
theorem r_not {a:IR}:evR cl (.not_ a) τ=bnd (evR cl a τ) notK:=rfl
noncomputable def iteK2 (cl:Nat→List D→Res D) (a b:IR) (τ:Ev) (r:Bool):Res D:=if r=true then evR cl a τ else evR cl b τ
theorem iteK2_k {a b:IR} {r:Bool}:iteK2 cl a b τ r=if r=true then evR cl a τ else evR cl b τ:=rfl
noncomputable def iteK (cl:Nat→List D→Res D) (a b:IR) (τ:Ev) (x:D):Res D:=bnd (truD x) (iteK2 cl a b τ)
theorem iteK_k {a b:IR} {x:D}:iteK cl a b τ x=bnd (truD x) (iteK2 cl a b τ):=rfl
theorem r_ite {t a b:IR}:evR cl (.ite t a b) τ=bnd (evR cl t τ) (iteK cl a b τ):=rfl
noncomputable def tupK (ds:List D):Res D:=grd (szOk ds.length) (.ok (.tup ds))
theorem tupK_k {ds:List D}:tupK ds=grd (szOk ds.length) (.ok (.tup ds)):=rfl
theorem r_tup {es:List IR}:evR cl (.tup es) τ=bnd (evRs cl es τ) tupK:=rfl
noncomputable def lstK (ds:List D):Res D:=grd (szOk ds.length) (.ok (.lst true ds))
theorem lstK_k {ds:List D}:lstK ds=grd (szOk ds.length) (.ok (.lst true ds)):=rfl
theorem r_lst {es:List IR}:evR cl (.lst es) τ=bnd (evRs cl es τ) lstK:=rfl
noncomputable def idxK (cl:Nat→List D→Res D) (i:IR) (τ:Ev) (x:D):Res D:=bnd (evR cl i τ) (opIx x)
theorem idxK_k {i:IR} {x:D}:idxK cl i τ x=bnd (evR cl i τ) (opIx x):=rfl
theorem r_idx {a i:IR}:evR cl (.idx a i) τ=bnd (evR cl a τ) (idxK cl i τ):=rfl
noncomputable def slK2 (cl:Nat→List D→Res D) (hi:Option IR) (τ:Ev) (x:D) (l:Option Int):Res D:=bnd (evRO cl hi τ) (opSl x l)
theorem slK2_k {hi:Option IR} {x:D} {l:Option Int}:slK2 cl hi τ x l=bnd (evRO cl hi τ) (opSl x l):=rfl
noncomputable def slK (cl:Nat→List D→Res D) (lo hi:Option IR) (τ:Ev) (x:D):Res D:=bnd (evRO cl lo τ) (slK2 cl hi τ x)
theorem slK_k {lo hi:Option IR} {x:D}:slK cl lo hi τ x=bnd (evRO cl lo τ) (slK2 cl hi τ x):=rfl
theorem r_sl {a:IR} {lo hi:Option IR}:evR cl (.sl a lo hi) τ=bnd (evR cl a τ) (slK cl lo hi τ):=rfl
noncomputable def callK (cl:Nat→List D→Res D) (f:Nat) (ds:List D):Res D:=cl f (ers ds)
theorem callK_k {f:Nat} {ds:List D}:callK cl f ds=cl f (ers ds):=rfl
theorem r_call {f:Nat} {es:List IR}:evR cl (.call f es) τ=bnd (evRs cl es τ) (callK cl f):=rfl
theorem r_bi {f:Bi} {es:List IR}:evR cl (.bi f es) τ=bnd (evRs cl es τ) (opBi f):=rfl
noncomputable def isiK (k:Kd) (x:D):Res D:=grd (notX x) (.ok (.bl (isiD k x)))
theorem isiK_k {k:Kd} {x:D}:isiK k x=grd (notX x) (.ok (.bl (isiD k x))):=rfl
theorem nx_n:notX .non=true:=rfl
theorem nx_b {b:Bool}:notX (.bl b)=true:=rfl
theorem nx_i {i:Int}:notX (.int i)=true:=rfl
theorem nx_s {x:Str}:notX (.str x)=true:=rfl
theorem nx_t {ds:List D}:notX (.tup ds)=true:=rfl
theorem nx_l {o:Bool} {ds:List D}:notX (.lst o ds)=true:=rfl
theorem r_lrev {a:IR}:evR cl (.lrev a) τ=bnd (evR cl a τ) revD:=rfl
theorem rv_l {o:Bool} {ds:List D}:revD (.lst o ds)=.ok (.lst true ds.reverse):=rfl
theorem r_isi {a:IR} {k:Kd}:evR cl (.isi a k) τ=bnd (evR cl a τ) (isiK k):=rfl
noncomputable def mthK (cl:Nat→List D→Res D) (m:Mt) (es:List IR) (τ:Ev) (x:D):Res D:=grd (isStrD x) (bnd (evRs cl es τ) (opMt m x))
theorem mthK_k {m:Mt} {es:List IR} {x:D}:mthK cl m es τ x=grd (isStrD x) (bnd (evRs cl es τ) (opMt m x)):=rfl
theorem r_mth {m:Mt} {o:IR} {es:List IR}:evR cl (.mth m o es) τ=bnd (evR cl o τ) (mthK cl m es τ):=rfl
noncomputable def lstT (ds:List D):Res D:=.ok (.lst true ds)
theorem lstT_k {ds:List D}:lstT ds=.ok (.lst true ds):=rfl
noncomputable def compK (cl:Nat→List D→Res D) (G:Gm) (fr:List Nat) (T:Tg) (I:List IR) (E:IR) (τ:Ev) (its:List D):Res D:=grd (szLt its.length) (bnd (noX (fmapM (bodyM cl T I E (blk G fr τ)) its)) lstT)
theorem compK_k {G:Gm} {fr:List Nat} {T:Tg} {I:List IR} {E:IR} {its:List D}:compK cl G fr T I E τ its=grd (szLt its.length) (bnd (noX (fmapM (bodyM cl T I E (blk G fr τ)) its)) lstT):=rfl
theorem r_comp {G:Gm} {fr:List Nat} {T:Tg} {s:Sr} {I:List IR} {E:IR}:evR cl (.comp G fr T s I E) τ=bnd (evSr cl s τ) (compK cl G fr T I E τ):=rfl
theorem rs_n:evRs cl [] τ=.ok []:=rfl
noncomputable def consK (d:D) (ds:List D):Res (List D):=.ok (d::ds)
theorem consK_k {d:D} {ds:List D}:consK d ds=.ok (d::ds):=rfl
noncomputable def rsK (cl:Nat→List D→Res D) (es:List IR) (τ:Ev) (d:D):Res (List D):=bnd (evRs cl es τ) (consK d)
theorem rsK_k {es:List IR} {d:D}:rsK cl es τ d=bnd (evRs cl es τ) (consK d):=rfl
theorem rs_c {e:IR} {es:List IR}:evRs cl (e::es) τ=bnd (evR cl e τ) (rsK cl es τ):=rfl
noncomputable def intO:D→Res (Option Int)
 | .int i=>.ok (some i)
 | _=>stk
theorem intO_i {i:Int}:intO (.int i)=.ok (some i):=rfl
theorem ro_n:evRO cl none τ=.ok none:=rfl
theorem ro_s {e:IR}:evRO cl (some e) τ=bnd (evR cl e τ) intO:=rfl
theorem ts_n:evTs cl [] τ=.ok true:=rfl
noncomputable def tsK (cl:Nat→List D→Res D) (es:List IR) (τ:Ev) (r:Bool):Res Bool:=if r=true then evTs cl es τ else .ok false
theorem tsK_k {es:List IR} {r:Bool}:tsK cl es τ r=if r=true then evTs cl es τ else .ok false:=rfl
theorem ts_c {e:IR} {es:List IR}:evTs cl (e::es) τ=bnd (bnd (evR cl e τ) truD) (tsK cl es τ):=rfl
noncomputable def rng1D:D→Res (List D)
 | .int i=>grd (rngOk i) (.ok (rngD 0 i))
 | _=>stk
noncomputable def rng2D:D→D→Res (List D)
 | .int i,.int j=>grd (rngOk i && rngOk j) (.ok (rngD i j))
 | _,_=>stk
theorem rng1D_i {i:Int}:rng1D (.int i)=grd (rngOk i) (.ok (rngD 0 i)):=rfl
theorem rng2D_i {i j:Int}:rng2D (.int i) (.int j)=grd (rngOk i && rngOk j) (.ok (rngD i j)):=rfl
theorem s_r1 {n:IR}:evSr cl (.rng1 n) τ=bnd (evR cl n τ) rng1D:=rfl
noncomputable def r2K (cl:Nat→List D→Res D) (b:IR) (τ:Ev) (x:D):Res (List D):=bnd (evR cl b τ) (rng2D x)
theorem r2K_k {b:IR} {x:D}:r2K cl b τ x=bnd (evR cl b τ) (rng2D x):=rfl
theorem s_r2 {a b:IR}:evSr cl (.rng2 a b) τ=bnd (evR cl a τ) (r2K cl b τ):=rfl
noncomputable def zipK (cl:Nat→List D→Res D) (τ:Ev) (b:IR) (x:D):Res (List D):=bnd (evR cl b τ) fun y=>zipR x y
noncomputable def zipK2 (x y:D):Res (List D):=zipR x y
theorem zipK_k {b:IR} {x:D}:zipK cl τ b x=bnd (evR cl b τ) (zipK2 x):=rfl
theorem zipK2_ll {o o':Bool} {ds es:List D}:zipK2 (.lst o ds) (.lst o' es)=.ok (zipD ds es):=rfl
theorem zipK2_tt {ds es:List D}:zipK2 (.tup ds) (.tup es)=.ok (zipD ds es):=rfl
theorem s_zip {a b:IR}:evSr cl (.zip a b) τ=bnd (evR cl a τ) (zipK cl τ b):=rfl
theorem s_val {e:IR}:evSr cl (.val e) τ=bnd (evR cl e τ) itemsD:=rfl
theorem it_l {o:Bool} {ds:List D}:itemsD (.lst o ds)=.ok ds:=rfl
theorem it_t {ds:List D}:itemsD (.tup ds)=.ok ds:=rfl
theorem it_s {x:Str}:itemsD (.str x)=grd (szOk x.length) (.ok (charsD x)):=rfl
theorem t_t {t:IR}:evT cl t τ=bnd (evR cl t τ) truD:=rfl
theorem o_v {i:Nat}:evO cl mv (.v i) τ=(match slotD τ i with | some d=>if mv=true then .ok (d,τ.set i none) else .ok (er d,τ.set i (some (er d))) | none=>stk):=rfl
noncomputable def otupK (p:List D×Ev):Res (D×Ev):=grd (szOk p.1.length) (.ok (.tup p.1,p.2))
theorem otupK_k {p:List D×Ev}:otupK p=grd (szOk p.1.length) (.ok (.tup p.1,p.2)):=rfl
theorem o_tup {es:List IR}:evO cl mv (.tup es) τ=bnd (evOs cl mv es τ) otupK:=rfl
noncomputable def olstK (p:List D×Ev):Res (D×Ev):=grd (szOk p.1.length) (.ok (.lst true p.1,p.2))
theorem olstK_k {p:List D×Ev}:olstK p=grd (szOk p.1.length) (.ok (.lst true p.1,p.2)):=rfl
theorem o_lst {es:List IR}:evO cl mv (.lst es) τ=bnd (evOs cl mv es τ) olstK:=rfl
noncomputable def oiteK (cl:Nat→List D→Res D) (mv:Bool) (a b:IR) (τ:Ev) (r:Bool):Res (D×Ev):=if r=true then evO cl mv a τ else evO cl mv b τ
theorem oiteK_k {a b:IR} {r:Bool}:oiteK cl mv a b τ r=if r=true then evO cl mv a τ else evO cl mv b τ:=rfl
theorem o_ite {t a b:IR}:evO cl mv (.ite t a b) τ=bnd (evT cl t τ) (oiteK cl mv a b τ):=rfl
noncomputable def ocallK2 (es:List IR) (τ:Ev) (d:D):Res (D×Ev):=if lfree d=true then .ok (d,τ) else .ok (d,frz (varss es) τ)
theorem ocallK2_k {es:List IR} {d:D}:ocallK2 es τ d=if lfree d=true then .ok (d,τ) else .ok (d,frz (varss es) τ):=rfl
noncomputable def ocallK (cl:Nat→List D→Res D) (f:Nat) (es:List IR) (τ:Ev) (ds:List D):Res (D×Ev):=bnd (cl f (ers ds)) (ocallK2 es τ)
theorem ocallK_k {f:Nat} {es:List IR} {ds:List D}:ocallK cl f es τ ds=bnd (cl f (ers ds)) (ocallK2 es τ):=rfl
theorem o_call {f:Nat} {es:List IR}:evO cl mv (.call f es) τ=bnd (evRs cl es τ) (ocallK cl f es τ):=rfl
noncomputable def keepK (e:IR) (τ:Ev) (d:D):Res (D×Ev):=.ok (keepD e d τ)
theorem keepK_k {e:IR} {d:D}:keepK e τ d=.ok (keepD e d τ):=rfl
theorem o_c {d:D}:evO cl mv (.c d) τ=bnd (evR cl (.c d) τ) (keepK (.c d) τ):=rfl
theorem o_g {n:Nat} {d:D}:evO cl mv (.g n d) τ=bnd (evR cl (.g n d) τ) (keepK (.g n d) τ):=rfl
theorem o_bin {op:BOp} {a b:IR}:evO cl mv (.bin op a b) τ=bnd (evR cl (.bin op a b) τ) (keepK (.bin op a b) τ):=rfl
theorem o_neg {a:IR}:evO cl mv (.neg a) τ=bnd (evR cl (.neg a) τ) (keepK (.neg a) τ):=rfl
theorem o_cmp {op:COp} {a b:IR}:evO cl mv (.cmp op a b) τ=bnd (evR cl (.cmp op a b) τ) (keepK (.cmp op a b) τ):=rfl
theorem o_chain {op op':COp} {a b c:IR}:evO cl mv (.chain op op' a b c) τ=bnd (evR cl (.chain op op' a b c) τ) (keepK (.chain op op' a b c) τ):=rfl
theorem o_and {a b:IR}:evO cl mv (.and_ a b) τ=bnd (evR cl (.and_ a b) τ) (keepK (.and_ a b) τ):=rfl
theorem o_or {a b:IR}:evO cl mv (.or_ a b) τ=bnd (evR cl (.or_ a b) τ) (keepK (.or_ a b) τ):=rfl
theorem o_not {a:IR}:evO cl mv (.not_ a) τ=bnd (evR cl (.not_ a) τ) (keepK (.not_ a) τ):=rfl
theorem o_idx {a i:IR}:evO cl mv (.idx a i) τ=bnd (evR cl (.idx a i) τ) (keepK (.idx a i) τ):=rfl
theorem o_sl {a:IR} {lo hi:Option IR}:evO cl mv (.sl a lo hi) τ=bnd (evR cl (.sl a lo hi) τ) (keepK (.sl a lo hi) τ):=rfl
theorem o_bi {f:Bi} {es:List IR}:evO cl mv (.bi f es) τ=bnd (evR cl (.bi f es) τ) (keepK (.bi f es) τ):=rfl
theorem o_lrev {a:IR}:evO cl mv (.lrev a) τ=bnd (evR cl (.lrev a) τ) (keepK (.lrev a) τ):=rfl
theorem o_isi {a:IR} {k:Kd}:evO cl mv (.isi a k) τ=bnd (evR cl (.isi a k) τ) (keepK (.isi a k) τ):=rfl
theorem o_mth {m:Mt} {o:IR} {es:List IR}:evO cl mv (.mth m o es) τ=bnd (evR cl (.mth m o es) τ) (keepK (.mth m o es) τ):=rfl
theorem o_comp {G:Gm} {fr:List Nat} {T:Tg} {s:Sr} {I:List IR} {E:IR}:evO cl mv (.comp G fr T s I E) τ=bnd (evR cl (.comp G fr T s I E) τ) (keepK (.comp G fr T s I E) τ):=rfl
theorem os_n:evOs cl mv [] τ=.ok ([],τ):=rfl
noncomputable def osK2 (d:D) (q:List D×Ev):Res (List D×Ev):=.ok (d::q.1,q.2)
theorem osK2_k {d:D} {q:List D×Ev}:osK2 d q=.ok (d::q.1,q.2):=rfl
noncomputable def osK (cl:Nat→List D→Res D) (mv:Bool) (es:List IR) (p:D×Ev):Res (List D×Ev):=bnd (evOs cl mv es p.2) (osK2 p.1)
theorem osK_k {es:List IR} {p:D×Ev}:osK cl mv es p=bnd (evOs cl mv es p.2) (osK2 p.1):=rfl
theorem os_c {e:IR} {es:List IR}:evOs cl mv (e::es) τ=bnd (evO cl mv e τ) (osK cl mv es):=rfl
noncomputable def smK (d:D):Res (Option D):=.ok (some d)
theorem smK_k {d:D}:smK d=.ok (some d):=rfl
noncomputable def bdK2 (cl:Nat→List D→Res D) (E:IR) (τ:Ev) (r:Bool):Res (Option D):=if r=true then bnd (evR cl E τ) smK else .ok none
theorem bdK2_k {E:IR} {r:Bool}:bdK2 cl E τ r=if r=true then bnd (evR cl E τ) smK else .ok none:=rfl
noncomputable def bdK (cl:Nat→List D→Res D) (I:List IR) (E:IR) (τ:Ev):Res (Option D):=bnd (evTs cl I τ) (bdK2 cl E τ)
theorem bdK_k {I:List IR} {E:IR}:bdK cl I E τ=bnd (evTs cl I τ) (bdK2 cl E τ):=rfl
theorem body_eq {T:Tg} {I:List IR} {E:IR} {x:D}:bodyM cl T I E τ x=bnd (setT T x τ) (bdK cl I E):=rfl
theorem blk_eq {G:Gm} {fr:List Nat}:blk G fr τ=fr.map (slotD τ)++List.replicate (G.N.length - fr.length) none:=rfl
theorem k_i {e:IR} {i:Int}:keepD e (.int i) τ=(.int i,τ):=rfl
theorem k_s {e:IR} {x:Str}:keepD e (.str x) τ=(.str x,τ):=rfl
theorem k_b {e:IR} {b:Bool}:keepD e (.bl b) τ=(.bl b,τ):=rfl
theorem k_n {e:IR}:keepD e .non τ=(.non,τ):=rfl
noncomputable def nxK (τ':Ev):Res Fl:=.ok (.nx τ')
theorem nxK_k:nxK τ=.ok (.nx τ):=rfl
noncomputable def asgK (tg:Tg) (p:D×Ev):Res Fl:=bnd (setT tg p.1 p.2) nxK
theorem asgK_k {tg:Tg} {p:D×Ev}:asgK tg p=bnd (setT tg p.1 p.2) nxK:=rfl
theorem st_asg {tg:Tg} {e:IR}:evS cl (.asg tg e) τ=bnd (evO cl false e τ) (asgK tg):=rfl
noncomputable def setxD (i:Nat) (p:D×Ev) (ds:List D):D→Res Fl
 | .int z=>(match ixN ds.length z with
  | some j=>.ok (.nx (p.2.set i (some (.lst true (ds.set j p.1)))))
  | none=>stk)
 | _=>stk
noncomputable def setL (cl:Nat→List D→Res D) (i:Nat) (k:IR) (p:D×Ev):Option D→Res Fl
 | some (.lst true ds)=>bnd (evR cl k p.2) (setxD i p ds)
 | _=>stk
theorem setL_t {i:Nat} {k:IR} {p:D×Ev} {ds:List D}:setL cl i k p (some (.lst true ds))=bnd (evR cl k p.2) (setxD i p ds):=rfl
theorem setxD_i {i:Nat} {p:D×Ev} {ds:List D} {z:Int}:setxD i p ds (.int z)=(match ixN ds.length z with | some j=>.ok (.nx (p.2.set i (some (.lst true (ds.set j p.1))))) | none=>stk):=rfl
noncomputable def setixK (cl:Nat→List D→Res D) (i:Nat) (k:IR) (p:D×Ev):Res Fl:=setL cl i k p (slotD p.2 i)
theorem setixK_k {i:Nat} {k:IR} {p:D×Ev}:setixK cl i k p=setL cl i k p (slotD p.2 i):=rfl
theorem st_setix {i:Nat} {k e:IR}:evS cl (.setix i k e) τ=bnd (evO cl false e τ) (setixK cl i k):=rfl
noncomputable def appD (i:Nat) (p:D×Ev):Option D→Res Fl
 | some (.lst true ds)=>grd (szLt ds.length) (.ok (.nx (p.2.set i (some (.lst true (ds++[p.1]))))))
 | _=>stk
noncomputable def appK (i:Nat) (p:D×Ev):Res Fl:=appD i p (slotD p.2 i)
theorem appK_k {i:Nat} {p:D×Ev}:appK i p=appD i p (slotD p.2 i):=rfl
noncomputable def app0 (cl:Nat→List D→Res D) (i:Nat) (e:IR) (τ:Ev):Option D→Res Fl
 | some (.lst _ _)=>bnd (evO cl false e τ) (appK i)
 | _=>stk
theorem app0_t {i:Nat} {e:IR} {o:Bool} {ds:List D}:app0 cl i e τ (some (.lst o ds))=bnd (evO cl false e τ) (appK i):=rfl
theorem appD_t {i:Nat} {p:D×Ev} {ds:List D}:appD i p (some (.lst true ds))=grd (szLt ds.length) (.ok (.nx (p.2.set i (some (.lst true (ds++[p.1])))))):=rfl
theorem st_app {i:Nat} {e:IR}:evS cl (.app i e) τ=app0 cl i e τ (slotD τ i):=rfl
noncomputable def expK (τ:Ev) (d:D):Res Fl:=.ok (.nx τ)
theorem expK_k {d:D}:expK τ d=.ok (.nx τ):=rfl
theorem st_exp {e:IR}:evS cl (.exp e) τ=bnd (evR cl e τ) (expK τ):=rfl
noncomputable def rtK (p:D×Ev):Res Fl:=.ok (.rt p.1)
theorem rtK_k {p:D×Ev}:rtK p=.ok (.rt p.1):=rfl
theorem st_ret {e:IR}:evS cl (.ret e) τ=bnd (evO cl true e τ) rtK:=rfl
theorem st_retN:evS cl .retN τ=.ok (.rt .non):=rfl
noncomputable def ifK (cl:Nat→List D→Res D) (a b:List IS) (τ:Ev) (r:Bool):Res Fl:=if r=true then evSs cl a τ else evSs cl b τ
theorem ifK_k {a b:List IS} {r:Bool}:ifK cl a b τ r=if r=true then evSs cl a τ else evSs cl b τ:=rfl
theorem st_rse {n:Nat} {c w:Str}:evS cl (.raise_ n c w) τ=.error (.exc c):=rfl
noncomputable def rseK (c:Str) (d:D):Res Fl:=.error (.exc c)
theorem rseK_k {c:Str} {d:D}:rseK c d=.error (.exc c):=rfl
theorem st_rsee {n:Nat} {c:Str} {e:IR}:evS cl (.raisee n c e) τ=bnd (noX (evR cl e τ)) (rseK c):=rfl
noncomputable def tryK2 (k:Nat):Fl→Res Fl
 | .nx τ'=>.ok (.nx (τ'.set k none))
 | _=>stk
theorem tryK2_k {k:Nat}:tryK2 k (.nx τ)=.ok (.nx (τ.set k none)):=rfl
noncomputable def tryK1 (cl:Nat→List D→Res D) (i:Nat) (es:List IR) (cs:List Str) (k:Nat) (h:List IS) (τ:Ev):Res D→Res Fl
 | .ok d=>if lfree d=true then .ok (.nx (τ.set i (some d))) else .ok (.nx ((frz (varss es) τ).set i (some d)))
 | .error (.exc c)=>grd (cs.contains c) (bnd (noX (evSs cl h (τ.set k (some (.exc c))))) (tryK2 k))
 | .error .stuck=>stk
noncomputable def tryK0 (cl:Nat→List D→Res D) (i f:Nat) (es:List IR) (cs:List Str) (k:Nat) (h:List IS) (τ:Ev) (ds:List D):Res Fl:=tryK1 cl i es cs k h τ (cl f (ers ds))
theorem tryK0_k {i f:Nat} {es:List IR} {cs:List Str} {k:Nat} {h:List IS} {ds:List D}:tryK0 cl i f es cs k h τ ds=tryK1 cl i es cs k h τ (cl f (ers ds)):=rfl
theorem tryK1_ok {i:Nat} {es:List IR} {cs:List Str} {k:Nat} {h:List IS} {d:D}:tryK1 cl i es cs k h τ (.ok d)=if lfree d=true then .ok (.nx (τ.set i (some d))) else .ok (.nx ((frz (varss es) τ).set i (some d))):=rfl
theorem tryK1_x {i:Nat} {es:List IR} {cs:List Str} {k:Nat} {h:List IS} {c:Str}:tryK1 cl i es cs k h τ (.error (.exc c))=grd (cs.contains c) (bnd (noX (evSs cl h (τ.set k (some (.exc c))))) (tryK2 k)):=rfl
theorem st_tryc {i f:Nat} {es:List IR} {n:Nat} {cs:List Str} {k:Nat} {h:List IS}:evS cl (.tryc i f es n cs k h) τ=bnd (noX (evRs cl es τ)) (tryK0 cl i f es cs k h τ):=by
 show bnd (noX (evRs cl es τ)) _=bnd (noX (evRs cl es τ)) _
 congr 1
theorem r_ftr {x:Str} {a:IR} {y:Option Str}:evR cl (.ftr x a y) τ=bnd (evR cl a τ) (ftrD x y):=rfl
theorem ftr_s {x:Str} {y:Option Str} {z:Str}:ftrD x y (.str z)=grd (szOk (x.length + (reprText z).length + (y.getD Str.empty).length)) (.ok (.str (x++reprText z++y.getD Str.empty))):=rfl
theorem c_isnb {a b:Bool}:opC .isn (.bl a) (.bl b)=.ok (a != b):=rfl
theorem c_isnn {b:Bool}:opC .isn .non (.bl b)=.ok true:=rfl
theorem bnd_x {α β:Type} {c:Str} {f:α→Res β}:bnd (.error (.exc c)) f=.error (.exc c):=rfl
theorem er_x {c:Str}:er (.exc c)=.exc c:=rfl
theorem st_if {t:IR} {a b:List IS}:evS cl (.if_ t a b) τ=bnd (evT cl t τ) (ifK cl a b τ):=rfl
noncomputable def turn (cl:Nat→List D→Res D) (tg:Tg) (body:List IS) (x:D) (τ:Ev):Res Fl:=bnd (setT tg x τ) (evSs cl body)
theorem turn_eq {tg:Tg} {body:List IS} {x:D}:turn cl tg body x τ=bnd (setT tg x τ) (evSs cl body):=rfl
noncomputable def forK (cl:Nat→List D→Res D) (tg:Tg) (body:List IS) (p:List D×Ev):Res Fl:=forM (turn cl tg body) p.1 p.2
theorem forK_k {tg:Tg} {body:List IS} {p:List D×Ev}:forK cl tg body p=forM (turn cl tg body) p.1 p.2:=rfl
theorem st_for {tg:Tg} {s:Sr} {body:List IS}:evS cl (.for_ tg s body) τ=bnd (srcO cl s τ) (forK cl tg body):=rfl
theorem st_while {t:IR} {body:List IS}:evS cl (.while_ t body) τ=whileM (evT cl t) (evSs cl body) wfuel τ:=rfl
noncomputable def rvK (i:Nat) (τ:Ev):Option D→Res Fl
 | some (.lst true ds)=>.ok (.nx (τ.set i (some (.lst true ds.reverse))))
 | _=>stk
theorem rvK_k {i:Nat} {ds:List D}:rvK i τ (some (.lst true ds))=.ok (.nx (τ.set i (some (.lst true ds.reverse)))):=rfl
theorem st_rvs {i:Nat}:evS cl (.rvs i) τ=rvK i τ (slotD τ i):=by
 show (match slotD τ i with | some (.lst true ds)=>(.ok (.nx (τ.set i (some (.lst true ds.reverse)))):Res Fl) | _=>stk)=_
 rcases slotD τ i with _ | d
 ·rfl
 ·cases d<;>first | rfl | (rename_i o ds;cases o<;>rfl)
noncomputable def clK (i:Nat) (τ:Ev):Option D→Res Fl
 | some (.lst true _)=>.ok (.nx (τ.set i (some (.lst true []))))
 | _=>stk
theorem clK_k {i:Nat} {ds:List D}:clK i τ (some (.lst true ds))=.ok (.nx (τ.set i (some (.lst true [])))):=rfl
theorem st_clr {i:Nat}:evS cl (.clr i) τ=clK i τ (slotD τ i):=by
 show (match slotD τ i with | some (.lst true _)=>(.ok (.nx (τ.set i (some (.lst true [])))):Res Fl) | _=>stk)=_
 rcases slotD τ i with _ | d
 ·rfl
 ·cases d<;>first | rfl | (rename_i o ds;cases o<;>rfl)
theorem st_brk:evS cl .brk τ=.ok (.bk τ):=rfl
theorem st_cnt:evS cl .cnt τ=.ok (.ct τ):=rfl
theorem st_pass:evS cl .pass τ=.ok (.nx τ):=rfl
noncomputable def seqF (f:Ev→Res Fl):Fl→Res Fl
 | .nx τ'=>f τ'
 | .ct τ'=>.ok (.ct τ')
 | .bk τ'=>.ok (.bk τ')
 | .rt d=>.ok (.rt d)
theorem ss_n:evSs cl [] τ=.ok (.nx τ):=rfl
theorem ss_c {s:IS} {r:List IS}:evSs cl (s::r) τ=bnd (evS cl s τ) (seqF (evSs cl r)):=rfl
theorem sq_nx {f:Ev→Res Fl}:seqF f (.nx τ)=f τ:=rfl
theorem sq_ct {f:Ev→Res Fl}:seqF f (.ct τ)=.ok (.ct τ):=rfl
theorem sq_bk {f:Ev→Res Fl}:seqF f (.bk τ)=.ok (.bk τ):=rfl
theorem sq_rt {f:Ev→Res Fl} {d:D}:seqF f (.rt d)=.ok (.rt d):=rfl
noncomputable def srcK (τ:Ev) (its:List D):Res (List D×Ev):=.ok (its,τ)
theorem srcK_k {its:List D}:srcK τ its=.ok (its,τ):=rfl
noncomputable def srcvK (e:IR) (τ:Ev) (its:List D):Res (List D×Ev):=.ok (ers its,frz (vars e) τ)
theorem srcvK_k {e:IR} {its:List D}:srcvK e τ its=.ok (ers its,frz (vars e) τ):=rfl
theorem src_1 {n:IR}:srcO cl (.rng1 n) τ=bnd (evSr cl (.rng1 n) τ) (srcK τ):=rfl
theorem src_2 {a b:IR}:srcO cl (.rng2 a b) τ=bnd (evSr cl (.rng2 a b) τ) (srcK τ):=rfl
theorem src_v {e:IR}:srcO cl (.val e) τ=bnd (evSr cl (.val e) τ) (srcvK e τ):=rfl
noncomputable def forF (body:D→Ev→Res Fl) (xs:List D):Fl→Res Fl
 | .nx τ'=>forM body xs τ'
 | .ct τ'=>forM body xs τ'
 | .bk τ'=>.ok (.nx τ')
 | .rt d=>.ok (.rt d)
theorem for_n {body:D→Ev→Res Fl}:forM body [] τ=.ok (.nx τ):=rfl
theorem for_c {body:D→Ev→Res Fl} {x:D} {xs:List D}:forM body (x::xs) τ=bnd (body x τ) (forF body xs):=rfl
theorem ff_nx {body:D→Ev→Res Fl} {xs:List D}:forF body xs (.nx τ)=forM body xs τ:=rfl
theorem ff_ct {body:D→Ev→Res Fl} {xs:List D}:forF body xs (.ct τ)=forM body xs τ:=rfl
theorem ff_bk {body:D→Ev→Res Fl} {xs:List D}:forF body xs (.bk τ)=.ok (.nx τ):=rfl
theorem ff_rt {body:D→Ev→Res Fl} {xs:List D} {d:D}:forF body xs (.rt d)=.ok (.rt d):=rfl
theorem t_nm {i:Nat} {d:D}:setT (.nm i) d τ=.ok (τ.set i (some d)):=rfl
theorem t_tp {ts:List Tg} {ds:List D}:setT (.tp ts) (.tup ds) τ=grd (decide (ds.length=ts.length)) (setTs ts ds τ):=rfl
theorem t_tl {ts:List Tg} {o:Bool} {ds:List D}:setT (.tp ts) (.lst o ds) τ=grd (decide (ds.length=ts.length)) (setTs ts ds τ):=rfl
theorem ts'_n:setTs [] [] τ=.ok τ:=rfl
theorem ts'_c {t:Tg} {ts:List Tg} {d:D} {ds:List D}:setTs (t::ts) (d::ds) τ=bnd (setT t d τ) (setTs ts ds):=rfl
theorem sl_0 {o:Option D}:slotD (o::τ) 0=o:=by unfold slotD;simp
theorem sl_s {o:Option D} {i:Nat}:slotD (o::τ) (i + 1)=slotD τ i:=slotD_cons
theorem set_0 {o p:Option D}:(o::τ).set 0 p=p::τ:=rfl
theorem set_s {o p:Option D} {i:Nat}:(o::τ).set (i + 1) p=o::τ.set i p:=rfl
theorem b_add {a b:Int}:opB .add (.int a) (.int b)=.ok (.int (a + b)):=rfl
theorem b_adds {a b:Str}:opB .add (.str a) (.str b)=grd (szOk (a.length + b.length)) (.ok (.str (a++b))):=rfl
theorem b_addl {o o':Bool} {a b:List D}:opB .add (.lst o a) (.lst o' b)=grd (szOk (a.length + b.length)) (.ok (.lst true (a++b))):=rfl
theorem b_sub {a b:Int}:opB .sub (.int a) (.int b)=.ok (.int (a - b)):=rfl
theorem b_mul {a b:Int}:opB .mul (.int a) (.int b)=grd (decide (-(2 ^ 64) < a∧a < 2 ^ 64) || decide (-(2 ^ 64) < b∧b < 2 ^ 64)) (.ok (.int (a * b))):=rfl
theorem b_muls {a:Str} {b:Int}:opB .mul (.str a) (.int b)=grd (decide (-16000≤b∧b≤16000∧a.length≤1000)) (.ok (.str (Txt.mul a b))):=rfl
theorem b_fdiv {a b:Int}:opB .fdiv (.int a) (.int b)=grd (decide (0 < b∧b < 1073741824)) (.ok (.int (a / b))):=rfl
theorem b_mod {a b:Int}:opB .mod (.int a) (.int b)=grd (decide (0 < b)) (.ok (.int (a % b))):=rfl
theorem b_pow {a b:Int}:opB .pow (.int a) (.int b)=grd (decide (0≤b∧b≤1000000∧a.natAbs < 2 ^ 64)) (.ok (.int (a ^ b.toNat))):=rfl
theorem x_l {o:Bool} {ds:List D} {i:Int}:opIx (.lst o ds) (.int i)=(match atI ds i with | some d=>.ok d | none=>stk):=rfl
theorem x_t {ds:List D} {i:Int}:opIx (.tup ds) (.int i)=(match atI ds i with | some d=>.ok d | none=>stk):=rfl
theorem x_s {z:Str} {i:Int}:opIx (.str z) (.int i)=grd (szOk z.length) (match atI z.cps.toList i with | some c=>.ok (.str ⟨#[c]⟩) | none=>stk):=rfl
theorem sl_l {o:Bool} {ds:List D} {lo hi:Option Int}:opSl (.lst o ds) lo hi=.ok (.lst true (cutG ds lo hi)):=rfl
theorem sl_t {z:Str} {lo hi:Option Int}:opSl (.str z) lo hi=grd (szOk z.length) (.ok (.str (Txt.slice z lo hi))):=rfl
theorem tr_n:truD .non=.ok false:=rfl
theorem tr_b {b:Bool}:truD (.bl b)=.ok b:=rfl
theorem tr_i {i:Int}:truD (.int i)=.ok (i != 0):=rfl
theorem c_eq {a b:D}:opC .eq a b=eqN 40 a b:=by cases a<;>cases b<;>rfl
noncomputable def notB (r:Bool):Res Bool:=.ok !r
theorem notB_k {r:Bool}:notB r=.ok !r:=rfl
theorem c_ne {a b:D}:opC .ne a b=bnd (eqN 40 a b) notB:=by cases a<;>cases b<;>rfl
theorem e_ii {n:Nat} {a b:Int}:eqN (n + 1) (.int a) (.int b)=.ok (a == b):=rfl
theorem e_ss {n:Nat} {a b:Str}:eqN (n + 1) (.str a) (.str b)=.ok (a == b):=rfl
theorem e_bb {n:Nat} {a b:Bool}:eqN (n + 1) (.bl a) (.bl b)=.ok (a == b):=rfl
theorem e_nn {n:Nat}:eqN (n + 1) .non .non=.ok true:=rfl
theorem e_ni {n:Nat} {a:Int}:eqN (n + 1) .non (.int a)=.ok false:=rfl
theorem e_in {n:Nat} {a:Int}:eqN (n + 1) (.int a) .non=.ok false:=rfl
theorem ej_nb {n:Nat} {b':Bool}:eqN (n + 1) (.non) (.bl b')=.ok false:=rfl
theorem ej_ni {n:Nat} {i':Int}:eqN (n + 1) (.non) (.int i')=.ok false:=rfl
theorem ej_ns {n:Nat} {x':Str}:eqN (n + 1) (.non) (.str x')=.ok false:=rfl
theorem ej_nt {n:Nat} {ds':List D}:eqN (n + 1) (.non) (.tup ds')=.ok false:=rfl
theorem ej_nl {n:Nat} {o':Bool} {ds':List D}:eqN (n + 1) (.non) (.lst o' ds')=.ok false:=rfl
theorem ej_bn {n:Nat} {b:Bool}:eqN (n + 1) (.bl b) (.non)=.ok false:=rfl
theorem ej_bs {n:Nat} {b:Bool} {x':Str}:eqN (n + 1) (.bl b) (.str x')=.ok false:=rfl
theorem ej_bt {n:Nat} {b:Bool} {ds':List D}:eqN (n + 1) (.bl b) (.tup ds')=.ok false:=rfl
theorem ej_bl {n:Nat} {b:Bool} {o':Bool} {ds':List D}:eqN (n + 1) (.bl b) (.lst o' ds')=.ok false:=rfl
theorem ej_in {n:Nat} {i:Int}:eqN (n + 1) (.int i) (.non)=.ok false:=rfl
theorem ej_is {n:Nat} {i:Int} {x':Str}:eqN (n + 1) (.int i) (.str x')=.ok false:=rfl
theorem ej_it {n:Nat} {i:Int} {ds':List D}:eqN (n + 1) (.int i) (.tup ds')=.ok false:=rfl
theorem ej_il {n:Nat} {i:Int} {o':Bool} {ds':List D}:eqN (n + 1) (.int i) (.lst o' ds')=.ok false:=rfl
theorem ej_sn {n:Nat} {x:Str}:eqN (n + 1) (.str x) (.non)=.ok false:=rfl
theorem ej_sb {n:Nat} {x:Str} {b':Bool}:eqN (n + 1) (.str x) (.bl b')=.ok false:=rfl
theorem ej_si {n:Nat} {x:Str} {i':Int}:eqN (n + 1) (.str x) (.int i')=.ok false:=rfl
theorem ej_st {n:Nat} {x:Str} {ds':List D}:eqN (n + 1) (.str x) (.tup ds')=.ok false:=rfl
theorem ej_sl {n:Nat} {x:Str} {o':Bool} {ds':List D}:eqN (n + 1) (.str x) (.lst o' ds')=.ok false:=rfl
theorem ej_tn {n:Nat} {ds:List D}:eqN (n + 1) (.tup ds) (.non)=.ok false:=rfl
theorem ej_tb {n:Nat} {ds:List D} {b':Bool}:eqN (n + 1) (.tup ds) (.bl b')=.ok false:=rfl
theorem ej_ti {n:Nat} {ds:List D} {i':Int}:eqN (n + 1) (.tup ds) (.int i')=.ok false:=rfl
theorem ej_ts {n:Nat} {ds:List D} {x':Str}:eqN (n + 1) (.tup ds) (.str x')=.ok false:=rfl
theorem ej_tl {n:Nat} {ds:List D} {o':Bool} {ds':List D}:eqN (n + 1) (.tup ds) (.lst o' ds')=.ok false:=rfl
theorem ej_ln {n:Nat} {o:Bool} {ds:List D}:eqN (n + 1) (.lst o ds) (.non)=.ok false:=rfl
theorem ej_lb {n:Nat} {o:Bool} {ds:List D} {b':Bool}:eqN (n + 1) (.lst o ds) (.bl b')=.ok false:=rfl
theorem ej_li {n:Nat} {o:Bool} {ds:List D} {i':Int}:eqN (n + 1) (.lst o ds) (.int i')=.ok false:=rfl
theorem ej_ls {n:Nat} {o:Bool} {ds:List D} {x':Str}:eqN (n + 1) (.lst o ds) (.str x')=.ok false:=rfl
theorem ej_lt {n:Nat} {o:Bool} {ds:List D} {ds':List D}:eqN (n + 1) (.lst o ds) (.tup ds')=.ok false:=rfl
theorem e_tt {n:Nat} {a b:List D}:eqN (n + 1) (.tup a) (.tup b)=eqsG (eqN n) a b:=rfl
theorem e_ll {n:Nat} {o o':Bool} {a b:List D}:eqN (n + 1) (.lst o a) (.lst o' b)=eqsG (eqN n) a b:=rfl
theorem es_n {f:D→D→Res Bool}:eqsG f [] []=.ok true:=rfl
noncomputable def andB (x y:Bool):Res Bool:=.ok (x && y)
theorem andB_k {x y:Bool}:andB x y=.ok (x && y):=rfl
noncomputable def esK (f:D→D→Res Bool) (r s:List D) (x:Bool):Res Bool:=bnd (eqsG f r s) (andB x)
theorem esK_k {f:D→D→Res Bool} {r s:List D} {x:Bool}:esK f r s x=bnd (eqsG f r s) (andB x):=rfl
theorem es_c {f:D→D→Res Bool} {a b:D} {r s:List D}:eqsG f (a::r) (b::s)=bnd (f a b) (esK f r s):=rfl
theorem es_l {f:D→D→Res Bool} {a:D} {r:List D}:eqsG f (a::r) []=.ok false:=rfl
theorem es_r {f:D→D→Res Bool} {b:D} {s:List D}:eqsG f [] (b::s)=.ok false:=rfl
theorem c_lt {a b:Int}:opC .lt (.int a) (.int b)=.ok (decide (a < b)):=rfl
theorem c_le {a b:Int}:opC .le (.int a) (.int b)=.ok (decide (a≤b)):=rfl
theorem c_gt {a b:Int}:opC .gt (.int a) (.int b)=.ok (decide (b < a)):=rfl
theorem c_ge {a b:Int}:opC .ge (.int a) (.int b)=.ok (decide (b≤a)):=rfl
theorem c_ins {y x:Str}:opC .in_ (.str y) (.str x)=.ok (inStr x y):=rfl
theorem c_nins {y x:Str}:opC .nin (.str y) (.str x)=.ok (!inStr x y):=rfl
theorem c_inl {a:D} {o:Bool} {ds:List D}:opC .in_ a (.lst o ds)=anyN a ds:=by cases a<;>rfl
theorem c_ninl {a:D} {o:Bool} {ds:List D}:opC .nin a (.lst o ds)=bnd (anyN a ds) notB:=by cases a<;>rfl
theorem c_is {a:D}:opC .is_ a .non=.ok (isNon a):=by cases a<;>rfl
theorem c_isn {a:D}:opC .isn a .non=.ok (!isNon a):=by cases a<;>rfl
theorem n_n:isNon .non=true:=rfl
theorem n_i {i:Int}:isNon (.int i)=false:=rfl
theorem n_s {i:Str}:isNon (.str i)=false:=rfl
theorem n_b {b:Bool}:isNon (.bl b)=false:=rfl
theorem n_t {ds:List D}:isNon (.tup ds)=false:=rfl
theorem n_l {o:Bool} {ds:List D}:isNon (.lst o ds)=false:=rfl
theorem c_int {a:D} {ds:List D}:opC .in_ a (.tup ds)=anyN a ds:=by cases a<;>rfl
theorem c_nint {a:D} {ds:List D}:opC .nin a (.tup ds)=bnd (anyN a ds) notB:=by cases a<;>rfl
theorem an_n {d:D}:anyN d []=.ok false:=rfl
noncomputable def orBB (x y:Bool):Res Bool:=.ok (x || y)
theorem orBB_k {x y:Bool}:orBB x y=.ok (x || y):=rfl
noncomputable def anK (d:D) (r:List D) (x:Bool):Res Bool:=bnd (anyN d r) (orBB x)
theorem anK_k {d:D} {r:List D} {x:Bool}:anK d r x=bnd (anyN d r) (orBB x):=rfl
theorem an_c {d e:D} {r:List D}:anyN d (e::r)=bnd (eqN 40 e d) (anK d r):=rfl
theorem bi_ls {x:Str}:opBi .len [.str x]=grd (szOk x.length) (.ok (.int x.length)):=rfl
theorem bi_lt {ds:List D}:opBi .len [.tup ds]=.ok (.int ds.length):=rfl
theorem bi_ll {o:Bool} {ds:List D}:opBi .len [.lst o ds]=.ok (.int ds.length):=rfl
theorem bi_min {a b:Int}:opBi .min2 [.int a,.int b]=.ok (.int (if b < a then b else a)):=rfl
theorem bi_max {a b:Int}:opBi .max2 [.int a,.int b]=.ok (.int (if b > a then b else a)):=rfl
theorem bi_ord {x:Str}:opBi .ord [.str x]=grd (decide (x.length=1)) (.ok (.int (x.cps.getD 0 0:Nat))):=rfl
theorem bi_inti {i:Int}:opBi .int [.int i]=.ok (.int i):=rfl
theorem bi_intb {b:Bool}:opBi .int [.bl b]=.ok (.int (if b then 1 else 0)):=rfl
theorem bi_listl {o:Bool} {ds:List D}:opBi .list [.lst o ds]=.ok (.lst true ds):=rfl
theorem bi_lists {x:Str}:opBi .list [.str x]=grd (szOk x.length) (.ok (.lst true (charsD x))):=rfl
theorem bi_tups {x:Str}:opBi .tuple [.str x]=grd (szOk x.length) (.ok (.tup (charsD x))):=rfl
theorem bi_sort {o:Bool} {ds:List D}:opBi .sorted [.lst o ds]=sortD ds:=rfl
theorem bi_listt {ds:List D}:opBi .list [.tup ds]=.ok (.lst true ds):=rfl
theorem asStrs_i (ns:List Str):asStrs (ns.map .str)=some ns:=by
 induction ns with
 | nil=>rfl
 | cons n ns ih=>
  show (asStrs (ns.map .str)).map (n::·)=_
  rw[ih]
  rfl
theorem asBls_i (ns:List Bool):asBls (ns.map .bl)=some ns:=by
 induction ns with
 | nil=>rfl
 | cons n ns ih=>
  show (asBls (ns.map .bl)).map (n::·)=_
  rw[ih]
  rfl
theorem bi_abs {i:Int}:opBi .abs [.int i]=.ok (.int (if i < 0 then -i else i)):=rfl
theorem bi_any {o:Bool} {bs:List Bool}:opBi .any [.lst o (bs.map .bl)]=.ok (.bl (bs.any id)):=by
 show (match asBls (bs.map .bl) with | some bs=>.ok (.bl (bs.any id)) | none=>stk)=(_:Res D)
 rw[asBls_i]
theorem bi_all {o:Bool} {bs:List Bool}:opBi .all [.lst o (bs.map .bl)]=.ok (.bl (bs.all id)):=by
 show (match asBls (bs.map .bl) with | some bs=>.ok (.bl (bs.all id)) | none=>stk)=(_:Res D)
 rw[asBls_i]
theorem mt_join {x:Str} {o:Bool} {ys:List Str} (h:(ys.map (·.length)).sum + ys.length * x.length≤16777216):opMt .join (.str x) [.lst o (ys.map .str)]=.ok (.str (Txt.join x ys)):=by
 show (match asStrs (ys.map .str) with | some ys=>grd (decide ((ys.map (fun y:Str=>y.length)).sum + ys.length * x.length≤16777216)) (.ok (.str (Txt.join x ys))) | none=>stk)=(_:Res D)
 rw[asStrs_i]
 show grd (decide _) _=_
 rw[decide_eq_true h]
 rfl
theorem mt_starts {x y:Str}:opMt .starts (.str x) [.str y]=.ok (.bl (Txt.startswith x y)):=rfl
theorem mt_index {x y:Str}:opMt .index (.str x) [.str y]=grd (decide (0≤Txt.find x y)) (.ok (.int (Txt.find x y))):=rfl
theorem str_t {x:Str}:isStrD (.str x)=true:=rfl
theorem isi_si {x:Str}:isiD .str (.str x)=true:=rfl
theorem isi_ii {x:Int}:isiD .int (.int x)=true:=rfl
theorem isi_bi {x:Int}:isiD .bool (.int x)=false:=rfl
theorem isi_tt {x:List D}:isiD .tuple (.tup x)=true:=rfl
theorem isj_strn:isiD .str (.non)=false:=rfl
theorem isj_strb {b:Bool}:isiD .str (.bl b)=false:=rfl
theorem isj_stri {i:Int}:isiD .str (.int i)=false:=rfl
theorem isj_strs {x:Str}:isiD .str (.str x)=true:=rfl
theorem isj_strt {ds:List D}:isiD .str (.tup ds)=false:=rfl
theorem isj_strl {o:Bool} {ds:List D}:isiD .str (.lst o ds)=false:=rfl
theorem isj_intn:isiD .int (.non)=false:=rfl
theorem isj_intb {b:Bool}:isiD .int (.bl b)=true:=rfl
theorem isj_inti {i:Int}:isiD .int (.int i)=true:=rfl
theorem isj_ints {x:Str}:isiD .int (.str x)=false:=rfl
theorem isj_intt {ds:List D}:isiD .int (.tup ds)=false:=rfl
theorem isj_intl {o:Bool} {ds:List D}:isiD .int (.lst o ds)=false:=rfl
theorem isj_booln:isiD .bool (.non)=false:=rfl
theorem isj_boolb {b:Bool}:isiD .bool (.bl b)=true:=rfl
theorem isj_booli {i:Int}:isiD .bool (.int i)=false:=rfl
theorem isj_bools {x:Str}:isiD .bool (.str x)=false:=rfl
theorem isj_boolt {ds:List D}:isiD .bool (.tup ds)=false:=rfl
theorem isj_booll {o:Bool} {ds:List D}:isiD .bool (.lst o ds)=false:=rfl
theorem isj_listn:isiD .list (.non)=false:=rfl
theorem isj_listb {b:Bool}:isiD .list (.bl b)=false:=rfl
theorem isj_listi {i:Int}:isiD .list (.int i)=false:=rfl
theorem isj_lists {x:Str}:isiD .list (.str x)=false:=rfl
theorem isj_listt {ds:List D}:isiD .list (.tup ds)=false:=rfl
theorem isj_listl {o:Bool} {ds:List D}:isiD .list (.lst o ds)=true:=rfl
theorem isj_tuplen:isiD .tuple (.non)=false:=rfl
theorem isj_tupleb {b:Bool}:isiD .tuple (.bl b)=false:=rfl
theorem isj_tuplei {i:Int}:isiD .tuple (.int i)=false:=rfl
theorem isj_tuples {x:Str}:isiD .tuple (.str x)=false:=rfl
theorem isj_tuplet {ds:List D}:isiD .tuple (.tup ds)=true:=rfl
theorem isj_tuplel {o:Bool} {ds:List D}:isiD .tuple (.lst o ds)=false:=rfl
theorem isi_ll {o:Bool} {x:List D}:isiD .list (.lst o x)=true:=rfl
theorem lf_i (ns:List Int):lfrees (ns.map .int)=true:=by
 rw[lfrees_all,List.all_map,List.all_eq_true]
 intro x _
 rfl
theorem lf_s (ns:List Str):lfrees (ns.map .str)=true:=by
 rw[lfrees_all,List.all_map,List.all_eq_true]
 intro x _
 rfl
theorem er_i {i:Int}:er (.int i)=.int i:=by rw[er]
theorem er_s {i:Str}:er (.str i)=.str i:=by rw[er]
theorem er_b {i:Bool}:er (.bl i)=.bl i:=by rw[er]
theorem er_n:er .non=.non:=by rw[er]
theorem er_t {ds:List D}:er (.tup ds)=.tup (ers ds):=by rw[er]
theorem er_l {o:Bool} {ds:List D}:er (.lst o ds)=.lst false (ers ds):=by rw[er]
theorem ers_n:ers []=[]:=by rw[ers]
theorem ers_c {d:D} {ds:List D}:ers (d::ds)=er d::ers ds:=by rw[ers]
theorem ers_ii (ns:List Int):ers (ns.map .int)=ns.map .int:=ers_lfrees (lf_i ns)
theorem ers_ss (ns:List Str):ers (ns.map .str)=ns.map .str:=ers_lfrees (lf_s ns)
theorem lfr_i {i:Int}:lfree (.int i)=true:=rfl
theorem lfr_s {i:Str}:lfree (.str i)=true:=rfl
theorem lfr_b {i:Bool}:lfree (.bl i)=true:=rfl
theorem lfr_n:lfree .non=true:=rfl
theorem lfr_t {ds:List D}:lfree (.tup ds)=lfrees ds:=rfl
theorem lfr_l {o:Bool} {ds:List D}:lfree (.lst o ds)=false:=rfl
theorem lfrs_n:lfrees []=true:=rfl
theorem lfrs_c {d:D} {ds:List D}:lfrees (d::ds)=(lfree d && lfrees ds):=rfl
noncomputable def retF:Fl→Res D
 | .nx _=>.ok .non
 | .rt d=>.ok d
 | _=>stk
theorem run {fn:Fn} {ds:List D} (h:ds.length=fn.np):runF cl fn ds=bnd (evSs cl fn.body (ds.map some++List.replicate (fn.G.N.length - fn.np) none)) retF:=by
 unfold runF
 rw[decide_eq_true h]
 rfl
theorem ret_nx:retF (.nx τ)=.ok .non:=rfl
theorem ret_rt {d:D}:retF (.rt d)=.ok d:=rfl
theorem call {T:Tb} {n f:Nat} {fn:Fn} {ds:List D} (h:T f=some fn):callF T (n + 1) f ds=runF (callF T n) fn ds:=by
 show (match T f with | some fn=>runF (callF T n) fn ds | none=>stk)=_
 rw[h]
theorem go {T:Tb} {n f:Nat} {fn:Fn} {ds:List D} {m k:Nat} {body:List IS} (h:T f=some fn) (h1:fn.np=m) (h2:fn.G.N.length=k) (h3:fn.body=body) (hl:ds.length=m) :
  callF T (n + 1) f ds=bnd (evSs (callF T n) body (ds.map some++List.replicate (k - m) none)) retF:=by
 rw[call h,run (by rw[hl,h1]),h1,h2,h3]
end
end Ev
end L2
namespace L2
open PySem PySem.Spec PyProof.Rows PySem.SeqAt
namespace Ev
section
variable {cl:Nat→List D→Res D} {τ:Ev}
theorem line:sizeLine=16777216:=sizeLine_eq
theorem c_mulL {a b:Int} (h1 : -18446744073709551616 < a) (h2:a < 18446744073709551616):opB .mul (.int a) (.int b)=.ok (.int (a * b)):=by
 rw[b_mul,decide_eq_true (show -(2 ^ 64) < a∧a < 2 ^ 64 from ⟨by omega,by omega⟩)]
 rfl
theorem c_mulR {a b:Int} (h1 : -18446744073709551616 < b) (h2:b < 18446744073709551616):opB .mul (.int a) (.int b)=.ok (.int (a * b)):=by
 rw[b_mul,decide_eq_true (show -(2 ^ 64) < b∧b < 2 ^ 64 from ⟨by omega,by omega⟩),Bool.or_true]
 rfl
theorem c_fdiv {a b:Int} (h1:0 < b) (h2:b < 1073741824):opB .fdiv (.int a) (.int b)=.ok (.int (a / b)):=by
 rw[b_fdiv,decide_eq_true ⟨h1,h2⟩]
 rfl
theorem c_mod {a b:Int} (h1:0 < b):opB .mod (.int a) (.int b)=.ok (.int (a % b)):=by
 rw[b_mod,decide_eq_true h1]
 rfl
theorem szOk_t {n:Nat} (h:n≤16777216):szOk n=true:=decide_eq_true (by rw[line];exact h)
theorem szLt_t {n:Nat} (h:n < 16777216):szLt n=true:=decide_eq_true (by rw[line];exact h)
theorem rngOk_t {i:Int} (h1 : -4611686018427387904≤i) (h2:i < 4611686018427387904):rngOk i=true:=decide_eq_true ⟨by omega,by omega⟩
theorem atI_map {α β:Type} (f:α→β) (xs:List α) (i:Int):atI (xs.map f) i=(atI xs i).map f:=by
 unfold atI
 rw[List.length_map]
 cases ixN xs.length i with
 | none=>rfl
 | some j=>exact List.getElem?_map ..
theorem atI_in {α:Type} {xs:List α} {i:Int} (d:α) (h0:0≤i) (h1:i < xs.length):atI xs i=some (xs.getD i.toNat d):=by
 unfold atI ixN
 rw[if_pos h0,if_pos h1]
 show xs[i.toNat]? = _
 have:i.toNat < xs.length:=by omega
 rw[List.getD_eq_getElem?_getD,List.getElem?_eq_getElem this]
 rfl
theorem x_i {o:Bool} {xs:List Int} {i:Int} (h0:0≤i) (h1:i < xs.length):opIx (.lst o (xs.map .int)) (.int i)=.ok (.int (xs.getD i.toNat 0)):=by
 rw[x_l,atI_map,atI_in 0 h0 h1]
 rfl
theorem x_ss {o:Bool} {xs:List Str} {i:Int} (h0:0≤i) (h1:i < xs.length):opIx (.lst o (xs.map .str)) (.int i)=.ok (.str (xs.getD i.toNat ⟨#[]⟩)):=by
 rw[x_l,atI_map,atI_in ⟨#[]⟩ h0 h1]
 rfl
theorem x_c {z:Str} {i:Int} (h0:0≤i) (h1:i < z.length) (hz:z.length≤16777216):opIx (.str z) (.int i)=.ok (.str ⟨#[z.cps.toList.getD i.toNat 0]⟩):=by
 rw[x_s,szOk_t hz]
 have hl:z.cps.toList.length=z.length:=by simp[Str.length]
 rw[atI_in 0 h0 (by rw[hl];exact h1)]
 rfl
theorem cutG_map {α β:Type} (f:α→β) (xs:List α) (lo hi:Option Int):cutG (xs.map f) lo hi=(cutG xs lo hi).map f:=by
 unfold cutG
 rw[List.length_map,List.map_take,List.map_drop]
theorem cut_to {α:Type} (xs:List α) {m:Int} (h:0≤m):cutG xs none (some m)=xs.take m.toNat:=by
 unfold cutG HT.sIx
 simp only[List.drop_zero,Nat.sub_zero]
 rw[if_neg (by omega)]
 by_cases hm:m.toNat≤xs.length
 ·rw[show min m.toNat xs.length=m.toNat from Nat.min_eq_left hm]
 ·rw[show min m.toNat xs.length=xs.length from Nat.min_eq_right (by omega),List.take_length,List.take_of_length_le (by omega)]
noncomputable def fz:Bool→Option D→Option D
 | true,some d=>some (er d)
 | true,none=>none
 | false,o=>o
theorem fz_t {d:D}:fz true (some d)=some (er d):=rfl
theorem fz_n:fz true none=none:=rfl
theorem fz_f {o:Option D}:fz false o=o:=rfl
theorem frz_n {is:List Nat} {k:Nat}:frzA is k []=[]:=rfl
theorem frz_c {is:List Nat} {k:Nat} {o:Option D} {τ:Ev}:frzA is k (o::τ)=fz (is.contains k) o::frzA is (k + 1) τ:=by
 show (if is.contains k then o.map er else o)::frzA is (k + 1) τ=_
 cases is.contains k<;>cases o<;>rfl
theorem vr_c {d:D}:vars (.c d)=[]:=rfl
theorem vr_g {n:Nat} {d:D}:vars (.g n d)=[]:=rfl
theorem vr_v {i:Nat}:vars (.v i)=[i]:=rfl
theorem vr_bin {o:BOp} {a b:IR}:vars (.bin o a b)=vars a++vars b:=rfl
theorem vr_tup {es:List IR}:vars (.tup es)=varss es:=rfl
theorem vr_lst {es:List IR}:vars (.lst es)=varss es:=rfl
theorem vr_call {f:Nat} {es:List IR}:vars (.call f es)=varss es:=rfl
theorem vr_bi {f:Bi} {es:List IR}:vars (.bi f es)=varss es:=rfl
theorem vr_idx {a i:IR}:vars (.idx a i)=vars a++vars i:=rfl
theorem vr_mth {m:Mt} {o:IR} {es:List IR}:vars (.mth m o es)=vars o++varss es:=rfl
theorem vrs_n:varss []=[]:=rfl
theorem vrs_c {e:IR} {es:List IR}:varss (e::es)=vars e++varss es:=rfl
theorem nl_comp {G:Gm} {fr:List Nat} {t:Tg} {s:Sr} {i:List IR} {e:IR}:newList? (.comp G fr t s i e)=true:=rfl
theorem nl_add {a b:IR}:newList? (.bin .add a b)=true:=rfl
theorem nl_sl {a:IR} {b c:Option IR}:newList? (.sl a b c)=true:=rfl
theorem nl_list {es:List IR}:newList? (.bi .list es)=true:=rfl
theorem nl_v {i:Nat}:newList? (.v i)=false:=rfl
theorem nl_idx {a i:IR}:newList? (.idx a i)=false:=rfl
theorem k_ll {e:IR} {o:Bool} {ds:List D} {τ:Ev}:keepD e (.lst o ds) τ=cond (newList? e) (cond (lfrees ds) (.lst true ds,τ) (.lst true (ers ds),frz (vars e) τ)) (.lst false (ers ds),frz (vars e) τ):=by
 unfold keepD
 rw[if_neg (show ¬ lfree (.lst o ds)=true by intro z;cases z)]
 cases newList? e
 ·exact Prod.ext (by show er (.lst o ds)=_;rw[er];rfl) rfl
 ·show (if lfrees ds=true then _ else _)=_
  cases lfrees ds<;>rfl
theorem k_tt {e:IR} {ds:List D} {τ:Ev}:keepD e (.tup ds) τ=cond (lfrees ds) (.tup ds,τ) (.tup (ers ds),frz (vars e) τ):=by
 unfold keepD
 cases h:lfrees ds with
 | true=>rw[if_pos (show lfree (.tup ds)=true from h)];rfl
 | false=>
  rw[if_neg (show ¬ lfree (.tup ds)=true by intro z;rw[show lfree (.tup ds)=lfrees ds from rfl,h] at z;cases z)]
  cases newList? e<;>exact Prod.ext (by show er (.tup ds)=_;rw[er];rfl) rfl
theorem for_inv {body:D→Ev→Res Fl} (P:Nat→Ev→Prop):∀ (its:List D) (k:Nat) (τ:Ev),P k τ→(∀ (i:Nat) (x:D) (τ:Ev),its[i]? = some x→P (k + i) τ→∃ τ',body x τ=.ok (.nx τ')∧P (k + i + 1) τ')→∃ τ',forM body its τ=.ok (.nx τ')∧P (k + its.length) τ'
 | [],k,τ,h,_=>⟨τ,rfl,h⟩
 | x::xs,k,τ,h,hb=>by
  obtain⟨τ1,e1,h1⟩:=hb 0 x τ rfl h
  obtain⟨τ2,e2,h2⟩:=for_inv P xs (k + 1) τ1 h1 fun i y σ hy hp=>by
   obtain⟨τ',e',h'⟩:=hb (i + 1) y σ (by simpa using hy) (by rw[show k + (i + 1)=k + 1 + i by omega];exact hp)
   exact⟨τ',e',by rw[show k + 1 + i + 1=k + (i + 1) + 1 by omega];exact h'⟩
  refine⟨τ2,?_,by rw[List.length_cons,show k + (xs.length + 1)=k + 1 + xs.length by omega];exact h2⟩
  rw[for_c,e1,bnd_k,ff_nx,e2]
theorem for_all {body:D→Ev→Res Fl} (P:Nat→Ev→Prop) {its:List D} {τ:Ev} (h:P 0 τ) (hb:∀ (i:Nat) (x:D) (τ:Ev),its[i]? = some x→P i τ→∃ τ',body x τ=.ok (.nx τ')∧P (i + 1) τ'):∃ τ',forM body its τ=.ok (.nx τ')∧P its.length τ':=by
 obtain⟨τ',h1,h2⟩:=for_inv P its 0 τ h fun i x τ hx hp=>by
  rw[Nat.zero_add] at hp ⊢
  exact hb i x τ hx hp
 exact⟨τ',h1,by rw[Nat.zero_add] at h2;exact h2⟩
theorem fmap_all {α β:Type} {g:D→Res (Option D)} (emb:α→D) (out:α→β) (emb':β→D):∀ (xs:List α),(∀ x ∈ xs,g (emb x)=.ok (some (emb' (out x))))→fmapM g (xs.map emb)=.ok ((xs.map out).map emb')
 | [],_=>rfl
 | x::xs,h=>by
  show bnd (g (emb x)) _=_
  rw[h x (by simp)]
  show bnd (fmapM g (xs.map emb)) _=_
  rw[fmap_all emb out emb' xs fun y hy=>h y (List.mem_cons_of_mem _ hy)]
  rfl
theorem noX_k {α:Type} {a:α}:noX (.ok a:Res α)=.ok a:=rfl
theorem rngD_map (a b:Int):rngD a b=((List.range (b - a).toNat).map fun k=>a + (k:Nat)).map .int:=by
 unfold rngD
 rw[List.map_map]
 rfl
theorem charsD_map (x:Str):charsD x=(x.cps.toList.map fun c=>(⟨#[c]⟩:Str)).map .str:=by
 unfold charsD
 rw[List.map_map]
 rfl
end
end Ev
end L2
namespace L2
open PySem
theorem ev0:type_of% (And.intro (And.intro (And.intro (And.intro (And.intro (And.intro (And.intro (And.intro @Ev.bnd_k (And.intro @Ev.grd_t @Ev.if_t)) (And.intro @Ev.if_f (And.intro @Ev.r_c @Ev.r_g))) (And.intro (And.intro @Ev.r_v (And.intro @Ev.binK_k @Ev.r_bin)) (And.intro @Ev.r_neg (And.intro @Ev.negD_i @Ev.blK_k)))) (And.intro (And.intro (And.intro @Ev.cmpK2_k (And.intro @Ev.cmpK_k @Ev.r_cmp)) (And.intro @Ev.chK3_k (And.intro @Ev.chK2_k @Ev.chK_k))) (And.intro (And.intro @Ev.r_chain (And.intro @Ev.andK2_k @Ev.andK_k)) (And.intro (And.intro @Ev.r_and @Ev.orK2_k) (And.intro @Ev.orK_k @Ev.r_or))))) (And.intro (And.intro (And.intro (And.intro @Ev.notK2_k (And.intro @Ev.notK_k @Ev.r_not)) (And.intro @Ev.iteK2_k (And.intro @Ev.iteK_k @Ev.r_ite))) (And.intro (And.intro @Ev.tupK_k (And.intro @Ev.r_tup @Ev.lstK_k)) (And.intro (And.intro @Ev.r_lst @Ev.idxK_k) (And.intro @Ev.r_idx @Ev.slK2_k)))) (And.intro (And.intro (And.intro @Ev.slK_k (And.intro @Ev.r_sl @Ev.callK_k)) (And.intro @Ev.r_call (And.intro @Ev.r_bi @Ev.isiK_k))) (And.intro (And.intro @Ev.nx_n (And.intro @Ev.nx_b @Ev.nx_i)) (And.intro (And.intro @Ev.nx_s @Ev.nx_t) (And.intro @Ev.nx_l @Ev.r_lrev)))))) (And.intro (And.intro (And.intro (And.intro (And.intro @Ev.rv_l (And.intro @Ev.r_isi @Ev.mthK_k)) (And.intro @Ev.r_mth (And.intro @Ev.lstT_k @Ev.compK_k))) (And.intro (And.intro @Ev.r_comp (And.intro @Ev.rs_n @Ev.consK_k)) (And.intro @Ev.rsK_k (And.intro @Ev.rs_c @Ev.intO_i)))) (And.intro (And.intro (And.intro @Ev.ro_n (And.intro @Ev.ro_s @Ev.ts_n)) (And.intro @Ev.tsK_k (And.intro @Ev.ts_c @Ev.rng1D_i))) (And.intro (And.intro @Ev.rng2D_i (And.intro @Ev.s_r1 @Ev.r2K_k)) (And.intro (And.intro @Ev.s_r2 @Ev.zipK_k) (And.intro @Ev.zipK2_ll @Ev.zipK2_tt))))) (And.intro (And.intro (And.intro (And.intro @Ev.s_zip (And.intro @Ev.s_val @Ev.it_l)) (And.intro @Ev.it_t (And.intro @Ev.it_s @Ev.t_t))) (And.intro (And.intro @Ev.o_v (And.intro @Ev.otupK_k @Ev.o_tup)) (And.intro (And.intro @Ev.olstK_k @Ev.o_lst) (And.intro @Ev.oiteK_k @Ev.o_ite)))) (And.intro (And.intro (And.intro @Ev.ocallK2_k (And.intro @Ev.ocallK_k @Ev.o_call)) (And.intro @Ev.keepK_k (And.intro @Ev.o_c @Ev.o_g))) (And.intro (And.intro @Ev.o_bin (And.intro @Ev.o_neg @Ev.o_cmp)) (And.intro (And.intro @Ev.o_chain @Ev.o_and) (And.intro @Ev.o_or @Ev.o_not))))))) (And.intro (And.intro (And.intro (And.intro (And.intro (And.intro @Ev.o_idx (And.intro @Ev.o_sl @Ev.o_bi)) (And.intro @Ev.o_lrev (And.intro @Ev.o_isi @Ev.o_mth))) (And.intro (And.intro @Ev.o_comp (And.intro @Ev.os_n @Ev.osK2_k)) (And.intro @Ev.osK_k (And.intro @Ev.os_c @Ev.smK_k)))) (And.intro (And.intro (And.intro @Ev.bdK2_k (And.intro @Ev.bdK_k @Ev.body_eq)) (And.intro @Ev.blk_eq (And.intro @Ev.k_i @Ev.k_s))) (And.intro (And.intro @Ev.k_b (And.intro @Ev.k_n @Ev.nxK_k)) (And.intro (And.intro @Ev.asgK_k @Ev.st_asg) (And.intro @Ev.setL_t @Ev.setxD_i))))) (And.intro (And.intro (And.intro (And.intro @Ev.setixK_k (And.intro @Ev.st_setix @Ev.appK_k)) (And.intro @Ev.app0_t (And.intro @Ev.appD_t @Ev.st_app))) (And.intro (And.intro @Ev.expK_k (And.intro @Ev.st_exp @Ev.rtK_k)) (And.intro (And.intro @Ev.st_ret @Ev.st_retN) (And.intro @Ev.ifK_k @Ev.st_rse)))) (And.intro (And.intro (And.intro @Ev.rseK_k (And.intro @Ev.st_rsee @Ev.tryK2_k)) (And.intro @Ev.tryK0_k (And.intro @Ev.tryK1_ok @Ev.tryK1_x))) (And.intro (And.intro @Ev.st_tryc (And.intro @Ev.r_ftr @Ev.ftr_s)) (And.intro (And.intro @Ev.c_isnb @Ev.c_isnn) (And.intro @Ev.bnd_x @Ev.er_x)))))) (And.intro (And.intro (And.intro (And.intro (And.intro @Ev.st_if (And.intro @Ev.forK_k @Ev.st_for)) (And.intro @Ev.st_while (And.intro @Ev.rvK_k @Ev.st_rvs))) (And.intro (And.intro @Ev.clK_k (And.intro @Ev.st_clr @Ev.st_brk)) (And.intro (And.intro @Ev.st_cnt @Ev.st_pass) (And.intro @Ev.ss_n @Ev.ss_c)))) (And.intro (And.intro (And.intro @Ev.sq_nx (And.intro @Ev.sq_ct @Ev.sq_bk)) (And.intro @Ev.sq_rt (And.intro @Ev.srcK_k @Ev.srcvK_k))) (And.intro (And.intro @Ev.src_1 (And.intro @Ev.src_2 @Ev.src_v)) (And.intro (And.intro @Ev.for_n @Ev.for_c) (And.intro @Ev.ff_nx @Ev.ff_ct))))) (And.intro (And.intro (And.intro (And.intro @Ev.ff_bk (And.intro @Ev.ff_rt @Ev.t_nm)) (And.intro @Ev.t_tp (And.intro @Ev.t_tl @Ev.ts'_n))) (And.intro (And.intro @Ev.ts'_c (And.intro @Ev.sl_0 @Ev.sl_s)) (And.intro (And.intro @Ev.set_0 @Ev.set_s) (And.intro @Ev.b_add @Ev.b_adds)))) (And.intro (And.intro (And.intro @Ev.b_addl (And.intro @Ev.b_sub @Ev.b_muls)) (And.intro @Ev.b_pow (And.intro @Ev.x_t @Ev.sl_l))) (And.intro (And.intro @Ev.sl_t (And.intro @Ev.tr_n @Ev.tr_b)) (And.intro (And.intro @Ev.tr_i @Ev.c_eq) (And.intro @Ev.notB_k @Ev.c_ne)))))))) (And.intro (And.intro (And.intro (And.intro (And.intro (And.intro (And.intro @Ev.e_ii (And.intro @Ev.e_ss @Ev.e_bb)) (And.intro @Ev.e_nn (And.intro @Ev.e_ni @Ev.e_in))) (And.intro (And.intro @Ev.ej_nb (And.intro @Ev.ej_ni @Ev.ej_ns)) (And.intro @Ev.ej_nt (And.intro @Ev.ej_nl @Ev.ej_bn)))) (And.intro (And.intro (And.intro @Ev.ej_bs (And.intro @Ev.ej_bt @Ev.ej_bl)) (And.intro @Ev.ej_in (And.intro @Ev.ej_is @Ev.ej_it))) (And.intro (And.intro @Ev.ej_il (And.intro @Ev.ej_sn @Ev.ej_sb)) (And.intro (And.intro @Ev.ej_si @Ev.ej_st) (And.intro @Ev.ej_sl @Ev.ej_tn))))) (And.intro (And.intro (And.intro (And.intro @Ev.ej_tb (And.intro @Ev.ej_ti @Ev.ej_ts)) (And.intro @Ev.ej_tl (And.intro @Ev.ej_ln @Ev.ej_lb))) (And.intro (And.intro @Ev.ej_li (And.intro @Ev.ej_ls @Ev.ej_lt)) (And.intro (And.intro @Ev.e_tt @Ev.e_ll) (And.intro @Ev.es_n @Ev.andB_k)))) (And.intro (And.intro (And.intro @Ev.esK_k (And.intro @Ev.es_c @Ev.es_l)) (And.intro @Ev.es_r (And.intro @Ev.c_lt @Ev.c_le))) (And.intro (And.intro @Ev.c_gt (And.intro @Ev.c_ge @Ev.c_ins)) (And.intro (And.intro @Ev.c_nins @Ev.c_inl) (And.intro @Ev.c_ninl @Ev.c_is)))))) (And.intro (And.intro (And.intro (And.intro (And.intro @Ev.c_isn (And.intro @Ev.n_n @Ev.n_i)) (And.intro @Ev.n_s (And.intro @Ev.n_b @Ev.n_t))) (And.intro (And.intro @Ev.n_l (And.intro @Ev.c_int @Ev.c_nint)) (And.intro @Ev.an_n (And.intro @Ev.orBB_k @Ev.anK_k)))) (And.intro (And.intro (And.intro @Ev.an_c (And.intro @Ev.bi_ls @Ev.bi_lt)) (And.intro @Ev.bi_ll (And.intro @Ev.bi_min @Ev.bi_max))) (And.intro (And.intro @Ev.bi_ord (And.intro @Ev.bi_inti @Ev.bi_intb)) (And.intro (And.intro @Ev.bi_listl @Ev.bi_lists) (And.intro @Ev.bi_tups @Ev.bi_sort))))) (And.intro (And.intro (And.intro (And.intro @Ev.bi_listt (And.intro @Ev.bi_abs @Ev.bi_any)) (And.intro @Ev.bi_all (And.intro @Ev.mt_starts @Ev.mt_index))) (And.intro (And.intro @Ev.str_t (And.intro @Ev.isi_si @Ev.isi_ii)) (And.intro (And.intro @Ev.isi_bi @Ev.isi_tt) (And.intro @Ev.isj_strn @Ev.isj_strb)))) (And.intro (And.intro (And.intro @Ev.isj_stri (And.intro @Ev.isj_strs @Ev.isj_strt)) (And.intro @Ev.isj_strl (And.intro @Ev.isj_intn @Ev.isj_intb))) (And.intro (And.intro @Ev.isj_inti (And.intro @Ev.isj_ints @Ev.isj_intt)) (And.intro (And.intro @Ev.isj_intl @Ev.isj_booln) (And.intro @Ev.isj_boolb @Ev.isj_booli))))))) (And.intro (And.intro (And.intro (And.intro (And.intro (And.intro @Ev.isj_bools (And.intro @Ev.isj_boolt @Ev.isj_booll)) (And.intro @Ev.isj_listn (And.intro @Ev.isj_listb @Ev.isj_listi))) (And.intro (And.intro @Ev.isj_lists (And.intro @Ev.isj_listt @Ev.isj_listl)) (And.intro @Ev.isj_tuplen (And.intro @Ev.isj_tupleb @Ev.isj_tuplei)))) (And.intro (And.intro (And.intro @Ev.isj_tuples (And.intro @Ev.isj_tuplet @Ev.isj_tuplel)) (And.intro @Ev.isi_ll (And.intro @Ev.er_i @Ev.er_s))) (And.intro (And.intro @Ev.er_b (And.intro @Ev.er_n @Ev.er_t)) (And.intro (And.intro @Ev.er_l @Ev.ers_n) (And.intro @Ev.ers_c @Ev.ers_ii))))) (And.intro (And.intro (And.intro (And.intro @Ev.ers_ss (And.intro @Ev.lfr_i @Ev.lfr_s)) (And.intro @Ev.lfr_b (And.intro @Ev.lfr_n @Ev.lfr_t))) (And.intro (And.intro @Ev.lfr_l (And.intro @Ev.lfrs_n @Ev.lfrs_c)) (And.intro (And.intro @Ev.ret_nx @Ev.ret_rt) (And.intro @Ev.c_mulL @Ev.c_mulR)))) (And.intro (And.intro (And.intro @Ev.c_fdiv (And.intro @Ev.c_mod @Ev.szOk_t)) (And.intro @Ev.szLt_t (And.intro @Ev.rngOk_t @Ev.x_i))) (And.intro (And.intro @Ev.x_ss (And.intro @Ev.x_c @Ev.noX_k)) (And.intro (And.intro @Ev.fz_t @Ev.fz_n) (And.intro @Ev.fz_f @Ev.frz_n)))))) (And.intro (And.intro (And.intro (And.intro (And.intro @Ev.frz_c (And.intro @Ev.vr_c @Ev.vr_g)) (And.intro @Ev.vr_v (And.intro @Ev.vr_bin @Ev.vr_tup))) (And.intro (And.intro @Ev.vr_lst (And.intro @Ev.vr_call @Ev.vr_bi)) (And.intro (And.intro @Ev.vr_idx @Ev.vr_mth) (And.intro @Ev.vrs_n @Ev.vrs_c)))) (And.intro (And.intro (And.intro @Ev.nl_comp (And.intro @Ev.nl_add @Ev.nl_sl)) (And.intro @Ev.nl_list (And.intro @Ev.nl_v @Ev.nl_idx))) (And.intro (And.intro @Ev.k_ll (And.intro @Ev.k_tt @cond_true.{1})) (And.intro (And.intro @cond_false.{1} @Ev.lf_i) (And.intro @Ev.lf_s @List.contains_cons.{0}))))) (And.intro (And.intro (And.intro (And.intro @List.contains_nil.{0} (And.intro @Bool.or_false @Bool.or_true)) (And.intro @Bool.true_or (And.intro @Bool.false_or @List.map_cons.{0,0}))) (And.intro (And.intro @List.map_nil.{0,0} (And.intro @List.cons_append.{0} @List.nil_append.{0})) (And.intro (And.intro @List.replicate_succ.{0} @List.replicate_zero.{0}) (And.intro @List.length_cons.{0} @List.length_nil.{0})))) (And.intro (And.intro (And.intro @Nat.zero_add (And.intro @decide_true @Bool.and_self)) (And.intro @Bool.not_true (And.intro @Bool.not_false @Bool.and_true))) (And.intro (And.intro @Bool.true_and (And.intro @Bool.and_false @Bool.false_and)) (And.intro (And.intro @beq_self_eq_true.{0} @if_true.{1}) (And.intro @if_false.{1} @Bool.false_eq_true))))))))):=⟨⟨⟨⟨⟨⟨⟨⟨@Ev.bnd_k,⟨@Ev.grd_t,@Ev.if_t⟩⟩,⟨@Ev.if_f,⟨@Ev.r_c,@Ev.r_g⟩⟩⟩,⟨⟨@Ev.r_v,⟨@Ev.binK_k,@Ev.r_bin⟩⟩,⟨@Ev.r_neg,⟨@Ev.negD_i,@Ev.blK_k⟩⟩⟩⟩,⟨⟨⟨@Ev.cmpK2_k,⟨@Ev.cmpK_k,@Ev.r_cmp⟩⟩,⟨@Ev.chK3_k,⟨@Ev.chK2_k,@Ev.chK_k⟩⟩⟩,⟨⟨@Ev.r_chain,⟨@Ev.andK2_k,@Ev.andK_k⟩⟩,⟨⟨@Ev.r_and,@Ev.orK2_k⟩,⟨@Ev.orK_k,@Ev.r_or⟩⟩⟩⟩⟩,⟨⟨⟨⟨@Ev.notK2_k,⟨@Ev.notK_k,@Ev.r_not⟩⟩,⟨@Ev.iteK2_k,⟨@Ev.iteK_k,@Ev.r_ite⟩⟩⟩,⟨⟨@Ev.tupK_k,⟨@Ev.r_tup,@Ev.lstK_k⟩⟩,⟨⟨@Ev.r_lst,@Ev.idxK_k⟩,⟨@Ev.r_idx,@Ev.slK2_k⟩⟩⟩⟩,⟨⟨⟨@Ev.slK_k,⟨@Ev.r_sl,@Ev.callK_k⟩⟩,⟨@Ev.r_call,⟨@Ev.r_bi,@Ev.isiK_k⟩⟩⟩,⟨⟨@Ev.nx_n,⟨@Ev.nx_b,@Ev.nx_i⟩⟩,⟨⟨@Ev.nx_s,@Ev.nx_t⟩,⟨@Ev.nx_l,@Ev.r_lrev⟩⟩⟩⟩⟩⟩,⟨⟨⟨⟨⟨@Ev.rv_l,⟨@Ev.r_isi,@Ev.mthK_k⟩⟩,⟨@Ev.r_mth,⟨@Ev.lstT_k,@Ev.compK_k⟩⟩⟩,⟨⟨@Ev.r_comp,⟨@Ev.rs_n,@Ev.consK_k⟩⟩,⟨@Ev.rsK_k,⟨@Ev.rs_c,@Ev.intO_i⟩⟩⟩⟩,⟨⟨⟨@Ev.ro_n,⟨@Ev.ro_s,@Ev.ts_n⟩⟩,⟨@Ev.tsK_k,⟨@Ev.ts_c,@Ev.rng1D_i⟩⟩⟩,⟨⟨@Ev.rng2D_i,⟨@Ev.s_r1,@Ev.r2K_k⟩⟩,⟨⟨@Ev.s_r2,@Ev.zipK_k⟩,⟨@Ev.zipK2_ll,@Ev.zipK2_tt⟩⟩⟩⟩⟩,⟨⟨⟨⟨@Ev.s_zip,⟨@Ev.s_val,@Ev.it_l⟩⟩,⟨@Ev.it_t,⟨@Ev.it_s,@Ev.t_t⟩⟩⟩,⟨⟨@Ev.o_v,⟨@Ev.otupK_k,@Ev.o_tup⟩⟩,⟨⟨@Ev.olstK_k,@Ev.o_lst⟩,⟨@Ev.oiteK_k,@Ev.o_ite⟩⟩⟩⟩,⟨⟨⟨@Ev.ocallK2_k,⟨@Ev.ocallK_k,@Ev.o_call⟩⟩,⟨@Ev.keepK_k,⟨@Ev.o_c,@Ev.o_g⟩⟩⟩,⟨⟨@Ev.o_bin,⟨@Ev.o_neg,@Ev.o_cmp⟩⟩,⟨⟨@Ev.o_chain,@Ev.o_and⟩,⟨@Ev.o_or,@Ev.o_not⟩⟩⟩⟩⟩⟩⟩,⟨⟨⟨⟨⟨⟨@Ev.o_idx,⟨@Ev.o_sl,@Ev.o_bi⟩⟩,⟨@Ev.o_lrev,⟨@Ev.o_isi,@Ev.o_mth⟩⟩⟩,⟨⟨@Ev.o_comp,⟨@Ev.os_n,@Ev.osK2_k⟩⟩,⟨@Ev.osK_k,⟨@Ev.os_c,@Ev.smK_k⟩⟩⟩⟩,⟨⟨⟨@Ev.bdK2_k,⟨@Ev.bdK_k,@Ev.body_eq⟩⟩,⟨@Ev.blk_eq,⟨@Ev.k_i,@Ev.k_s⟩⟩⟩,⟨⟨@Ev.k_b,⟨@Ev.k_n,@Ev.nxK_k⟩⟩,⟨⟨@Ev.asgK_k,@Ev.st_asg⟩,⟨@Ev.setL_t,@Ev.setxD_i⟩⟩⟩⟩⟩,⟨⟨⟨⟨@Ev.setixK_k,⟨@Ev.st_setix,@Ev.appK_k⟩⟩,⟨@Ev.app0_t,⟨@Ev.appD_t,@Ev.st_app⟩⟩⟩,⟨⟨@Ev.expK_k,⟨@Ev.st_exp,@Ev.rtK_k⟩⟩,⟨⟨@Ev.st_ret,@Ev.st_retN⟩,⟨@Ev.ifK_k,@Ev.st_rse⟩⟩⟩⟩,⟨⟨⟨@Ev.rseK_k,⟨@Ev.st_rsee,@Ev.tryK2_k⟩⟩,⟨@Ev.tryK0_k,⟨@Ev.tryK1_ok,@Ev.tryK1_x⟩⟩⟩,⟨⟨@Ev.st_tryc,⟨@Ev.r_ftr,@Ev.ftr_s⟩⟩,⟨⟨@Ev.c_isnb,@Ev.c_isnn⟩,⟨@Ev.bnd_x,@Ev.er_x⟩⟩⟩⟩⟩⟩,⟨⟨⟨⟨⟨@Ev.st_if,⟨@Ev.forK_k,@Ev.st_for⟩⟩,⟨@Ev.st_while,⟨@Ev.rvK_k,@Ev.st_rvs⟩⟩⟩,⟨⟨@Ev.clK_k,⟨@Ev.st_clr,@Ev.st_brk⟩⟩,⟨⟨@Ev.st_cnt,@Ev.st_pass⟩,⟨@Ev.ss_n,@Ev.ss_c⟩⟩⟩⟩,⟨⟨⟨@Ev.sq_nx,⟨@Ev.sq_ct,@Ev.sq_bk⟩⟩,⟨@Ev.sq_rt,⟨@Ev.srcK_k,@Ev.srcvK_k⟩⟩⟩,⟨⟨@Ev.src_1,⟨@Ev.src_2,@Ev.src_v⟩⟩,⟨⟨@Ev.for_n,@Ev.for_c⟩,⟨@Ev.ff_nx,@Ev.ff_ct⟩⟩⟩⟩⟩,⟨⟨⟨⟨@Ev.ff_bk,⟨@Ev.ff_rt,@Ev.t_nm⟩⟩,⟨@Ev.t_tp,⟨@Ev.t_tl,@Ev.ts'_n⟩⟩⟩,⟨⟨@Ev.ts'_c,⟨@Ev.sl_0,@Ev.sl_s⟩⟩,⟨⟨@Ev.set_0,@Ev.set_s⟩,⟨@Ev.b_add,@Ev.b_adds⟩⟩⟩⟩,⟨⟨⟨@Ev.b_addl,⟨@Ev.b_sub,@Ev.b_muls⟩⟩,⟨@Ev.b_pow,⟨@Ev.x_t,@Ev.sl_l⟩⟩⟩,⟨⟨@Ev.sl_t,⟨@Ev.tr_n,@Ev.tr_b⟩⟩,⟨⟨@Ev.tr_i,@Ev.c_eq⟩,⟨@Ev.notB_k,@Ev.c_ne⟩⟩⟩⟩⟩⟩⟩⟩,⟨⟨⟨⟨⟨⟨⟨@Ev.e_ii,⟨@Ev.e_ss,@Ev.e_bb⟩⟩,⟨@Ev.e_nn,⟨@Ev.e_ni,@Ev.e_in⟩⟩⟩,⟨⟨@Ev.ej_nb,⟨@Ev.ej_ni,@Ev.ej_ns⟩⟩,⟨@Ev.ej_nt,⟨@Ev.ej_nl,@Ev.ej_bn⟩⟩⟩⟩,⟨⟨⟨@Ev.ej_bs,⟨@Ev.ej_bt,@Ev.ej_bl⟩⟩,⟨@Ev.ej_in,⟨@Ev.ej_is,@Ev.ej_it⟩⟩⟩,⟨⟨@Ev.ej_il,⟨@Ev.ej_sn,@Ev.ej_sb⟩⟩,⟨⟨@Ev.ej_si,@Ev.ej_st⟩,⟨@Ev.ej_sl,@Ev.ej_tn⟩⟩⟩⟩⟩,⟨⟨⟨⟨@Ev.ej_tb,⟨@Ev.ej_ti,@Ev.ej_ts⟩⟩,⟨@Ev.ej_tl,⟨@Ev.ej_ln,@Ev.ej_lb⟩⟩⟩,⟨⟨@Ev.ej_li,⟨@Ev.ej_ls,@Ev.ej_lt⟩⟩,⟨⟨@Ev.e_tt,@Ev.e_ll⟩,⟨@Ev.es_n,@Ev.andB_k⟩⟩⟩⟩,⟨⟨⟨@Ev.esK_k,⟨@Ev.es_c,@Ev.es_l⟩⟩,⟨@Ev.es_r,⟨@Ev.c_lt,@Ev.c_le⟩⟩⟩,⟨⟨@Ev.c_gt,⟨@Ev.c_ge,@Ev.c_ins⟩⟩,⟨⟨@Ev.c_nins,@Ev.c_inl⟩,⟨@Ev.c_ninl,@Ev.c_is⟩⟩⟩⟩⟩⟩,⟨⟨⟨⟨⟨@Ev.c_isn,⟨@Ev.n_n,@Ev.n_i⟩⟩,⟨@Ev.n_s,⟨@Ev.n_b,@Ev.n_t⟩⟩⟩,⟨⟨@Ev.n_l,⟨@Ev.c_int,@Ev.c_nint⟩⟩,⟨@Ev.an_n,⟨@Ev.orBB_k,@Ev.anK_k⟩⟩⟩⟩,⟨⟨⟨@Ev.an_c,⟨@Ev.bi_ls,@Ev.bi_lt⟩⟩,⟨@Ev.bi_ll,⟨@Ev.bi_min,@Ev.bi_max⟩⟩⟩,⟨⟨@Ev.bi_ord,⟨@Ev.bi_inti,@Ev.bi_intb⟩⟩,⟨⟨@Ev.bi_listl,@Ev.bi_lists⟩,⟨@Ev.bi_tups,@Ev.bi_sort⟩⟩⟩⟩⟩,⟨⟨⟨⟨@Ev.bi_listt,⟨@Ev.bi_abs,@Ev.bi_any⟩⟩,⟨@Ev.bi_all,⟨@Ev.mt_starts,@Ev.mt_index⟩⟩⟩,⟨⟨@Ev.str_t,⟨@Ev.isi_si,@Ev.isi_ii⟩⟩,⟨⟨@Ev.isi_bi,@Ev.isi_tt⟩,⟨@Ev.isj_strn,@Ev.isj_strb⟩⟩⟩⟩,⟨⟨⟨@Ev.isj_stri,⟨@Ev.isj_strs,@Ev.isj_strt⟩⟩,⟨@Ev.isj_strl,⟨@Ev.isj_intn,@Ev.isj_intb⟩⟩⟩,⟨⟨@Ev.isj_inti,⟨@Ev.isj_ints,@Ev.isj_intt⟩⟩,⟨⟨@Ev.isj_intl,@Ev.isj_booln⟩,⟨@Ev.isj_boolb,@Ev.isj_booli⟩⟩⟩⟩⟩⟩⟩,⟨⟨⟨⟨⟨⟨@Ev.isj_bools,⟨@Ev.isj_boolt,@Ev.isj_booll⟩⟩,⟨@Ev.isj_listn,⟨@Ev.isj_listb,@Ev.isj_listi⟩⟩⟩,⟨⟨@Ev.isj_lists,⟨@Ev.isj_listt,@Ev.isj_listl⟩⟩,⟨@Ev.isj_tuplen,⟨@Ev.isj_tupleb,@Ev.isj_tuplei⟩⟩⟩⟩,⟨⟨⟨@Ev.isj_tuples,⟨@Ev.isj_tuplet,@Ev.isj_tuplel⟩⟩,⟨@Ev.isi_ll,⟨@Ev.er_i,@Ev.er_s⟩⟩⟩,⟨⟨@Ev.er_b,⟨@Ev.er_n,@Ev.er_t⟩⟩,⟨⟨@Ev.er_l,@Ev.ers_n⟩,⟨@Ev.ers_c,@Ev.ers_ii⟩⟩⟩⟩⟩,⟨⟨⟨⟨@Ev.ers_ss,⟨@Ev.lfr_i,@Ev.lfr_s⟩⟩,⟨@Ev.lfr_b,⟨@Ev.lfr_n,@Ev.lfr_t⟩⟩⟩,⟨⟨@Ev.lfr_l,⟨@Ev.lfrs_n,@Ev.lfrs_c⟩⟩,⟨⟨@Ev.ret_nx,@Ev.ret_rt⟩,⟨@Ev.c_mulL,@Ev.c_mulR⟩⟩⟩⟩,⟨⟨⟨@Ev.c_fdiv,⟨@Ev.c_mod,@Ev.szOk_t⟩⟩,⟨@Ev.szLt_t,⟨@Ev.rngOk_t,@Ev.x_i⟩⟩⟩,⟨⟨@Ev.x_ss,⟨@Ev.x_c,@Ev.noX_k⟩⟩,⟨⟨@Ev.fz_t,@Ev.fz_n⟩,⟨@Ev.fz_f,@Ev.frz_n⟩⟩⟩⟩⟩⟩,⟨⟨⟨⟨⟨@Ev.frz_c,⟨@Ev.vr_c,@Ev.vr_g⟩⟩,⟨@Ev.vr_v,⟨@Ev.vr_bin,@Ev.vr_tup⟩⟩⟩,⟨⟨@Ev.vr_lst,⟨@Ev.vr_call,@Ev.vr_bi⟩⟩,⟨⟨@Ev.vr_idx,@Ev.vr_mth⟩,⟨@Ev.vrs_n,@Ev.vrs_c⟩⟩⟩⟩,⟨⟨⟨@Ev.nl_comp,⟨@Ev.nl_add,@Ev.nl_sl⟩⟩,⟨@Ev.nl_list,⟨@Ev.nl_v,@Ev.nl_idx⟩⟩⟩,⟨⟨@Ev.k_ll,⟨@Ev.k_tt,@cond_true.{1}⟩⟩,⟨⟨@cond_false.{1},@Ev.lf_i⟩,⟨@Ev.lf_s,@List.contains_cons.{0}⟩⟩⟩⟩⟩,⟨⟨⟨⟨@List.contains_nil.{0},⟨@Bool.or_false,@Bool.or_true⟩⟩,⟨@Bool.true_or,⟨@Bool.false_or,@List.map_cons.{0,0}⟩⟩⟩,⟨⟨@List.map_nil.{0,0},⟨@List.cons_append.{0},@List.nil_append.{0}⟩⟩,⟨⟨@List.replicate_succ.{0},@List.replicate_zero.{0}⟩,⟨@List.length_cons.{0},@List.length_nil.{0}⟩⟩⟩⟩,⟨⟨⟨@Nat.zero_add,⟨@decide_true,@Bool.and_self⟩⟩,⟨@Bool.not_true,⟨@Bool.not_false,@Bool.and_true⟩⟩⟩,⟨⟨@Bool.true_and,⟨@Bool.and_false,@Bool.false_and⟩⟩,⟨⟨@beq_self_eq_true.{0},@if_true.{1}⟩,⟨@if_false.{1},@Bool.false_eq_true⟩⟩⟩⟩⟩⟩⟩⟩⟩
end L2
namespace L2
open PySem
namespace Fr
noncomputable def bCell:List IS:=[(.if_ (.cmp .lt (.v 1) (.bi .len [(.v 0)])) [(.ret (.idx (.v 0) (.v 1)))] []),(.ret (.c (.int 0)))]
end Fr
end L2
namespace Law
open PySem L2
noncomputable def top (i:Nat):Stmt:=PySem.Challenge.pw_flagroll_k16_conditions_refused.main.body.getD i (.Pass ⟨0,0,0,0⟩)
noncomputable def Z:Sg:={nm:=(["SIGNS","WORDS","MOST_THINGS","GREATEST_TOLD","LONGEST_TOLD","is_whole","is_text_of","is_told_text","is_told_number","things_go","cond_checked","_law_cell_at","_law_stream","_law_names","_law_word","_law_told","_law_cond","_law_odd_thing","_law_spoiled","_law_told_right","_law_things_fit","_law_due","law","NoWord","NoGroup"]:List Str)++(["BadThings","NoSalt","NoFace","Twice","BadShare","TooMuch","NoLine","BadStage","BadOutcome","NoSwitch","NoRule","Unlike","ValueError","RollError"]:List Str),kst:=[(18,(.str "abcdefghijklmnopqrstuvwxyz0123456789")),(19,(.tup [(.str "is"),(.str "not"),(.str "begins"),(.str "least"),(.str "most"),(.str "has"),(.str "lacks"),(.str "in"),(.str "out")])),(20,(.int 10)),(21,(.int 999999999)),(22,(.int 8))],fns:=[23,24,25,26,27,28,29,30,31,32,33,34,35,36,37,38,39,40],cls:=[44,45,46,47,48,41,42,43,49,50,51,52,53,54,55],xt:=[(Str.ofString "NoWord",44,false),(Str.ofString "NoWord",45,false),(Str.ofString "NoWord",46,false),(Str.ofString "NoWord",47,false),(Str.ofString "NoWord",48,false),(Str.ofString "NoWord",41,true),(Str.ofString "NoWord",42,false),(Str.ofString "NoWord",43,false),(Str.ofString "NoWord",49,false),(Str.ofString "NoWord",50,false),(Str.ofString "NoWord",51,false),(Str.ofString "NoWord",52,false),(Str.ofString "NoWord",53,false),(Str.ofString "NoWord",54,false),(Str.ofString "NoWord",55,true),(Str.ofString "NoGroup",44,false),(Str.ofString "NoGroup",45,false),(Str.ofString "NoGroup",46,false),(Str.ofString "NoGroup",47,false),(Str.ofString "NoGroup",48,false),(Str.ofString "NoGroup",41,false),(Str.ofString "NoGroup",42,true),(Str.ofString "NoGroup",43,false),(Str.ofString "NoGroup",49,false),(Str.ofString "NoGroup",50,false),(Str.ofString "NoGroup",51,false),(Str.ofString "NoGroup",52,false),(Str.ofString "NoGroup",53,false),(Str.ofString "NoGroup",54,false),(Str.ofString "NoGroup",55,true),(Str.ofString "BadThings",44,false),(Str.ofString "BadThings",45,false),(Str.ofString "BadThings",46,false),(Str.ofString "BadThings",47,false),(Str.ofString "BadThings",48,false),(Str.ofString "BadThings",41,false),(Str.ofString "BadThings",42,false),(Str.ofString "BadThings",43,true),(Str.ofString "BadThings",49,false),(Str.ofString "BadThings",50,false),(Str.ofString "BadThings",51,false),(Str.ofString "BadThings",52,false),(Str.ofString "BadThings",53,false),(Str.ofString "BadThings",54,false),(Str.ofString "BadThings",55,true)],pl:=[32],rc:=[(41,"NoWord"),(42,"NoGroup"),(43,"BadThings")],xm:=[(Str.ofString "NoWord",56),(Str.ofString "NoGroup",56),(Str.ofString "BadThings",56)]}
noncomputable def b23:List IS:=
 [(.ret (.and_ (.isi (.v 0) .int) (.not_ (.isi (.v 0) .bool))))]
noncomputable def d23:Fn:={np:=1,G:={N:=["thing"],kd:=[.local],gl:=[14,8,16],df:=true},body:=b23}
noncomputable def b24:List IS:=
 [(.if_ (.not_ (.isi (.v 0) .str)) [(.ret (.c (.bl false)))] []),(.if_ (.not_ (.chain .le .le (.v 2) (.bi .len [(.v 0)]) (.v 3))) [(.ret (.c (.bl false)))] []),(.ret (.bi .all [(.comp {N:=["signs","sign"],kd:=[.cell,.local],gl:=[],df:=false} [1] (.nm 1) (.val (.v 0)) [] (.cmp .in_ (.v 1) (.v 0)))]))]
noncomputable def d24:Fn:={np:=4,G:={N:=["thing","signs","least","most"],kd:=[.local,.cell,.local,.local],gl:=[14,11,0,9],df:=true},body:=b24}
noncomputable def b25:List IS:=
 [(.ret (.call 24 [(.v 0),(.g 18 (.str "abcdefghijklmnopqrstuvwxyz0123456789")),(.v 1),(.g 22 (.int 8))]))]
noncomputable def d25:Fn:={np:=2,G:={N:=["thing","least"],kd:=[.local,.local],gl:=[24,18,22],df:=true},body:=b25}
noncomputable def b26:List IS:=
 [(.ret (.and_ (.call 23 [(.v 0)]) (.cmp .le (.bi .abs [(.v 0)]) (.g 21 (.int 999999999)))))]
noncomputable def d26:Fn:={np:=1,G:={N:=["thing"],kd:=[.local],gl:=[23,13,21],df:=true},body:=b26}
noncomputable def b27:List IS:=
 [(.if_ (.or_ (.cmp .eq (.v 0) (.c (.str "is"))) (.cmp .eq (.v 0) (.c (.str "not")))) [(.asg (.nm 2) (.comp {N:=["thing"],kd:=[.local],gl:=[25,26],df:=false} [] (.nm 0) (.val (.v 1)) [] (.or_ (.call 25 [(.v 0),(.c (.int 0))]) (.call 26 [(.v 0)])))),(.ret (.and_ (.chain .le .le (.c (.int 1)) (.bi .len [(.v 1)]) (.g 20 (.int 10))) (.bi .all [(.v 2)])))] []),(.if_ (.cmp .eq (.v 0) (.c (.str "begins"))) [(.ret (.and_ (.chain .le .le (.c (.int 1)) (.bi .len [(.v 1)]) (.g 20 (.int 10))) (.bi .all [(.comp {N:=["thing"],kd:=[.local],gl:=[25],df:=false} [] (.nm 0) (.val (.v 1)) [] (.call 25 [(.v 0),(.c (.int 1))]))])))] []),(.if_ (.or_ (.cmp .eq (.v 0) (.c (.str "least"))) (.cmp .eq (.v 0) (.c (.str "most")))) [(.ret (.and_ (.cmp .eq (.bi .len [(.v 1)]) (.c (.int 1))) (.call 26 [(.idx (.v 1) (.c (.int 0)))])))] []),(.ret (.cmp .eq (.v 1) (.lst [])))]
noncomputable def d27:Fn:={np:=2,G:={N:=["word","things","fits"],kd:=[.local,.local,.local],gl:=[0,20,9,26],df:=true},body:=b27}
noncomputable def b28:List IS:=
 [(.asg (.nm 2) (.idx (.v 0) (.c (.int 0)))),(.asg (.nm 3) (.idx (.v 0) (.c (.int 1)))),(.if_ (.cmp .nin (.v 3) (.g 19 (.tup [(.str "is"),(.str "not"),(.str "begins"),(.str "least"),(.str "most"),(.str "has"),(.str "lacks"),(.str "in"),(.str "out")]))) [(.raise_ 41 "NoWord" "a condition's word is none of the nine")] []),(.if_ (.and_ (.or_ (.cmp .eq (.v 3) (.c (.str "in"))) (.cmp .eq (.v 3) (.c (.str "out")))) (.cmp .nin (.v 2) (.v 1))) [(.raisee 42 "NoGroup" (.ftr "there is no group " (.v 2) none))] []),(.if_ (.not_ (.call 27 [(.v 3),(.idx (.v 0) (.c (.int 2)))])) [(.raisee 43 "BadThings" (.ftr "the things don't go with the word " (.v 3) none))] []),(.ret (.c (.bl true)))]
noncomputable def d28:Fn:={np:=2,G:={N:=["cond","names","name","word"],kd:=[.local,.local,.local,.local],gl:=[19,41,42,27,43],df:=true},body:=b28}
noncomputable def b29:List IS:=
 [(.if_ (.cmp .lt (.v 1) (.bi .len [(.v 0)])) [(.ret (.idx (.v 0) (.v 1)))] []),(.ret (.c (.int 0)))]
noncomputable def d29:Fn:={np:=2,G:={N:=["_law_script","_law_k"],kd:=[.local,.local],gl:=[0],df:=true},body:=b29}
noncomputable def b30:List IS:=
 [(.asg (.nm 2) (.lst [])),(.asg (.nm 3) (.bin .add (.bin .mod (.v 0) (.c (.int 2147483647))) (.c (.int 1)))),(.for_ (.nm 4) (.rng1 (.v 1)) [(.asg (.nm 3) (.bin .mod (.bin .add (.bin .add (.bin .mul (.v 3) (.c (.int 48271))) (.bin .mul (.bin .mul (.c (.int 7)) (.v 4)) (.v 4))) (.c (.int 3))) (.c (.int 2147483647)))),(.app 2 (.bin .fdiv (.v 3) (.c (.int 16))))]),(.ret (.v 2))]
noncomputable def d30:Fn:={np:=2,G:={N:=["_law_cell","_law_many","_law_found","_law_number","_law_k"],kd:=[.local,.local,.local,.local,.local],gl:=[15],df:=true},body:=b30}
noncomputable def b31:List IS:=
 [(.asg (.nm 2) (.c (.str "abcdefghijklmnopqrstuvwxyz"))),(.asg (.nm 3) (.mth .join (.c (.str "")) [(.comp {N:=["_law_abc","_law_number"],kd:=[.cell,.local],gl:=[],df:=false} [2] (.nm 1) (.val (.call 30 [(.bin .fdiv (.v 0) (.c (.int 3))),(.c (.int 8))])) [] (.idx (.v 0) (.bin .mod (.v 1) (.c (.int 26)))))])),(.if_ (.and_ (.cmp .eq (.bin .mod (.v 0) (.c (.int 3))) (.c (.int 1))) (.cmp .le (.v 1) (.c (.int 8)))) [(.ret (.comp {N:=["_law_base","_law_k"],kd:=[.cell,.local],gl:=[],df:=false} [3] (.nm 1) (.rng1 (.v 1)) [] (.sl (.v 0) none (some (.bin .add (.v 1) (.c (.int 1)))))))] []),(.asg (.nm 3) (.sl (.v 3) none (some (.bin .add (.c (.int 1)) (.bin .mod (.bin .fdiv (.v 0) (.c (.int 3))) (.c (.int 8))))))),(.asg (.nm 4) (.bin .mod (.bin .fdiv (.v 0) (.c (.int 24))) (.bi .len [(.v 3)]))),(.ret (.comp {N:=["_law_base","_law_at","_law_abc","_law_cell","_law_k"],kd:=[.cell,.cell,.cell,.cell,.local],gl:=[],df:=false} [3,4,2,0] (.nm 4) (.rng1 (.v 1)) [] (.bin .add (.bin .add (.sl (.v 0) none (some (.v 1))) (.idx (.v 2) (.bin .mod (.bin .add (.bin .fdiv (.v 3) (.c (.int 3))) (.bin .mul (.c (.int 7)) (.v 4))) (.c (.int 26))))) (.sl (.v 0) (some (.bin .add (.v 1) (.c (.int 1)))) none))))]
noncomputable def d31:Fn:={np:=2,G:={N:=["_law_cell","_law_many","_law_abc","_law_base","_law_at"],kd:=[.cell,.local,.cell,.cell,.cell],gl:=[30,15,0],df:=true},body:=b31}
noncomputable def b32:List IS:=
 [(.asg (.nm 1) (.lst [])),(.if_ (.isx (.v 0) [44] [(Str.ofString "NoWord",false),(Str.ofString "NoGroup",false),(Str.ofString "BadThings",false)]) [(.app 1 (.c (.str "salt")))] []),(.if_ (.isx (.v 0) [45] [(Str.ofString "NoWord",false),(Str.ofString "NoGroup",false),(Str.ofString "BadThings",false)]) [(.app 1 (.c (.str "face")))] []),(.if_ (.isx (.v 0) [46] [(Str.ofString "NoWord",false),(Str.ofString "NoGroup",false),(Str.ofString "BadThings",false)]) [(.app 1 (.c (.str "twice")))] []),(.if_ (.isx (.v 0) [47] [(Str.ofString "NoWord",false),(Str.ofString "NoGroup",false),(Str.ofString "BadThings",false)]) [(.app 1 (.c (.str "share")))] []),(.if_ (.isx (.v 0) [48] [(Str.ofString "NoWord",false),(Str.ofString "NoGroup",false),(Str.ofString "BadThings",false)]) [(.app 1 (.c (.str "much")))] []),(.if_ (.isx (.v 0) [41] [(Str.ofString "NoWord",true),(Str.ofString "NoGroup",false),(Str.ofString "BadThings",false)]) [(.app 1 (.c (.str "word")))] []),(.if_ (.isx (.v 0) [42] [(Str.ofString "NoWord",false),(Str.ofString "NoGroup",true),(Str.ofString "BadThings",false)]) [(.app 1 (.c (.str "group")))] []),(.if_ (.isx (.v 0) [43] [(Str.ofString "NoWord",false),(Str.ofString "NoGroup",false),(Str.ofString "BadThings",true)]) [(.app 1 (.c (.str "things")))] []),(.if_ (.isx (.v 0) [49] [(Str.ofString "NoWord",false),(Str.ofString "NoGroup",false),(Str.ofString "BadThings",false)]) [(.app 1 (.c (.str "line")))] []),(.if_ (.or_ (.isx (.v 0) [50,51] [(Str.ofString "NoWord",false),(Str.ofString "NoGroup",false),(Str.ofString "BadThings",false)]) (.or_ (.isx (.v 0) [52,53] [(Str.ofString "NoWord",false),(Str.ofString "NoGroup",false),(Str.ofString "BadThings",false)]) (.isx (.v 0) [54] [(Str.ofString "NoWord",false),(Str.ofString "NoGroup",false),(Str.ofString "BadThings",false)]))) [(.app 1 (.c (.str "other")))] []),(.if_ (.not_ (.isx (.v 0) [55] [(Str.ofString "NoWord",true),(Str.ofString "NoGroup",true),(Str.ofString "BadThings",true)])) [(.app 1 (.c (.str "base")))] []),(.ret (.mth .join (.c (.str "")) [(.v 1)]))]
noncomputable def d32:Fn:={np:=1,G:={N:=["_law_e","_law_words"],kd:=[.local,.local],gl:=[14,44,45,46,47,48,41,42,43,49,50,51,52,53,54,55],df:=true,cm:=false},body:=b32}
noncomputable def b33:List IS:=
 [(.asg (.nm 2) (.call 30 [(.v 0),(.c (.int 10))])),(.asg (.nm 3) (.c (.str "abcdefghijklmnopqrstuvwxyz0123456789"))),(.if_ (.or_ (.cmp .eq (.v 1) (.c (.str "number"))) (.and_ (.cmp .eq (.v 1) (.c (.str "any"))) (.cmp .eq (.bin .mod (.idx (.v 2) (.c (.int 0))) (.c (.int 3))) (.c (.int 0))))) [(.asg (.nm 4) (.idx (.lst [(.c (.int 4)),(.c (.int 999999999))]) (.bin .mod (.idx (.v 2) (.c (.int 1))) (.c (.int 2))))),(.ret (.idx (.lst [(.bin .sub (.bin .mod (.idx (.v 2) (.c (.int 2))) (.bin .add (.bin .mul (.c (.int 2)) (.v 4)) (.c (.int 1)))) (.v 4)),(.v 4),(.bin .sub (.c (.int 0)) (.v 4))]) (.bin .mod (.idx (.v 2) (.c (.int 3))) (.c (.int 3)))))] []),(.asg (.nm 5) (.mth .join (.c (.str "")) [(.comp {N:=["_law_signs","_law_xs","_law_number"],kd:=[.cell,.cell,.local],gl:=[],df:=false} [3,2] (.nm 2) (.val (.sl (.v 2) (some (.c (.int 2))) (some (.c (.int 10))))) [] (.idx (.v 0) (.bin .mod (.v 2) (.idx (.lst [(.c (.int 2)),(.c (.int 36))]) (.bin .fdiv (.bin .mod (.idx (.v 1) (.c (.int 1))) (.c (.int 4))) (.c (.int 3)))))))])),(.if_ (.cmp .eq (.v 1) (.c (.str "begins"))) [(.ret (.sl (.v 5) none (some (.bin .add (.c (.int 1)) (.bin .mod (.bin .fdiv (.idx (.v 2) (.c (.int 0))) (.c (.int 3))) (.idx (.lst [(.c (.int 3)),(.c (.int 8))]) (.bin .mod (.idx (.v 2) (.c (.int 2))) (.c (.int 2)))))))))] []),(.ret (.sl (.v 5) none (some (.bin .mod (.bin .fdiv (.idx (.v 2) (.c (.int 0))) (.c (.int 3))) (.idx (.lst [(.c (.int 4)),(.c (.int 9))]) (.bin .mod (.idx (.v 2) (.c (.int 2))) (.c (.int 2))))))))]
noncomputable def d33:Fn:={np:=2,G:={N:=["_law_cell","_law_kind","_law_xs","_law_signs","_law_far","_law_text"],kd:=[.local,.local,.cell,.cell,.local,.local],gl:=[30],df:=true},body:=b33}
noncomputable def b34:List IS:=
 [(.asg (.nm 3) (.lst [(.c (.str "is")),(.c (.str "not")),(.c (.str "begins")),(.c (.str "least")),(.c (.str "most")),(.c (.str "has")),(.c (.str "lacks")),(.c (.str "in")),(.c (.str "out"))])),(.asg (.nm 4) (.call 30 [(.v 0),(.c (.int 4))])),(.asg (.nm 5) (.idx (.v 3) (.bin .mod (.idx (.v 4) (.c (.int 0))) (.idx (.lst [(.c (.int 9)),(.c (.int 7))]) (.bi .int [(.cmp .eq (.v 2) (.lst []))]))))),(.asg (.nm 6) (.idx (.v 1) (.bin .mod (.idx (.v 4) (.c (.int 1))) (.bi .len [(.v 1)])))),(.if_ (.or_ (.cmp .eq (.v 5) (.c (.str "in"))) (.cmp .eq (.v 5) (.c (.str "out")))) [(.ret (.tup [(.idx (.v 2) (.bin .mod (.idx (.v 4) (.c (.int 1))) (.bi .len [(.v 2)]))),(.v 5),(.lst [])]))] []),(.if_ (.or_ (.cmp .eq (.v 5) (.c (.str "has"))) (.cmp .eq (.v 5) (.c (.str "lacks")))) [(.ret (.tup [(.v 6),(.v 5),(.lst [])]))] []),(.if_ (.or_ (.cmp .eq (.v 5) (.c (.str "least"))) (.cmp .eq (.v 5) (.c (.str "most")))) [(.ret (.tup [(.v 6),(.v 5),(.lst [(.call 33 [(.bin .fdiv (.v 0) (.c (.int 5))),(.c (.str "number"))])])]))] []),(.asg (.nm 7) (.idx (.lst [(.bin .add (.c (.int 1)) (.bin .mod (.idx (.v 4) (.c (.int 2))) (.c (.int 3)))),(.bin .add (.c (.int 1)) (.bin .mod (.idx (.v 4) (.c (.int 2))) (.c (.int 10))))]) (.bin .fdiv (.bin .mod (.idx (.v 4) (.c (.int 3))) (.c (.int 4))) (.c (.int 3))))),(.asg (.nm 8) (.idx (.lst [(.c (.str "any")),(.c (.str "begins"))]) (.bi .int [(.cmp .eq (.v 5) (.c (.str "begins")))]))),(.ret (.tup [(.v 6),(.v 5),(.comp {N:=["_law_cell","_law_kind","_law_k"],kd:=[.cell,.cell,.local],gl:=[33],df:=false} [0,8] (.nm 2) (.rng1 (.v 7)) [] (.call 33 [(.bin .add (.bin .fdiv (.v 0) (.c (.int 5))) (.bin .mul (.c (.int 31)) (.v 2))),(.v 1)]))]))]
noncomputable def d34:Fn:={np:=3,G:={N:=["_law_cell","_law_names_here","_law_groups","_law_words","_law_xs","_law_word_here","_law_name","_law_many","_law_kind"],kd:=[.cell,.local,.local,.local,.local,.local,.local,.local,.cell],gl:=[30,8,0,33,15],df:=true},body:=b34}
noncomputable def b35:List IS:=
 [(.asg (.nm 1) (.lst [(.c .non),(.c (.bl true)),(.c (.bl false)),(.lst [(.c (.int 1))]),(.tup [(.c (.str "a"))]),(.bin .pow (.c (.int 10)) (.c (.int 9))),(.bin .sub (.c (.int 0)) (.bin .pow (.c (.int 10)) (.c (.int 9)))),(.bin .pow (.c (.int 10)) (.c (.int 30)))])),(.asg (.nm 1) (.bin .add (.v 1) (.lst [(.c (.str "abcdefghi")),(.c (.str "a b")),(.c (.str "A")),(.c (.str ".")),(.c (.str "")),(.c (.str "a\n")),(.c (.str "-1"))]))),(.ret (.idx (.v 1) (.bin .mod (.v 0) (.c (.int 15)))))]
noncomputable def d35:Fn:={np:=1,G:={N:=["_law_cell","_law_some"],kd:=[.local,.local],gl:=[],df:=true},body:=b35}
noncomputable def b36:List IS:=
 [(.asg (.tp [(.nm 2),(.nm 3),(.nm 4)]) (.v 0)),(.asg (.nm 5) (.lst [(.c (.str "Is")),(.c (.str "")),(.c (.str "isnt")),(.c .non),(.c (.bl true)),(.c (.int 3)),(.lst [(.c (.str "is"))]),(.tup [(.c (.str "is"))]),(.c (.str "least ")),(.c (.str "among"))])),(.if_ (.cmp .eq (.bin .mod (.v 1) (.c (.int 9))) (.c (.int 0))) [(.asg (.nm 3) (.idx (.v 5) (.bin .mod (.bin .fdiv (.v 1) (.c (.int 9))) (.c (.int 10)))))] []),(.if_ (.cmp .eq (.bin .mod (.v 1) (.c (.int 9))) (.c (.int 1))) [(.asg (.nm 3) (.idx (.lst [(.c (.str "is")),(.c (.str "not")),(.c (.str "begins")),(.c (.str "least")),(.c (.str "most")),(.c (.str "has")),(.c (.str "lacks")),(.c (.str "in")),(.c (.str "out"))]) (.bin .mod (.bin .fdiv (.v 1) (.c (.int 9))) (.c (.int 9)))))] []),(.if_ (.cmp .eq (.bin .mod (.v 1) (.c (.int 9))) (.c (.int 2))) [(.asg (.nm 2) (.c (.str "strange")))] []),(.if_ (.cmp .eq (.bin .mod (.v 1) (.c (.int 9))) (.c (.int 3))) [(.asg (.nm 6) (.bin .mod (.bin .fdiv (.v 1) (.c (.int 9))) (.bin .add (.bi .len [(.v 4)]) (.c (.int 1))))),(.asg (.nm 4) (.bin .add (.bin .add (.sl (.v 4) none (some (.v 6))) (.lst [(.call 35 [(.bin .fdiv (.v 1) (.c (.int 99)))])])) (.sl (.v 4) (some (.v 6)) none)))] []),(.if_ (.cmp .eq (.bin .mod (.v 1) (.c (.int 9))) (.c (.int 4))) [(.asg (.nm 6) (.bin .mod (.bin .fdiv (.v 1) (.c (.int 9))) (.bin .add (.bi .len [(.v 4)]) (.c (.int 1))))),(.asg (.nm 4) (.bin .add (.bin .add (.sl (.v 4) none (some (.v 6))) (.lst [(.call 35 [(.bin .fdiv (.v 1) (.c (.int 99)))])])) (.sl (.v 4) (some (.bin .add (.v 6) (.c (.int 1)))) none)))] []),(.if_ (.cmp .eq (.bin .mod (.v 1) (.c (.int 9))) (.c (.int 5))) [(.asg (.nm 4) (.sl (.bin .mul (.v 4) (.c (.int 11))) none (some (.idx (.lst [(.c (.int 0)),(.c (.int 11)),(.c (.int 10)),(.c (.int 2))]) (.bin .mod (.bin .fdiv (.v 1) (.c (.int 9))) (.c (.int 4)))))))] []),(.ret (.tup [(.v 2),(.v 3),(.v 4)]))]
noncomputable def d36:Fn:={np:=2,G:={N:=["_law_cond_here","_law_cell","_law_name","_law_word_here","_law_things","_law_odd","_law_at"],kd:=[.local,.local,.local,.local,.local,.local,.local],gl:=[0,35],df:=true},body:=b36}
noncomputable def b37:List IS:=
 [(.if_ (.isi (.v 0) .bool) [(.ret (.c (.bl false)))] []),(.if_ (.isi (.v 0) .int) [(.ret (.and_ (.cmp .eq (.v 1) (.c (.int 0))) (.cmp .le (.bi .abs [(.v 0)]) (.c (.int 999999999)))))] []),(.if_ (.or_ (.not_ (.isi (.v 0) .str)) (.not_ (.chain .le .le (.v 1) (.bi .len [(.v 0)]) (.c (.int 8))))) [(.ret (.c (.bl false)))] []),(.ret (.cmp .eq (.comp {N:=["_law_sign"],kd:=[.local],gl:=[],df:=false} [] (.nm 0) (.val (.v 0)) [(.cmp .nin (.v 0) (.c (.str "abcdefghijklmnopqrstuvwxyz0123456789")))] (.v 0)) (.lst [])))]
noncomputable def d37:Fn:={np:=2,G:={N:=["_law_thing","_law_least"],kd:=[.local,.local],gl:=[14,16,8,13,11,0],df:=true},body:=b37}
noncomputable def b38:List IS:=
 [(.if_ (.cmp .in_ (.v 0) (.tup [(.c (.str "is")),(.c (.str "not")),(.c (.str "begins"))])) [(.asg (.nm 2) (.bi .int [(.cmp .eq (.v 0) (.c (.str "begins")))])),(.asg (.nm 3) (.comp {N:=["_law_least","_law_thing"],kd:=[.cell,.local],gl:=[37],df:=false} [2] (.nm 1) (.val (.v 1)) [(.not_ (.call 37 [(.v 1),(.v 0)]))] (.v 1))),(.ret (.and_ (.chain .le .le (.c (.int 1)) (.bi .len [(.v 1)]) (.c (.int 10))) (.cmp .eq (.v 3) (.lst []))))] []),(.if_ (.cmp .in_ (.v 0) (.tup [(.c (.str "least")),(.c (.str "most"))])) [(.asg (.nm 4) (.comp {N:=["_law_thing"],kd:=[.local],gl:=[14,11,37],df:=false} [] (.nm 0) (.val (.v 1)) [(.and_ (.not_ (.isi (.v 0) .str)) (.call 37 [(.v 0),(.c (.int 0))]))] (.v 0))),(.ret (.and_ (.cmp .eq (.bi .len [(.v 1)]) (.c (.int 1))) (.cmp .eq (.bi .len [(.v 4)]) (.c (.int 1)))))] []),(.ret (.cmp .eq (.v 1) (.lst [])))]
noncomputable def d38:Fn:={np:=2,G:={N:=["_law_word_here","_law_things","_law_least","_law_bad","_law_good"],kd:=[.local,.local,.cell,.local,.local],gl:=[8,0],df:=true},body:=b38}
noncomputable def b39:List IS:=
 [(.if_ (.cmp .nin (.idx (.v 0) (.c (.int 1))) (.tup [(.c (.str "is")),(.c (.str "not")),(.c (.str "begins")),(.c (.str "least")),(.c (.str "most")),(.c (.str "has")),(.c (.str "lacks")),(.c (.str "in")),(.c (.str "out"))])) [(.ret (.c (.str "word")))] []),(.if_ (.and_ (.cmp .in_ (.idx (.v 0) (.c (.int 1))) (.tup [(.c (.str "in")),(.c (.str "out"))])) (.cmp .nin (.idx (.v 0) (.c (.int 0))) (.v 1))) [(.ret (.c (.str "group")))] []),(.if_ (.not_ (.call 38 [(.idx (.v 0) (.c (.int 1))),(.idx (.v 0) (.c (.int 2)))])) [(.ret (.c (.str "things")))] []),(.ret (.c (.str "none")))]
noncomputable def d39:Fn:={np:=2,G:={N:=["_law_cond_here","_law_names_here"],kd:=[.local,.local],gl:=[38],df:=true},body:=b39}
noncomputable def b40:List IS:=
 [(.asg (.nm 1) (.call 31 [(.bin .fdiv (.call 29 [(.v 0),(.c (.int 0))]) (.c (.int 5))),(.c (.int 6))])),(.asg (.nm 2) (.sl (.sl (.v 1) (some (.c (.int 3))) none) none (some (.bin .mod (.call 29 [(.v 0),(.c (.int 1))]) (.c (.int 4)))))),(.for_ (.nm 3) (.rng1 (.c (.int 8))) [(.asg (.nm 4) (.bin .add (.call 29 [(.v 0),(.v 3)]) (.bin .mul (.c (.int 19)) (.v 3)))),(.asg (.nm 5) (.call 36 [(.call 34 [(.bin .fdiv (.v 4) (.c (.int 7))),(.sl (.v 1) none (some (.c (.int 3)))),(.v 2)]),(.v 4)])),(.asg (.nm 6) (.tup [(.idx (.v 5) (.c (.int 0))),(.idx (.v 5) (.c (.int 1))),(.bi .list [(.idx (.v 5) (.c (.int 2)))])])),(.asg (.nm 7) (.c (.str "none"))),(.asg (.nm 8) (.c .non)),(.tryc 8 28 [(.v 6),(.bi .list [(.v 2)])] 56 ["NoWord","NoGroup","BadThings"] 9 [(.asg (.nm 7) (.call 32 [(.v 9)]))]),(.if_ (.or_ (.cmp .ne (.v 7) (.call 39 [(.v 5),(.v 2)])) (.and_ (.cmp .eq (.v 7) (.c (.str "none"))) (.cmp .isn (.v 8) (.c (.bl true))))) [(.ret (.c (.bl false)))] []),(.if_ (.cmp .ne (.v 6) (.v 5)) [(.ret (.c (.bl false)))] [])]),(.ret (.c (.bl true)))]
noncomputable def d40:Fn:={np:=1,G:={N:=["_law_script","_law_names_here","_law_of","_law_k","_law_cell","_law_cond_here","_law_handed","_law_word_here","_law_found","_law_e"],kd:=[.local,.local,.local,.local,.local,.local,.local,.local,.local,.local],gl:=[31,29,15,36,34,5,56,28,32,39],df:=true,tr:=true},body:=b40}
noncomputable def T:Tb:=fun n=>match n with
 | 23=>some d23
 | 24=>some d24
 | 25=>some d25
 | 26=>some d26
 | 27=>some d27
 | 28=>some d28
 | 29=>some d29
 | 30=>some d30
 | 31=>some d31
 | 32=>some d32
 | 33=>some d33
 | 34=>some d34
 | 35=>some d35
 | 36=>some d36
 | 37=>some d37
 | 38=>some d38
 | 39=>some d39
 | 40=>some d40
 | _=>none
theorem c23:chkDef Z d23 ["thing"] (top 18)=true:=by decide +kernel
theorem c24:chkDef Z d24 ["thing","signs","least","most"] (top 19)=true:=by decide +kernel
theorem c25:chkDef Z d25 ["thing","least"] (top 25)=true:=by decide +kernel
theorem c26:chkDef Z d26 ["thing"] (top 26)=true:=by decide +kernel
theorem c27:chkDef Z d27 ["word","things"] (top 27)=true:=by decide +kernel
theorem c28:chkDef Z d28 ["cond","names"] (top 28)=true:=by decide +kernel
theorem c29:chkDef Z d29 ["_law_script","_law_k"] (top 30)=true:=by decide +kernel
theorem c30:chkDef Z d30 ["_law_cell","_law_many"] (top 31)=true:=by decide +kernel
theorem c31:chkDef Z d31 ["_law_cell","_law_many"] (top 32)=true:=by decide +kernel
theorem c32:chkDef Z d32 ["_law_e"] (top 33)=true:=by decide +kernel
theorem c33:chkDef Z d33 ["_law_cell","_law_kind"] (top 34)=true:=by decide +kernel
theorem c34:chkDef Z d34 ["_law_cell","_law_names_here","_law_groups"] (top 35)=true:=by decide +kernel
theorem c35:chkDef Z d35 ["_law_cell"] (top 36)=true:=by decide +kernel
theorem c36:chkDef Z d36 ["_law_cond_here","_law_cell"] (top 37)=true:=by decide +kernel
theorem c37:chkDef Z d37 ["_law_thing","_law_least"] (top 38)=true:=by decide +kernel
theorem c38:chkDef Z d38 ["_law_word_here","_law_things"] (top 39)=true:=by decide +kernel
theorem c39:chkDef Z d39 ["_law_cond_here","_law_names_here"] (top 40)=true:=by decide +kernel
theorem c40:chkDef Z d40 ["_law_script"] (top 41)=true:=by decide +kernel
theorem nam_ok:∀ n x,Z.name n=some x→x≠"__name__"∧(x == ("__debug__" : Str))=false:=by
 have h:(bnames++Z.nm).all (fun x=>!(x == "__name__") && !(x == "__debug__"))=true:=by decide +kernel
 intro n x hx
 have:=List.all_eq_true.mp h x (List.mem_of_getElem? hx)
 simpa using this
theorem ln1 {fd:FuncData} {ps:List Str} (h:∀ x0:Value,bindArgs fd ⟨[x0],[]⟩=pure (ps.zip [x0])) (us:List Value) (e:us.length=1):bindArgs fd ⟨us,[]⟩=pure (ps.zip us):=by
 match us,e with
 | [x0],_=>exact h x0
theorem ln2 {fd:FuncData} {ps:List Str} (h:∀ x0 x1:Value,bindArgs fd ⟨[x0,x1],[]⟩=pure (ps.zip [x0,x1])) (us:List Value) (e:us.length=2):bindArgs fd ⟨us,[]⟩=pure (ps.zip us):=by
 match us,e with
 | [x0,x1],_=>exact h x0 x1
theorem ln3 {fd:FuncData} {ps:List Str} (h:∀ x0 x1 x2:Value,bindArgs fd ⟨[x0,x1,x2],[]⟩=pure (ps.zip [x0,x1,x2])) (us:List Value) (e:us.length=3):bindArgs fd ⟨us,[]⟩=pure (ps.zip us):=by
 match us,e with
 | [x0,x1,x2],_=>exact h x0 x1 x2
theorem ln4 {fd:FuncData} {ps:List Str} (h:∀ x0 x1 x2 x3:Value,bindArgs fd ⟨[x0,x1,x2,x3],[]⟩=pure (ps.zip [x0,x1,x2,x3])) (us:List Value) (e:us.length=4):bindArgs fd ⟨us,[]⟩=pure (ps.zip us):=by
 match us,e with
 | [x0,x1,x2,x3],_=>exact h x0 x1 x2 x3
theorem top_mk {w41 w42 w43 w44 w45 w46 w47 w48 w49 w50 w51 w52 w53 w54 w56:Addr} {K:W.Frag} {h:Heap} {mg:Str→Option Value} {f23 f24 f25 f26 f27 f28 f29 f30 f31 f32 f33 f34 f35 f36 f37 f38 f39 f40:Addr} {od23 an23 od24 an24 od25 an25 od26 an26 od27 an27 od28 an28 od29 an29 od30 an30 od31 an31 od32 an32 od33 an33 od34 an34 od35 an35 od36 an36 od37 an37 od38 an38 od39 an39 od40 an40:Option Addr} {sl23 sl24 sl25 sl26 sl27 sl28 sl29 sl30 sl31 sl32 sl33 sl34 sl35 sl36 sl37 sl38 sl39 sl40:Array (Option Value)} {oc23 kV23 dc23 pm23 cd23 ct23 oc24 kV24 dc24 pm24 cd24 ct24 oc25 kV25 dc25 pm25 cd25 ct25 oc26 kV26 dc26 pm26 cd26 ct26 oc27 kV27 dc27 pm27 cd27 ct27 oc28 kV28 dc28 pm28 cd28 ct28 oc29 kV29 dc29 pm29 cd29 ct29 oc30 kV30 dc30 pm30 cd30 ct30 oc31 kV31 dc31 pm31 cd31 ct31 oc32 kV32 dc32 pm32 cd32 ct32 oc33 kV33 dc33 pm33 cd33 ct33 oc34 kV34 dc34 pm34 cd34 ct34 oc35 kV35 dc35 pm35 cd35 ct35 oc36 kV36 dc36 pm36 cd36 ct36 oc37 kV37 dc37 pm37 cd37 ct37 oc38 kV38 dc38 pm38 cd38 ct38 oc39 kV39 dc39 pm39 cd39 ct39 oc40 kV40 dc40 pm40 cd40 ct40:Value} {t18:Tok} {t20:Tok} {t21:Tok} {t22:Tok} {g19:Addr} {od19:Option Addr} {nn19:Nat} {sl19:Array (Option Value)} {u19_0 u19_1 u19_2 u19_3 u19_4 u19_5 u19_6 u19_7 u19_8:Tok} (X:K.In h) (G:h.Ns mainGlobals mg)
  (a23:W.nsIn K mainGlobals "is_whole" = some (some (.ref f23))) (l23:K.lookup f23=some ⟨oc23,od23,.func (W.fnOf "is_whole" "is_whole" (defArgs (top 18)) (defBody (top 18)) (defScope (top 18)) .none kV23 dc23 pm23 an23 cd23 ct23),sl23⟩) (e23:W.codeIn K cd23 "is_whole" = true) (k23:W.keepIn K (.ref f23)=true)
  (a24:W.nsIn K mainGlobals "is_text_of" = some (some (.ref f24))) (l24:K.lookup f24=some ⟨oc24,od24,.func (W.fnOf "is_text_of" "is_text_of" (defArgs (top 19)) (defBody (top 19)) (defScope (top 19)) .none kV24 dc24 pm24 an24 cd24 ct24),sl24⟩) (e24:W.codeIn K cd24 "is_text_of" = true) (k24:W.keepIn K (.ref f24)=true)
  (a25:W.nsIn K mainGlobals "is_told_text" = some (some (.ref f25))) (l25:K.lookup f25=some ⟨oc25,od25,.func (W.fnOf "is_told_text" "is_told_text" (defArgs (top 25)) (defBody (top 25)) (defScope (top 25)) .none kV25 dc25 pm25 an25 cd25 ct25),sl25⟩) (e25:W.codeIn K cd25 "is_told_text" = true) (k25:W.keepIn K (.ref f25)=true)
  (a26:W.nsIn K mainGlobals "is_told_number" = some (some (.ref f26))) (l26:K.lookup f26=some ⟨oc26,od26,.func (W.fnOf "is_told_number" "is_told_number" (defArgs (top 26)) (defBody (top 26)) (defScope (top 26)) .none kV26 dc26 pm26 an26 cd26 ct26),sl26⟩) (e26:W.codeIn K cd26 "is_told_number" = true) (k26:W.keepIn K (.ref f26)=true)
  (a27:W.nsIn K mainGlobals "things_go" = some (some (.ref f27))) (l27:K.lookup f27=some ⟨oc27,od27,.func (W.fnOf "things_go" "things_go" (defArgs (top 27)) (defBody (top 27)) (defScope (top 27)) .none kV27 dc27 pm27 an27 cd27 ct27),sl27⟩) (e27:W.codeIn K cd27 "things_go" = true) (k27:W.keepIn K (.ref f27)=true)
  (a28:W.nsIn K mainGlobals "cond_checked" = some (some (.ref f28))) (l28:K.lookup f28=some ⟨oc28,od28,.func (W.fnOf "cond_checked" "cond_checked" (defArgs (top 28)) (defBody (top 28)) (defScope (top 28)) .none kV28 dc28 pm28 an28 cd28 ct28),sl28⟩) (e28:W.codeIn K cd28 "cond_checked" = true) (k28:W.keepIn K (.ref f28)=true)
  (a29:W.nsIn K mainGlobals "_law_cell_at" = some (some (.ref f29))) (l29:K.lookup f29=some ⟨oc29,od29,.func (W.fnOf "_law_cell_at" "_law_cell_at" (defArgs (top 30)) (defBody (top 30)) (defScope (top 30)) .none kV29 dc29 pm29 an29 cd29 ct29),sl29⟩) (e29:W.codeIn K cd29 "_law_cell_at" = true) (k29:W.keepIn K (.ref f29)=true)
  (a30:W.nsIn K mainGlobals "_law_stream" = some (some (.ref f30))) (l30:K.lookup f30=some ⟨oc30,od30,.func (W.fnOf "_law_stream" "_law_stream" (defArgs (top 31)) (defBody (top 31)) (defScope (top 31)) .none kV30 dc30 pm30 an30 cd30 ct30),sl30⟩) (e30:W.codeIn K cd30 "_law_stream" = true) (k30:W.keepIn K (.ref f30)=true)
  (a31:W.nsIn K mainGlobals "_law_names" = some (some (.ref f31))) (l31:K.lookup f31=some ⟨oc31,od31,.func (W.fnOf "_law_names" "_law_names" (defArgs (top 32)) (defBody (top 32)) (defScope (top 32)) .none kV31 dc31 pm31 an31 cd31 ct31),sl31⟩) (e31:W.codeIn K cd31 "_law_names" = true) (k31:W.keepIn K (.ref f31)=true)
  (a32:W.nsIn K mainGlobals "_law_word" = some (some (.ref f32))) (l32:K.lookup f32=some ⟨oc32,od32,.func (W.fnOf "_law_word" "_law_word" (defArgs (top 33)) (defBody (top 33)) (defScope (top 33)) .none kV32 dc32 pm32 an32 cd32 ct32),sl32⟩) (e32:W.codeIn K cd32 "_law_word" = true) (k32:W.keepIn K (.ref f32)=true)
  (a33:W.nsIn K mainGlobals "_law_told" = some (some (.ref f33))) (l33:K.lookup f33=some ⟨oc33,od33,.func (W.fnOf "_law_told" "_law_told" (defArgs (top 34)) (defBody (top 34)) (defScope (top 34)) .none kV33 dc33 pm33 an33 cd33 ct33),sl33⟩) (e33:W.codeIn K cd33 "_law_told" = true) (k33:W.keepIn K (.ref f33)=true)
  (a34:W.nsIn K mainGlobals "_law_cond" = some (some (.ref f34))) (l34:K.lookup f34=some ⟨oc34,od34,.func (W.fnOf "_law_cond" "_law_cond" (defArgs (top 35)) (defBody (top 35)) (defScope (top 35)) .none kV34 dc34 pm34 an34 cd34 ct34),sl34⟩) (e34:W.codeIn K cd34 "_law_cond" = true) (k34:W.keepIn K (.ref f34)=true)
  (a35:W.nsIn K mainGlobals "_law_odd_thing" = some (some (.ref f35))) (l35:K.lookup f35=some ⟨oc35,od35,.func (W.fnOf "_law_odd_thing" "_law_odd_thing" (defArgs (top 36)) (defBody (top 36)) (defScope (top 36)) .none kV35 dc35 pm35 an35 cd35 ct35),sl35⟩) (e35:W.codeIn K cd35 "_law_odd_thing" = true) (k35:W.keepIn K (.ref f35)=true)
  (a36:W.nsIn K mainGlobals "_law_spoiled" = some (some (.ref f36))) (l36:K.lookup f36=some ⟨oc36,od36,.func (W.fnOf "_law_spoiled" "_law_spoiled" (defArgs (top 37)) (defBody (top 37)) (defScope (top 37)) .none kV36 dc36 pm36 an36 cd36 ct36),sl36⟩) (e36:W.codeIn K cd36 "_law_spoiled" = true) (k36:W.keepIn K (.ref f36)=true)
  (a37:W.nsIn K mainGlobals "_law_told_right" = some (some (.ref f37))) (l37:K.lookup f37=some ⟨oc37,od37,.func (W.fnOf "_law_told_right" "_law_told_right" (defArgs (top 38)) (defBody (top 38)) (defScope (top 38)) .none kV37 dc37 pm37 an37 cd37 ct37),sl37⟩) (e37:W.codeIn K cd37 "_law_told_right" = true) (k37:W.keepIn K (.ref f37)=true)
  (a38:W.nsIn K mainGlobals "_law_things_fit" = some (some (.ref f38))) (l38:K.lookup f38=some ⟨oc38,od38,.func (W.fnOf "_law_things_fit" "_law_things_fit" (defArgs (top 39)) (defBody (top 39)) (defScope (top 39)) .none kV38 dc38 pm38 an38 cd38 ct38),sl38⟩) (e38:W.codeIn K cd38 "_law_things_fit" = true) (k38:W.keepIn K (.ref f38)=true)
  (a39:W.nsIn K mainGlobals "_law_due" = some (some (.ref f39))) (l39:K.lookup f39=some ⟨oc39,od39,.func (W.fnOf "_law_due" "_law_due" (defArgs (top 40)) (defBody (top 40)) (defScope (top 40)) .none kV39 dc39 pm39 an39 cd39 ct39),sl39⟩) (e39:W.codeIn K cd39 "_law_due" = true) (k39:W.keepIn K (.ref f39)=true)
  (a40:W.nsIn K mainGlobals "law" = some (some (.ref f40))) (l40:K.lookup f40=some ⟨oc40,od40,.func (W.fnOf "law" "law" (defArgs (top 41)) (defBody (top 41)) (defScope (top 41)) .none kV40 dc40 pm40 an40 cd40 ct40),sl40⟩) (e40:W.codeIn K cd40 "law" = true) (k40:W.keepIn K (.ref f40)=true)
  (q18:W.nsIn K mainGlobals "SIGNS" = some (some (.str "abcdefghijklmnopqrstuvwxyz0123456789" t18)))
  (q19:W.nsIn K mainGlobals "WORDS" = some (some (.ref g19))) (r19:K.lookup g19=some ⟨.type "tuple",od19,.seq #[.str "is" u19_0,.str "not" u19_1,.str "begins" u19_2,.str "least" u19_3,.str "most" u19_4,.str "has" u19_5,.str "lacks" u19_6,.str "in" u19_7,.str "out" u19_8] nn19,sl19⟩)
  (q20:W.nsIn K mainGlobals "MOST_THINGS" = some (some (.int 10 t20)))
  (q21:W.nsIn K mainGlobals "GREATEST_TOLD" = some (some (.int 999999999 t21)))
  (q22:W.nsIn K mainGlobals "LONGEST_TOLD" = some (some (.int 8 t22)))
  (u41:W.nsIn K mainGlobals "NoWord" = some (some (.ref w41)))
  (u42:W.nsIn K mainGlobals "NoGroup" = some (some (.ref w42)))
  (u43:W.nsIn K mainGlobals "BadThings" = some (some (.ref w43)))
  (u44:W.nsIn K mainGlobals "NoSalt" = some (some (.ref w44)))
  (u45:W.nsIn K mainGlobals "NoFace" = some (some (.ref w45)))
  (u46:W.nsIn K mainGlobals "Twice" = some (some (.ref w46)))
  (u47:W.nsIn K mainGlobals "BadShare" = some (some (.ref w47)))
  (u48:W.nsIn K mainGlobals "TooMuch" = some (some (.ref w48)))
  (u49:W.nsIn K mainGlobals "NoLine" = some (some (.ref w49)))
  (u50:W.nsIn K mainGlobals "BadStage" = some (some (.ref w50)))
  (u51:W.nsIn K mainGlobals "BadOutcome" = some (some (.ref w51)))
  (u52:W.nsIn K mainGlobals "NoSwitch" = some (some (.ref w52)))
  (u53:W.nsIn K mainGlobals "NoRule" = some (some (.ref w53)))
  (u54:W.nsIn K mainGlobals "Unlike" = some (some (.ref w54)))
  (u56:W.nsIn K mainGlobals "RollError" = some (some (.ref w56)))
  (u55:W.nsIn K mainGlobals "ValueError" = some none)
  (vn41:nameIn K w41=some "NoWord")
  (vg41:W.findIn K (.ref w41) "__getattribute__" = some (some (.builtin "BaseException.__getattribute__")))
  (vo41:W.findIn K (.ref w41) "__getattr__" = some none)
  (vc41:W.findIn K (.ref w41) "__class__" = some (some (.builtin "object.__class__")))
  (vb41:W.mroIn K w41 (.type "BaseException")=some true)
  (vj41:W.mroIn K w41 (.type "object")=some true)
  (vi41:(W.clsIn K w41).isSome=true)
  (vx41:W.excIn K w41 bmV "ValueError.__new__" = true)
  (y41_44:W.kitOne K (.ref w41) (.ref w44)=some false)
  (y41_45:W.kitOne K (.ref w41) (.ref w45)=some false)
  (y41_46:W.kitOne K (.ref w41) (.ref w46)=some false)
  (y41_47:W.kitOne K (.ref w41) (.ref w47)=some false)
  (y41_48:W.kitOne K (.ref w41) (.ref w48)=some false)
  (y41_41:W.kitOne K (.ref w41) (.ref w41)=some true)
  (y41_42:W.kitOne K (.ref w41) (.ref w42)=some false)
  (y41_43:W.kitOne K (.ref w41) (.ref w43)=some false)
  (y41_49:W.kitOne K (.ref w41) (.ref w49)=some false)
  (y41_50:W.kitOne K (.ref w41) (.ref w50)=some false)
  (y41_51:W.kitOne K (.ref w41) (.ref w51)=some false)
  (y41_52:W.kitOne K (.ref w41) (.ref w52)=some false)
  (y41_53:W.kitOne K (.ref w41) (.ref w53)=some false)
  (y41_54:W.kitOne K (.ref w41) (.ref w54)=some false)
  (y41_55:W.kitOne K (.ref w41) (.type "ValueError")=some true)
  (m41_56:W.exmOne K (.ref w41) (.ref w56)=some true)
  (vn42:nameIn K w42=some "NoGroup")
  (vg42:W.findIn K (.ref w42) "__getattribute__" = some (some (.builtin "BaseException.__getattribute__")))
  (vo42:W.findIn K (.ref w42) "__getattr__" = some none)
  (vc42:W.findIn K (.ref w42) "__class__" = some (some (.builtin "object.__class__")))
  (vb42:W.mroIn K w42 (.type "BaseException")=some true)
  (vj42:W.mroIn K w42 (.type "object")=some true)
  (vi42:(W.clsIn K w42).isSome=true)
  (vx42:W.excIn K w42 bmV "ValueError.__new__" = true)
  (y42_44:W.kitOne K (.ref w42) (.ref w44)=some false)
  (y42_45:W.kitOne K (.ref w42) (.ref w45)=some false)
  (y42_46:W.kitOne K (.ref w42) (.ref w46)=some false)
  (y42_47:W.kitOne K (.ref w42) (.ref w47)=some false)
  (y42_48:W.kitOne K (.ref w42) (.ref w48)=some false)
  (y42_41:W.kitOne K (.ref w42) (.ref w41)=some false)
  (y42_42:W.kitOne K (.ref w42) (.ref w42)=some true)
  (y42_43:W.kitOne K (.ref w42) (.ref w43)=some false)
  (y42_49:W.kitOne K (.ref w42) (.ref w49)=some false)
  (y42_50:W.kitOne K (.ref w42) (.ref w50)=some false)
  (y42_51:W.kitOne K (.ref w42) (.ref w51)=some false)
  (y42_52:W.kitOne K (.ref w42) (.ref w52)=some false)
  (y42_53:W.kitOne K (.ref w42) (.ref w53)=some false)
  (y42_54:W.kitOne K (.ref w42) (.ref w54)=some false)
  (y42_55:W.kitOne K (.ref w42) (.type "ValueError")=some true)
  (m42_56:W.exmOne K (.ref w42) (.ref w56)=some true)
  (vn43:nameIn K w43=some "BadThings")
  (vg43:W.findIn K (.ref w43) "__getattribute__" = some (some (.builtin "BaseException.__getattribute__")))
  (vo43:W.findIn K (.ref w43) "__getattr__" = some none)
  (vc43:W.findIn K (.ref w43) "__class__" = some (some (.builtin "object.__class__")))
  (vb43:W.mroIn K w43 (.type "BaseException")=some true)
  (vj43:W.mroIn K w43 (.type "object")=some true)
  (vi43:(W.clsIn K w43).isSome=true)
  (vx43:W.excIn K w43 bmV "ValueError.__new__" = true)
  (y43_44:W.kitOne K (.ref w43) (.ref w44)=some false)
  (y43_45:W.kitOne K (.ref w43) (.ref w45)=some false)
  (y43_46:W.kitOne K (.ref w43) (.ref w46)=some false)
  (y43_47:W.kitOne K (.ref w43) (.ref w47)=some false)
  (y43_48:W.kitOne K (.ref w43) (.ref w48)=some false)
  (y43_41:W.kitOne K (.ref w43) (.ref w41)=some false)
  (y43_42:W.kitOne K (.ref w43) (.ref w42)=some false)
  (y43_43:W.kitOne K (.ref w43) (.ref w43)=some true)
  (y43_49:W.kitOne K (.ref w43) (.ref w49)=some false)
  (y43_50:W.kitOne K (.ref w43) (.ref w50)=some false)
  (y43_51:W.kitOne K (.ref w43) (.ref w51)=some false)
  (y43_52:W.kitOne K (.ref w43) (.ref w52)=some false)
  (y43_53:W.kitOne K (.ref w43) (.ref w53)=some false)
  (y43_54:W.kitOne K (.ref w43) (.ref w54)=some false)
  (y43_55:W.kitOne K (.ref w43) (.type "ValueError")=some true)
  (m43_56:W.exmOne K (.ref w43) (.ref w56)=some true)
  (z0:W.nsIn K mainGlobals "len" = some none)
  (z1:W.nsIn K mainGlobals "sum" = some none)
  (z2:W.nsIn K mainGlobals "min" = some none)
  (z3:W.nsIn K mainGlobals "max" = some none)
  (z4:W.nsIn K mainGlobals "sorted" = some none)
  (z5:W.nsIn K mainGlobals "list" = some none)
  (z6:W.nsIn K mainGlobals "tuple" = some none)
  (z7:W.nsIn K mainGlobals "ord" = some none)
  (z8:W.nsIn K mainGlobals "int" = some none)
  (z9:W.nsIn K mainGlobals "all" = some none)
  (z10:W.nsIn K mainGlobals "any" = some none)
  (z11:W.nsIn K mainGlobals "str" = some none)
  (z12:W.nsIn K mainGlobals "set" = some none)
  (z13:W.nsIn K mainGlobals "abs" = some none)
  (z14:W.nsIn K mainGlobals "isinstance" = some none)
  (z15:W.nsIn K mainGlobals "range" = some none)
  (z16:W.nsIn K mainGlobals "bool" = some none)
  (z17:W.nsIn K mainGlobals "zip" = some none):TopOk K mg Z T where
 nam:=nam_ok
 blt:=fun n x hx=>by
  have key:∀ y ∈ bnames,mg y=none:=by
   intro y hy
   simp only[bnames,List.mem_cons,List.not_mem_nil,or_false] at hy
   rcases hy with rfl | rfl | rfl | rfl | rfl | rfl | rfl | rfl | rfl | rfl | rfl | rfl | rfl | rfl | rfl | rfl | rfl | rfl
   ·exact W.mg_none_of X G z0
   ·exact W.mg_none_of X G z1
   ·exact W.mg_none_of X G z2
   ·exact W.mg_none_of X G z3
   ·exact W.mg_none_of X G z4
   ·exact W.mg_none_of X G z5
   ·exact W.mg_none_of X G z6
   ·exact W.mg_none_of X G z7
   ·exact W.mg_none_of X G z8
   ·exact W.mg_none_of X G z9
   ·exact W.mg_none_of X G z10
   ·exact W.mg_none_of X G z11
   ·exact W.mg_none_of X G z12
   ·exact W.mg_none_of X G z13
   ·exact W.mg_none_of X G z14
   ·exact W.mg_none_of X G z15
   ·exact W.mg_none_of X G z16
   ·exact W.mg_none_of X G z17
  exact key x (List.mem_of_getElem? hx)
 cst:=fun n d x hm hx=>by
  have hm':(n,d) ∈ ([(18,(.str "abcdefghijklmnopqrstuvwxyz0123456789")),(19,(.tup [(.str "is"),(.str "not"),(.str "begins"),(.str "least"),(.str "most"),(.str "has"),(.str "lacks"),(.str "in"),(.str "out")])),(20,(.int 10)),(21,(.int 999999999)),(22,(.int 8))]:List (Nat×D)):=hm
  simp only[List.mem_cons,List.not_mem_nil,or_false,Prod.mk.injEq] at hm'
  rcases hm' with ⟨rfl,rfl⟩ | ⟨rfl,rfl⟩ | ⟨rfl,rfl⟩ | ⟨rfl,rfl⟩ | ⟨rfl,rfl⟩
  ·cases hx;exact⟨_,.str _,PySem.W.mg_of X G q18,⟨_,rfl⟩,fun _ _=>.str _⟩
  ·cases hx;exact⟨_,.ref _,PySem.W.mg_of X G q19,rfl,fun _ _=>.tup (strs_in [("is",_),("not",_),("begins",_),("least",_),("most",_),("has",_),("lacks",_),("in",_),("out",_)] r19 (Nat.le_of_ble_eq_true rfl)) (.cons (.str _) (.cons (.str _) (.cons (.str _) (.cons (.str _) (.cons (.str _) (.cons (.str _) (.cons (.str _) (.cons (.str _) (.cons (.str _) .nil)))))))))⟩
  ·cases hx;exact⟨_,.int _,PySem.W.mg_of X G q20,⟨_,rfl⟩,fun _ _=>.int _⟩
  ·cases hx;exact⟨_,.int _,PySem.W.mg_of X G q21,⟨_,rfl⟩,fun _ _=>.int _⟩
  ·cases hx;exact⟨_,.int _,PySem.W.mg_of X G q22,⟨_,rfl⟩,fun _ _=>.int _⟩
 fns:=fun f hf x hx=>by
  have hf':f ∈ ([23,24,25,26,27,28,29,30,31,32,33,34,35,36,37,38,39,40]:List Nat):=hf
  simp only[List.mem_cons,List.not_mem_nil,or_false] at hf'
  rcases hf' with rfl | rfl | rfl | rfl | rfl | rfl | rfl | rfl | rfl | rfl | rfl | rfl | rfl | rfl | rfl | rfl | rfl | rfl
  ·cases hx;exact⟨d23,top 18,f23,_,["thing"],rfl,fun_mk (st:=top 18) l23 e23 k23,PySem.W.mg_of X G a23,(fun_mk (st:=top 18) l23 e23 k23).binds (fun _ _ _ _ _ _ us hl=>ln1 (fun _=>rfl) us hl),defSc_of c23⟩
  ·cases hx;exact⟨d24,top 19,f24,_,["thing","signs","least","most"],rfl,fun_mk (st:=top 19) l24 e24 k24,PySem.W.mg_of X G a24,(fun_mk (st:=top 19) l24 e24 k24).binds (fun _ _ _ _ _ _ us hl=>ln4 (fun _ _ _ _=>rfl) us hl),defSc_of c24⟩
  ·cases hx;exact⟨d25,top 25,f25,_,["thing","least"],rfl,fun_mk (st:=top 25) l25 e25 k25,PySem.W.mg_of X G a25,(fun_mk (st:=top 25) l25 e25 k25).binds (fun _ _ _ _ _ _ us hl=>ln2 (fun _ _=>rfl) us hl),defSc_of c25⟩
  ·cases hx;exact⟨d26,top 26,f26,_,["thing"],rfl,fun_mk (st:=top 26) l26 e26 k26,PySem.W.mg_of X G a26,(fun_mk (st:=top 26) l26 e26 k26).binds (fun _ _ _ _ _ _ us hl=>ln1 (fun _=>rfl) us hl),defSc_of c26⟩
  ·cases hx;exact⟨d27,top 27,f27,_,["word","things"],rfl,fun_mk (st:=top 27) l27 e27 k27,PySem.W.mg_of X G a27,(fun_mk (st:=top 27) l27 e27 k27).binds (fun _ _ _ _ _ _ us hl=>ln2 (fun _ _=>rfl) us hl),defSc_of c27⟩
  ·cases hx;exact⟨d28,top 28,f28,_,["cond","names"],rfl,fun_mk (st:=top 28) l28 e28 k28,PySem.W.mg_of X G a28,(fun_mk (st:=top 28) l28 e28 k28).binds (fun _ _ _ _ _ _ us hl=>ln2 (fun _ _=>rfl) us hl),defSc_of c28⟩
  ·cases hx;exact⟨d29,top 30,f29,_,["_law_script","_law_k"],rfl,fun_mk (st:=top 30) l29 e29 k29,PySem.W.mg_of X G a29,(fun_mk (st:=top 30) l29 e29 k29).binds (fun _ _ _ _ _ _ us hl=>ln2 (fun _ _=>rfl) us hl),defSc_of c29⟩
  ·cases hx;exact⟨d30,top 31,f30,_,["_law_cell","_law_many"],rfl,fun_mk (st:=top 31) l30 e30 k30,PySem.W.mg_of X G a30,(fun_mk (st:=top 31) l30 e30 k30).binds (fun _ _ _ _ _ _ us hl=>ln2 (fun _ _=>rfl) us hl),defSc_of c30⟩
  ·cases hx;exact⟨d31,top 32,f31,_,["_law_cell","_law_many"],rfl,fun_mk (st:=top 32) l31 e31 k31,PySem.W.mg_of X G a31,(fun_mk (st:=top 32) l31 e31 k31).binds (fun _ _ _ _ _ _ us hl=>ln2 (fun _ _=>rfl) us hl),defSc_of c31⟩
  ·cases hx;exact⟨d32,top 33,f32,_,["_law_e"],rfl,fun_mk (st:=top 33) l32 e32 k32,PySem.W.mg_of X G a32,(fun_mk (st:=top 33) l32 e32 k32).binds (fun _ _ _ _ _ _ us hl=>ln1 (fun _=>rfl) us hl),defSc_of c32⟩
  ·cases hx;exact⟨d33,top 34,f33,_,["_law_cell","_law_kind"],rfl,fun_mk (st:=top 34) l33 e33 k33,PySem.W.mg_of X G a33,(fun_mk (st:=top 34) l33 e33 k33).binds (fun _ _ _ _ _ _ us hl=>ln2 (fun _ _=>rfl) us hl),defSc_of c33⟩
  ·cases hx;exact⟨d34,top 35,f34,_,["_law_cell","_law_names_here","_law_groups"],rfl,fun_mk (st:=top 35) l34 e34 k34,PySem.W.mg_of X G a34,(fun_mk (st:=top 35) l34 e34 k34).binds (fun _ _ _ _ _ _ us hl=>ln3 (fun _ _ _=>rfl) us hl),defSc_of c34⟩
  ·cases hx;exact⟨d35,top 36,f35,_,["_law_cell"],rfl,fun_mk (st:=top 36) l35 e35 k35,PySem.W.mg_of X G a35,(fun_mk (st:=top 36) l35 e35 k35).binds (fun _ _ _ _ _ _ us hl=>ln1 (fun _=>rfl) us hl),defSc_of c35⟩
  ·cases hx;exact⟨d36,top 37,f36,_,["_law_cond_here","_law_cell"],rfl,fun_mk (st:=top 37) l36 e36 k36,PySem.W.mg_of X G a36,(fun_mk (st:=top 37) l36 e36 k36).binds (fun _ _ _ _ _ _ us hl=>ln2 (fun _ _=>rfl) us hl),defSc_of c36⟩
  ·cases hx;exact⟨d37,top 38,f37,_,["_law_thing","_law_least"],rfl,fun_mk (st:=top 38) l37 e37 k37,PySem.W.mg_of X G a37,(fun_mk (st:=top 38) l37 e37 k37).binds (fun _ _ _ _ _ _ us hl=>ln2 (fun _ _=>rfl) us hl),defSc_of c37⟩
  ·cases hx;exact⟨d38,top 39,f38,_,["_law_word_here","_law_things"],rfl,fun_mk (st:=top 39) l38 e38 k38,PySem.W.mg_of X G a38,(fun_mk (st:=top 39) l38 e38 k38).binds (fun _ _ _ _ _ _ us hl=>ln2 (fun _ _=>rfl) us hl),defSc_of c38⟩
  ·cases hx;exact⟨d39,top 40,f39,_,["_law_cond_here","_law_names_here"],rfl,fun_mk (st:=top 40) l39 e39 k39,PySem.W.mg_of X G a39,(fun_mk (st:=top 40) l39 e39 k39).binds (fun _ _ _ _ _ _ us hl=>ln2 (fun _ _=>rfl) us hl),defSc_of c39⟩
  ·cases hx;exact⟨d40,top 41,f40,_,["_law_script"],rfl,fun_mk (st:=top 41) l40 e40 k40,PySem.W.mg_of X G a40,(fun_mk (st:=top 41) l40 e40 k40).binds (fun _ _ _ _ _ _ us hl=>ln1 (fun _=>rfl) us hl),defSc_of c40⟩
 plc:=fun f hf fn e=>by
  have hf':f ∈ ([32]:List Nat):=hf
  simp only[List.mem_cons,List.not_mem_nil,or_false] at hf'
  rcases hf' with rfl
  ·cases e;rfl
 xcv:=fun n hn x hx=>by
  have hn':n ∈ ([44,45,46,47,48,41,42,43,49,50,51,52,53,54,55]:List Nat):=hn
  simp only[List.mem_cons,List.not_mem_nil,or_false] at hn'
  rcases hn' with rfl | rfl | rfl | rfl | rfl | rfl | rfl | rfl | rfl | rfl | rfl | rfl | rfl | rfl | rfl
  ·cases hx;exact⟨_,(.inl ⟨w44,rfl,PySem.W.mg_of X G u44⟩)⟩
  ·cases hx;exact⟨_,(.inl ⟨w45,rfl,PySem.W.mg_of X G u45⟩)⟩
  ·cases hx;exact⟨_,(.inl ⟨w46,rfl,PySem.W.mg_of X G u46⟩)⟩
  ·cases hx;exact⟨_,(.inl ⟨w47,rfl,PySem.W.mg_of X G u47⟩)⟩
  ·cases hx;exact⟨_,(.inl ⟨w48,rfl,PySem.W.mg_of X G u48⟩)⟩
  ·cases hx;exact⟨_,(.inl ⟨w41,rfl,PySem.W.mg_of X G u41⟩)⟩
  ·cases hx;exact⟨_,(.inl ⟨w42,rfl,PySem.W.mg_of X G u42⟩)⟩
  ·cases hx;exact⟨_,(.inl ⟨w43,rfl,PySem.W.mg_of X G u43⟩)⟩
  ·cases hx;exact⟨_,(.inl ⟨w49,rfl,PySem.W.mg_of X G u49⟩)⟩
  ·cases hx;exact⟨_,(.inl ⟨w50,rfl,PySem.W.mg_of X G u50⟩)⟩
  ·cases hx;exact⟨_,(.inl ⟨w51,rfl,PySem.W.mg_of X G u51⟩)⟩
  ·cases hx;exact⟨_,(.inl ⟨w52,rfl,PySem.W.mg_of X G u52⟩)⟩
  ·cases hx;exact⟨_,(.inl ⟨w53,rfl,PySem.W.mg_of X G u53⟩)⟩
  ·cases hx;exact⟨_,(.inl ⟨w54,rfl,PySem.W.mg_of X G u54⟩)⟩
  ·cases hx;exact⟨_,(.inr ⟨"ValueError",rfl,W.mg_none_of X G u55,by decide +kernel⟩)⟩
 xcl:=fun c n b x hm hx=>by
  have hm':(c,n,b) ∈ ([(Str.ofString "NoWord",44,false),(Str.ofString "NoWord",45,false),(Str.ofString "NoWord",46,false),(Str.ofString "NoWord",47,false),(Str.ofString "NoWord",48,false),(Str.ofString "NoWord",41,true),(Str.ofString "NoWord",42,false),(Str.ofString "NoWord",43,false),(Str.ofString "NoWord",49,false),(Str.ofString "NoWord",50,false),(Str.ofString "NoWord",51,false),(Str.ofString "NoWord",52,false),(Str.ofString "NoWord",53,false),(Str.ofString "NoWord",54,false),(Str.ofString "NoWord",55,true),(Str.ofString "NoGroup",44,false),(Str.ofString "NoGroup",45,false),(Str.ofString "NoGroup",46,false),(Str.ofString "NoGroup",47,false),(Str.ofString "NoGroup",48,false),(Str.ofString "NoGroup",41,false),(Str.ofString "NoGroup",42,true),(Str.ofString "NoGroup",43,false),(Str.ofString "NoGroup",49,false),(Str.ofString "NoGroup",50,false),(Str.ofString "NoGroup",51,false),(Str.ofString "NoGroup",52,false),(Str.ofString "NoGroup",53,false),(Str.ofString "NoGroup",54,false),(Str.ofString "NoGroup",55,true),(Str.ofString "BadThings",44,false),(Str.ofString "BadThings",45,false),(Str.ofString "BadThings",46,false),(Str.ofString "BadThings",47,false),(Str.ofString "BadThings",48,false),(Str.ofString "BadThings",41,false),(Str.ofString "BadThings",42,false),(Str.ofString "BadThings",43,true),(Str.ofString "BadThings",49,false),(Str.ofString "BadThings",50,false),(Str.ofString "BadThings",51,false),(Str.ofString "BadThings",52,false),(Str.ofString "BadThings",53,false),(Str.ofString "BadThings",54,false),(Str.ofString "BadThings",55,true)]:List (Str×Nat×Bool)):=hm
  simp only[List.mem_cons,List.not_mem_nil,or_false,Prod.mk.injEq] at hm'
  rcases hm' with ⟨rfl,rfl,rfl⟩ | ⟨rfl,rfl,rfl⟩ | ⟨rfl,rfl,rfl⟩ | ⟨rfl,rfl,rfl⟩ | ⟨rfl,rfl,rfl⟩ | ⟨rfl,rfl,rfl⟩ | ⟨rfl,rfl,rfl⟩ | ⟨rfl,rfl,rfl⟩ | ⟨rfl,rfl,rfl⟩ | ⟨rfl,rfl,rfl⟩ | ⟨rfl,rfl,rfl⟩ | ⟨rfl,rfl,rfl⟩ | ⟨rfl,rfl,rfl⟩ | ⟨rfl,rfl,rfl⟩ | ⟨rfl,rfl,rfl⟩ | ⟨rfl,rfl,rfl⟩ | ⟨rfl,rfl,rfl⟩ | ⟨rfl,rfl,rfl⟩ | ⟨rfl,rfl,rfl⟩ | ⟨rfl,rfl,rfl⟩ | ⟨rfl,rfl,rfl⟩ | ⟨rfl,rfl,rfl⟩ | ⟨rfl,rfl,rfl⟩ | ⟨rfl,rfl,rfl⟩ | ⟨rfl,rfl,rfl⟩ | ⟨rfl,rfl,rfl⟩ | ⟨rfl,rfl,rfl⟩ | ⟨rfl,rfl,rfl⟩ | ⟨rfl,rfl,rfl⟩ | ⟨rfl,rfl,rfl⟩ | ⟨rfl,rfl,rfl⟩ | ⟨rfl,rfl,rfl⟩ | ⟨rfl,rfl,rfl⟩ | ⟨rfl,rfl,rfl⟩ | ⟨rfl,rfl,rfl⟩ | ⟨rfl,rfl,rfl⟩ | ⟨rfl,rfl,rfl⟩ | ⟨rfl,rfl,rfl⟩ | ⟨rfl,rfl,rfl⟩ | ⟨rfl,rfl,rfl⟩ | ⟨rfl,rfl,rfl⟩ | ⟨rfl,rfl,rfl⟩ | ⟨rfl,rfl,rfl⟩ | ⟨rfl,rfl,rfl⟩ | ⟨rfl,rfl,rfl⟩
  ·cases hx;exact⟨w41,u41,⟨vg41,vo41,vc41,vb41,vj41,vi41⟩,fun v hv=>by rw[CVk.fn hv (.inl ⟨w44,rfl,PySem.W.mg_of X G u44⟩)];exact y41_44⟩
  ·cases hx;exact⟨w41,u41,⟨vg41,vo41,vc41,vb41,vj41,vi41⟩,fun v hv=>by rw[CVk.fn hv (.inl ⟨w45,rfl,PySem.W.mg_of X G u45⟩)];exact y41_45⟩
  ·cases hx;exact⟨w41,u41,⟨vg41,vo41,vc41,vb41,vj41,vi41⟩,fun v hv=>by rw[CVk.fn hv (.inl ⟨w46,rfl,PySem.W.mg_of X G u46⟩)];exact y41_46⟩
  ·cases hx;exact⟨w41,u41,⟨vg41,vo41,vc41,vb41,vj41,vi41⟩,fun v hv=>by rw[CVk.fn hv (.inl ⟨w47,rfl,PySem.W.mg_of X G u47⟩)];exact y41_47⟩
  ·cases hx;exact⟨w41,u41,⟨vg41,vo41,vc41,vb41,vj41,vi41⟩,fun v hv=>by rw[CVk.fn hv (.inl ⟨w48,rfl,PySem.W.mg_of X G u48⟩)];exact y41_48⟩
  ·cases hx;exact⟨w41,u41,⟨vg41,vo41,vc41,vb41,vj41,vi41⟩,fun v hv=>by rw[CVk.fn hv (.inl ⟨w41,rfl,PySem.W.mg_of X G u41⟩)];exact y41_41⟩
  ·cases hx;exact⟨w41,u41,⟨vg41,vo41,vc41,vb41,vj41,vi41⟩,fun v hv=>by rw[CVk.fn hv (.inl ⟨w42,rfl,PySem.W.mg_of X G u42⟩)];exact y41_42⟩
  ·cases hx;exact⟨w41,u41,⟨vg41,vo41,vc41,vb41,vj41,vi41⟩,fun v hv=>by rw[CVk.fn hv (.inl ⟨w43,rfl,PySem.W.mg_of X G u43⟩)];exact y41_43⟩
  ·cases hx;exact⟨w41,u41,⟨vg41,vo41,vc41,vb41,vj41,vi41⟩,fun v hv=>by rw[CVk.fn hv (.inl ⟨w49,rfl,PySem.W.mg_of X G u49⟩)];exact y41_49⟩
  ·cases hx;exact⟨w41,u41,⟨vg41,vo41,vc41,vb41,vj41,vi41⟩,fun v hv=>by rw[CVk.fn hv (.inl ⟨w50,rfl,PySem.W.mg_of X G u50⟩)];exact y41_50⟩
  ·cases hx;exact⟨w41,u41,⟨vg41,vo41,vc41,vb41,vj41,vi41⟩,fun v hv=>by rw[CVk.fn hv (.inl ⟨w51,rfl,PySem.W.mg_of X G u51⟩)];exact y41_51⟩
  ·cases hx;exact⟨w41,u41,⟨vg41,vo41,vc41,vb41,vj41,vi41⟩,fun v hv=>by rw[CVk.fn hv (.inl ⟨w52,rfl,PySem.W.mg_of X G u52⟩)];exact y41_52⟩
  ·cases hx;exact⟨w41,u41,⟨vg41,vo41,vc41,vb41,vj41,vi41⟩,fun v hv=>by rw[CVk.fn hv (.inl ⟨w53,rfl,PySem.W.mg_of X G u53⟩)];exact y41_53⟩
  ·cases hx;exact⟨w41,u41,⟨vg41,vo41,vc41,vb41,vj41,vi41⟩,fun v hv=>by rw[CVk.fn hv (.inl ⟨w54,rfl,PySem.W.mg_of X G u54⟩)];exact y41_54⟩
  ·cases hx;exact⟨w41,u41,⟨vg41,vo41,vc41,vb41,vj41,vi41⟩,fun v hv=>by rw[CVk.fn hv (.inr ⟨"ValueError",rfl,W.mg_none_of X G u55,by decide +kernel⟩)];exact y41_55⟩
  ·cases hx;exact⟨w42,u42,⟨vg42,vo42,vc42,vb42,vj42,vi42⟩,fun v hv=>by rw[CVk.fn hv (.inl ⟨w44,rfl,PySem.W.mg_of X G u44⟩)];exact y42_44⟩
  ·cases hx;exact⟨w42,u42,⟨vg42,vo42,vc42,vb42,vj42,vi42⟩,fun v hv=>by rw[CVk.fn hv (.inl ⟨w45,rfl,PySem.W.mg_of X G u45⟩)];exact y42_45⟩
  ·cases hx;exact⟨w42,u42,⟨vg42,vo42,vc42,vb42,vj42,vi42⟩,fun v hv=>by rw[CVk.fn hv (.inl ⟨w46,rfl,PySem.W.mg_of X G u46⟩)];exact y42_46⟩
  ·cases hx;exact⟨w42,u42,⟨vg42,vo42,vc42,vb42,vj42,vi42⟩,fun v hv=>by rw[CVk.fn hv (.inl ⟨w47,rfl,PySem.W.mg_of X G u47⟩)];exact y42_47⟩
  ·cases hx;exact⟨w42,u42,⟨vg42,vo42,vc42,vb42,vj42,vi42⟩,fun v hv=>by rw[CVk.fn hv (.inl ⟨w48,rfl,PySem.W.mg_of X G u48⟩)];exact y42_48⟩
  ·cases hx;exact⟨w42,u42,⟨vg42,vo42,vc42,vb42,vj42,vi42⟩,fun v hv=>by rw[CVk.fn hv (.inl ⟨w41,rfl,PySem.W.mg_of X G u41⟩)];exact y42_41⟩
  ·cases hx;exact⟨w42,u42,⟨vg42,vo42,vc42,vb42,vj42,vi42⟩,fun v hv=>by rw[CVk.fn hv (.inl ⟨w42,rfl,PySem.W.mg_of X G u42⟩)];exact y42_42⟩
  ·cases hx;exact⟨w42,u42,⟨vg42,vo42,vc42,vb42,vj42,vi42⟩,fun v hv=>by rw[CVk.fn hv (.inl ⟨w43,rfl,PySem.W.mg_of X G u43⟩)];exact y42_43⟩
  ·cases hx;exact⟨w42,u42,⟨vg42,vo42,vc42,vb42,vj42,vi42⟩,fun v hv=>by rw[CVk.fn hv (.inl ⟨w49,rfl,PySem.W.mg_of X G u49⟩)];exact y42_49⟩
  ·cases hx;exact⟨w42,u42,⟨vg42,vo42,vc42,vb42,vj42,vi42⟩,fun v hv=>by rw[CVk.fn hv (.inl ⟨w50,rfl,PySem.W.mg_of X G u50⟩)];exact y42_50⟩
  ·cases hx;exact⟨w42,u42,⟨vg42,vo42,vc42,vb42,vj42,vi42⟩,fun v hv=>by rw[CVk.fn hv (.inl ⟨w51,rfl,PySem.W.mg_of X G u51⟩)];exact y42_51⟩
  ·cases hx;exact⟨w42,u42,⟨vg42,vo42,vc42,vb42,vj42,vi42⟩,fun v hv=>by rw[CVk.fn hv (.inl ⟨w52,rfl,PySem.W.mg_of X G u52⟩)];exact y42_52⟩
  ·cases hx;exact⟨w42,u42,⟨vg42,vo42,vc42,vb42,vj42,vi42⟩,fun v hv=>by rw[CVk.fn hv (.inl ⟨w53,rfl,PySem.W.mg_of X G u53⟩)];exact y42_53⟩
  ·cases hx;exact⟨w42,u42,⟨vg42,vo42,vc42,vb42,vj42,vi42⟩,fun v hv=>by rw[CVk.fn hv (.inl ⟨w54,rfl,PySem.W.mg_of X G u54⟩)];exact y42_54⟩
  ·cases hx;exact⟨w42,u42,⟨vg42,vo42,vc42,vb42,vj42,vi42⟩,fun v hv=>by rw[CVk.fn hv (.inr ⟨"ValueError",rfl,W.mg_none_of X G u55,by decide +kernel⟩)];exact y42_55⟩
  ·cases hx;exact⟨w43,u43,⟨vg43,vo43,vc43,vb43,vj43,vi43⟩,fun v hv=>by rw[CVk.fn hv (.inl ⟨w44,rfl,PySem.W.mg_of X G u44⟩)];exact y43_44⟩
  ·cases hx;exact⟨w43,u43,⟨vg43,vo43,vc43,vb43,vj43,vi43⟩,fun v hv=>by rw[CVk.fn hv (.inl ⟨w45,rfl,PySem.W.mg_of X G u45⟩)];exact y43_45⟩
  ·cases hx;exact⟨w43,u43,⟨vg43,vo43,vc43,vb43,vj43,vi43⟩,fun v hv=>by rw[CVk.fn hv (.inl ⟨w46,rfl,PySem.W.mg_of X G u46⟩)];exact y43_46⟩
  ·cases hx;exact⟨w43,u43,⟨vg43,vo43,vc43,vb43,vj43,vi43⟩,fun v hv=>by rw[CVk.fn hv (.inl ⟨w47,rfl,PySem.W.mg_of X G u47⟩)];exact y43_47⟩
  ·cases hx;exact⟨w43,u43,⟨vg43,vo43,vc43,vb43,vj43,vi43⟩,fun v hv=>by rw[CVk.fn hv (.inl ⟨w48,rfl,PySem.W.mg_of X G u48⟩)];exact y43_48⟩
  ·cases hx;exact⟨w43,u43,⟨vg43,vo43,vc43,vb43,vj43,vi43⟩,fun v hv=>by rw[CVk.fn hv (.inl ⟨w41,rfl,PySem.W.mg_of X G u41⟩)];exact y43_41⟩
  ·cases hx;exact⟨w43,u43,⟨vg43,vo43,vc43,vb43,vj43,vi43⟩,fun v hv=>by rw[CVk.fn hv (.inl ⟨w42,rfl,PySem.W.mg_of X G u42⟩)];exact y43_42⟩
  ·cases hx;exact⟨w43,u43,⟨vg43,vo43,vc43,vb43,vj43,vi43⟩,fun v hv=>by rw[CVk.fn hv (.inl ⟨w43,rfl,PySem.W.mg_of X G u43⟩)];exact y43_43⟩
  ·cases hx;exact⟨w43,u43,⟨vg43,vo43,vc43,vb43,vj43,vi43⟩,fun v hv=>by rw[CVk.fn hv (.inl ⟨w49,rfl,PySem.W.mg_of X G u49⟩)];exact y43_49⟩
  ·cases hx;exact⟨w43,u43,⟨vg43,vo43,vc43,vb43,vj43,vi43⟩,fun v hv=>by rw[CVk.fn hv (.inl ⟨w50,rfl,PySem.W.mg_of X G u50⟩)];exact y43_50⟩
  ·cases hx;exact⟨w43,u43,⟨vg43,vo43,vc43,vb43,vj43,vi43⟩,fun v hv=>by rw[CVk.fn hv (.inl ⟨w51,rfl,PySem.W.mg_of X G u51⟩)];exact y43_51⟩
  ·cases hx;exact⟨w43,u43,⟨vg43,vo43,vc43,vb43,vj43,vi43⟩,fun v hv=>by rw[CVk.fn hv (.inl ⟨w52,rfl,PySem.W.mg_of X G u52⟩)];exact y43_52⟩
  ·cases hx;exact⟨w43,u43,⟨vg43,vo43,vc43,vb43,vj43,vi43⟩,fun v hv=>by rw[CVk.fn hv (.inl ⟨w53,rfl,PySem.W.mg_of X G u53⟩)];exact y43_53⟩
  ·cases hx;exact⟨w43,u43,⟨vg43,vo43,vc43,vb43,vj43,vi43⟩,fun v hv=>by rw[CVk.fn hv (.inl ⟨w54,rfl,PySem.W.mg_of X G u54⟩)];exact y43_54⟩
  ·cases hx;exact⟨w43,u43,⟨vg43,vo43,vc43,vb43,vj43,vi43⟩,fun v hv=>by rw[CVk.fn hv (.inr ⟨"ValueError",rfl,W.mg_none_of X G u55,by decide +kernel⟩)];exact y43_55⟩
 xmt:=fun c n x hm hx=>by
  have hm':(c,n) ∈ ([(Str.ofString "NoWord",56),(Str.ofString "NoGroup",56),(Str.ofString "BadThings",56)]:List (Str×Nat)):=hm
  simp only[List.mem_cons,List.not_mem_nil,or_false,Prod.mk.injEq] at hm'
  rcases hm' with ⟨rfl,rfl⟩ | ⟨rfl,rfl⟩ | ⟨rfl,rfl⟩
  ·cases hx;exact⟨w41,w56,u41,u56,vn41,PySem.W.mg_of X G u56,m41_56⟩
  ·cases hx;exact⟨w42,w56,u42,u56,vn42,PySem.W.mg_of X G u56,m42_56⟩
  ·cases hx;exact⟨w43,w56,u43,u56,vn43,PySem.W.mg_of X G u56,m43_56⟩
 xrs:=fun n c hm=>by
  have hm':(n,c) ∈ ([(41,"NoWord"),(42,"NoGroup"),(43,"BadThings")]:List (Nat×Str)):=hm
  simp only[List.mem_cons,List.not_mem_nil,or_false,Prod.mk.injEq] at hm'
  rcases hm' with ⟨rfl,rfl⟩ | ⟨rfl,rfl⟩ | ⟨rfl,rfl⟩
  ·exact⟨rfl,w41,PySem.W.mg_of X G u41,u41,vx41⟩
  ·exact⟨rfl,w42,PySem.W.mg_of X G u42,u42,vx42⟩
  ·exact⟨rfl,w43,PySem.W.mg_of X G u43,u43,vx43⟩
noncomputable def lawN:Nat:=40
noncomputable def lawX:Str:="_law_script"
theorem all_mk {l:PySem.W.OpenLaw} {w:World} {fa:Addr} {w41 w42 w43 w44 w45 w46 w47 w48 w49 w50 w51 w52 w53 w54 w56:Addr} {K:W.Frag} {h:Heap} {mg:Str→Option Value} {f23 f24 f25 f26 f27 f28 f29 f30 f31 f32 f33 f34 f35 f36 f37 f38 f39 f40:Addr} {od23 an23 od24 an24 od25 an25 od26 an26 od27 an27 od28 an28 od29 an29 od30 an30 od31 an31 od32 an32 od33 an33 od34 an34 od35 an35 od36 an36 od37 an37 od38 an38 od39 an39 od40 an40:Option Addr} {sl23 sl24 sl25 sl26 sl27 sl28 sl29 sl30 sl31 sl32 sl33 sl34 sl35 sl36 sl37 sl38 sl39 sl40:Array (Option Value)} {oc23 kV23 dc23 pm23 cd23 ct23 oc24 kV24 dc24 pm24 cd24 ct24 oc25 kV25 dc25 pm25 cd25 ct25 oc26 kV26 dc26 pm26 cd26 ct26 oc27 kV27 dc27 pm27 cd27 ct27 oc28 kV28 dc28 pm28 cd28 ct28 oc29 kV29 dc29 pm29 cd29 ct29 oc30 kV30 dc30 pm30 cd30 ct30 oc31 kV31 dc31 pm31 cd31 ct31 oc32 kV32 dc32 pm32 cd32 ct32 oc33 kV33 dc33 pm33 cd33 ct33 oc34 kV34 dc34 pm34 cd34 ct34 oc35 kV35 dc35 pm35 cd35 ct35 oc36 kV36 dc36 pm36 cd36 ct36 oc37 kV37 dc37 pm37 cd37 ct37 oc38 kV38 dc38 pm38 cd38 ct38 oc39 kV39 dc39 pm39 cd39 ct39 oc40 kV40 dc40 pm40 cd40 ct40:Value} {t18:Tok} {t20:Tok} {t21:Tok} {t22:Tok} {g19:Addr} {od19:Option Addr} {nn19:Nat} {sl19:Array (Option Value)} {u19_0 u19_1 u19_2 u19_3 u19_4 u19_5 u19_6 u19_7 u19_8:Tok} (X:K.In h) (G:h.Ns mainGlobals mg) (hfa:mg "law" = some (.ref fa))
  (a23:W.nsIn K mainGlobals "is_whole" = some (some (.ref f23))) (l23:K.lookup f23=some ⟨oc23,od23,.func (W.fnOf "is_whole" "is_whole" (defArgs (top 18)) (defBody (top 18)) (defScope (top 18)) .none kV23 dc23 pm23 an23 cd23 ct23),sl23⟩) (e23:W.codeIn K cd23 "is_whole" = true) (k23:W.keepIn K (.ref f23)=true)
  (a24:W.nsIn K mainGlobals "is_text_of" = some (some (.ref f24))) (l24:K.lookup f24=some ⟨oc24,od24,.func (W.fnOf "is_text_of" "is_text_of" (defArgs (top 19)) (defBody (top 19)) (defScope (top 19)) .none kV24 dc24 pm24 an24 cd24 ct24),sl24⟩) (e24:W.codeIn K cd24 "is_text_of" = true) (k24:W.keepIn K (.ref f24)=true)
  (a25:W.nsIn K mainGlobals "is_told_text" = some (some (.ref f25))) (l25:K.lookup f25=some ⟨oc25,od25,.func (W.fnOf "is_told_text" "is_told_text" (defArgs (top 25)) (defBody (top 25)) (defScope (top 25)) .none kV25 dc25 pm25 an25 cd25 ct25),sl25⟩) (e25:W.codeIn K cd25 "is_told_text" = true) (k25:W.keepIn K (.ref f25)=true)
  (a26:W.nsIn K mainGlobals "is_told_number" = some (some (.ref f26))) (l26:K.lookup f26=some ⟨oc26,od26,.func (W.fnOf "is_told_number" "is_told_number" (defArgs (top 26)) (defBody (top 26)) (defScope (top 26)) .none kV26 dc26 pm26 an26 cd26 ct26),sl26⟩) (e26:W.codeIn K cd26 "is_told_number" = true) (k26:W.keepIn K (.ref f26)=true)
  (a27:W.nsIn K mainGlobals "things_go" = some (some (.ref f27))) (l27:K.lookup f27=some ⟨oc27,od27,.func (W.fnOf "things_go" "things_go" (defArgs (top 27)) (defBody (top 27)) (defScope (top 27)) .none kV27 dc27 pm27 an27 cd27 ct27),sl27⟩) (e27:W.codeIn K cd27 "things_go" = true) (k27:W.keepIn K (.ref f27)=true)
  (a28:W.nsIn K mainGlobals "cond_checked" = some (some (.ref f28))) (l28:K.lookup f28=some ⟨oc28,od28,.func (W.fnOf "cond_checked" "cond_checked" (defArgs (top 28)) (defBody (top 28)) (defScope (top 28)) .none kV28 dc28 pm28 an28 cd28 ct28),sl28⟩) (e28:W.codeIn K cd28 "cond_checked" = true) (k28:W.keepIn K (.ref f28)=true)
  (a29:W.nsIn K mainGlobals "_law_cell_at" = some (some (.ref f29))) (l29:K.lookup f29=some ⟨oc29,od29,.func (W.fnOf "_law_cell_at" "_law_cell_at" (defArgs (top 30)) (defBody (top 30)) (defScope (top 30)) .none kV29 dc29 pm29 an29 cd29 ct29),sl29⟩) (e29:W.codeIn K cd29 "_law_cell_at" = true) (k29:W.keepIn K (.ref f29)=true)
  (a30:W.nsIn K mainGlobals "_law_stream" = some (some (.ref f30))) (l30:K.lookup f30=some ⟨oc30,od30,.func (W.fnOf "_law_stream" "_law_stream" (defArgs (top 31)) (defBody (top 31)) (defScope (top 31)) .none kV30 dc30 pm30 an30 cd30 ct30),sl30⟩) (e30:W.codeIn K cd30 "_law_stream" = true) (k30:W.keepIn K (.ref f30)=true)
  (a31:W.nsIn K mainGlobals "_law_names" = some (some (.ref f31))) (l31:K.lookup f31=some ⟨oc31,od31,.func (W.fnOf "_law_names" "_law_names" (defArgs (top 32)) (defBody (top 32)) (defScope (top 32)) .none kV31 dc31 pm31 an31 cd31 ct31),sl31⟩) (e31:W.codeIn K cd31 "_law_names" = true) (k31:W.keepIn K (.ref f31)=true)
  (a32:W.nsIn K mainGlobals "_law_word" = some (some (.ref f32))) (l32:K.lookup f32=some ⟨oc32,od32,.func (W.fnOf "_law_word" "_law_word" (defArgs (top 33)) (defBody (top 33)) (defScope (top 33)) .none kV32 dc32 pm32 an32 cd32 ct32),sl32⟩) (e32:W.codeIn K cd32 "_law_word" = true) (k32:W.keepIn K (.ref f32)=true)
  (a33:W.nsIn K mainGlobals "_law_told" = some (some (.ref f33))) (l33:K.lookup f33=some ⟨oc33,od33,.func (W.fnOf "_law_told" "_law_told" (defArgs (top 34)) (defBody (top 34)) (defScope (top 34)) .none kV33 dc33 pm33 an33 cd33 ct33),sl33⟩) (e33:W.codeIn K cd33 "_law_told" = true) (k33:W.keepIn K (.ref f33)=true)
  (a34:W.nsIn K mainGlobals "_law_cond" = some (some (.ref f34))) (l34:K.lookup f34=some ⟨oc34,od34,.func (W.fnOf "_law_cond" "_law_cond" (defArgs (top 35)) (defBody (top 35)) (defScope (top 35)) .none kV34 dc34 pm34 an34 cd34 ct34),sl34⟩) (e34:W.codeIn K cd34 "_law_cond" = true) (k34:W.keepIn K (.ref f34)=true)
  (a35:W.nsIn K mainGlobals "_law_odd_thing" = some (some (.ref f35))) (l35:K.lookup f35=some ⟨oc35,od35,.func (W.fnOf "_law_odd_thing" "_law_odd_thing" (defArgs (top 36)) (defBody (top 36)) (defScope (top 36)) .none kV35 dc35 pm35 an35 cd35 ct35),sl35⟩) (e35:W.codeIn K cd35 "_law_odd_thing" = true) (k35:W.keepIn K (.ref f35)=true)
  (a36:W.nsIn K mainGlobals "_law_spoiled" = some (some (.ref f36))) (l36:K.lookup f36=some ⟨oc36,od36,.func (W.fnOf "_law_spoiled" "_law_spoiled" (defArgs (top 37)) (defBody (top 37)) (defScope (top 37)) .none kV36 dc36 pm36 an36 cd36 ct36),sl36⟩) (e36:W.codeIn K cd36 "_law_spoiled" = true) (k36:W.keepIn K (.ref f36)=true)
  (a37:W.nsIn K mainGlobals "_law_told_right" = some (some (.ref f37))) (l37:K.lookup f37=some ⟨oc37,od37,.func (W.fnOf "_law_told_right" "_law_told_right" (defArgs (top 38)) (defBody (top 38)) (defScope (top 38)) .none kV37 dc37 pm37 an37 cd37 ct37),sl37⟩) (e37:W.codeIn K cd37 "_law_told_right" = true) (k37:W.keepIn K (.ref f37)=true)
  (a38:W.nsIn K mainGlobals "_law_things_fit" = some (some (.ref f38))) (l38:K.lookup f38=some ⟨oc38,od38,.func (W.fnOf "_law_things_fit" "_law_things_fit" (defArgs (top 39)) (defBody (top 39)) (defScope (top 39)) .none kV38 dc38 pm38 an38 cd38 ct38),sl38⟩) (e38:W.codeIn K cd38 "_law_things_fit" = true) (k38:W.keepIn K (.ref f38)=true)
  (a39:W.nsIn K mainGlobals "_law_due" = some (some (.ref f39))) (l39:K.lookup f39=some ⟨oc39,od39,.func (W.fnOf "_law_due" "_law_due" (defArgs (top 40)) (defBody (top 40)) (defScope (top 40)) .none kV39 dc39 pm39 an39 cd39 ct39),sl39⟩) (e39:W.codeIn K cd39 "_law_due" = true) (k39:W.keepIn K (.ref f39)=true)
  (a40:W.nsIn K mainGlobals "law" = some (some (.ref f40))) (l40:K.lookup f40=some ⟨oc40,od40,.func (W.fnOf "law" "law" (defArgs (top 41)) (defBody (top 41)) (defScope (top 41)) .none kV40 dc40 pm40 an40 cd40 ct40),sl40⟩) (e40:W.codeIn K cd40 "law" = true) (k40:W.keepIn K (.ref f40)=true)
  (q18:W.nsIn K mainGlobals "SIGNS" = some (some (.str "abcdefghijklmnopqrstuvwxyz0123456789" t18)))
  (q19:W.nsIn K mainGlobals "WORDS" = some (some (.ref g19))) (r19:K.lookup g19=some ⟨.type "tuple",od19,.seq #[.str "is" u19_0,.str "not" u19_1,.str "begins" u19_2,.str "least" u19_3,.str "most" u19_4,.str "has" u19_5,.str "lacks" u19_6,.str "in" u19_7,.str "out" u19_8] nn19,sl19⟩)
  (q20:W.nsIn K mainGlobals "MOST_THINGS" = some (some (.int 10 t20)))
  (q21:W.nsIn K mainGlobals "GREATEST_TOLD" = some (some (.int 999999999 t21)))
  (q22:W.nsIn K mainGlobals "LONGEST_TOLD" = some (some (.int 8 t22)))
  (u41:W.nsIn K mainGlobals "NoWord" = some (some (.ref w41)))
  (u42:W.nsIn K mainGlobals "NoGroup" = some (some (.ref w42)))
  (u43:W.nsIn K mainGlobals "BadThings" = some (some (.ref w43)))
  (u44:W.nsIn K mainGlobals "NoSalt" = some (some (.ref w44)))
  (u45:W.nsIn K mainGlobals "NoFace" = some (some (.ref w45)))
  (u46:W.nsIn K mainGlobals "Twice" = some (some (.ref w46)))
  (u47:W.nsIn K mainGlobals "BadShare" = some (some (.ref w47)))
  (u48:W.nsIn K mainGlobals "TooMuch" = some (some (.ref w48)))
  (u49:W.nsIn K mainGlobals "NoLine" = some (some (.ref w49)))
  (u50:W.nsIn K mainGlobals "BadStage" = some (some (.ref w50)))
  (u51:W.nsIn K mainGlobals "BadOutcome" = some (some (.ref w51)))
  (u52:W.nsIn K mainGlobals "NoSwitch" = some (some (.ref w52)))
  (u53:W.nsIn K mainGlobals "NoRule" = some (some (.ref w53)))
  (u54:W.nsIn K mainGlobals "Unlike" = some (some (.ref w54)))
  (u56:W.nsIn K mainGlobals "RollError" = some (some (.ref w56)))
  (u55:W.nsIn K mainGlobals "ValueError" = some none)
  (vn41:nameIn K w41=some "NoWord")
  (vg41:W.findIn K (.ref w41) "__getattribute__" = some (some (.builtin "BaseException.__getattribute__")))
  (vo41:W.findIn K (.ref w41) "__getattr__" = some none)
  (vc41:W.findIn K (.ref w41) "__class__" = some (some (.builtin "object.__class__")))
  (vb41:W.mroIn K w41 (.type "BaseException")=some true)
  (vj41:W.mroIn K w41 (.type "object")=some true)
  (vi41:(W.clsIn K w41).isSome=true)
  (vx41:W.excIn K w41 bmV "ValueError.__new__" = true)
  (y41_44:W.kitOne K (.ref w41) (.ref w44)=some false)
  (y41_45:W.kitOne K (.ref w41) (.ref w45)=some false)
  (y41_46:W.kitOne K (.ref w41) (.ref w46)=some false)
  (y41_47:W.kitOne K (.ref w41) (.ref w47)=some false)
  (y41_48:W.kitOne K (.ref w41) (.ref w48)=some false)
  (y41_41:W.kitOne K (.ref w41) (.ref w41)=some true)
  (y41_42:W.kitOne K (.ref w41) (.ref w42)=some false)
  (y41_43:W.kitOne K (.ref w41) (.ref w43)=some false)
  (y41_49:W.kitOne K (.ref w41) (.ref w49)=some false)
  (y41_50:W.kitOne K (.ref w41) (.ref w50)=some false)
  (y41_51:W.kitOne K (.ref w41) (.ref w51)=some false)
  (y41_52:W.kitOne K (.ref w41) (.ref w52)=some false)
  (y41_53:W.kitOne K (.ref w41) (.ref w53)=some false)
  (y41_54:W.kitOne K (.ref w41) (.ref w54)=some false)
  (y41_55:W.kitOne K (.ref w41) (.type "ValueError")=some true)
  (m41_56:W.exmOne K (.ref w41) (.ref w56)=some true)
  (vn42:nameIn K w42=some "NoGroup")
  (vg42:W.findIn K (.ref w42) "__getattribute__" = some (some (.builtin "BaseException.__getattribute__")))
  (vo42:W.findIn K (.ref w42) "__getattr__" = some none)
  (vc42:W.findIn K (.ref w42) "__class__" = some (some (.builtin "object.__class__")))
  (vb42:W.mroIn K w42 (.type "BaseException")=some true)
  (vj42:W.mroIn K w42 (.type "object")=some true)
  (vi42:(W.clsIn K w42).isSome=true)
  (vx42:W.excIn K w42 bmV "ValueError.__new__" = true)
  (y42_44:W.kitOne K (.ref w42) (.ref w44)=some false)
  (y42_45:W.kitOne K (.ref w42) (.ref w45)=some false)
  (y42_46:W.kitOne K (.ref w42) (.ref w46)=some false)
  (y42_47:W.kitOne K (.ref w42) (.ref w47)=some false)
  (y42_48:W.kitOne K (.ref w42) (.ref w48)=some false)
  (y42_41:W.kitOne K (.ref w42) (.ref w41)=some false)
  (y42_42:W.kitOne K (.ref w42) (.ref w42)=some true)
  (y42_43:W.kitOne K (.ref w42) (.ref w43)=some false)
  (y42_49:W.kitOne K (.ref w42) (.ref w49)=some false)
  (y42_50:W.kitOne K (.ref w42) (.ref w50)=some false)
  (y42_51:W.kitOne K (.ref w42) (.ref w51)=some false)
  (y42_52:W.kitOne K (.ref w42) (.ref w52)=some false)
  (y42_53:W.kitOne K (.ref w42) (.ref w53)=some false)
  (y42_54:W.kitOne K (.ref w42) (.ref w54)=some false)
  (y42_55:W.kitOne K (.ref w42) (.type "ValueError")=some true)
  (m42_56:W.exmOne K (.ref w42) (.ref w56)=some true)
  (vn43:nameIn K w43=some "BadThings")
  (vg43:W.findIn K (.ref w43) "__getattribute__" = some (some (.builtin "BaseException.__getattribute__")))
  (vo43:W.findIn K (.ref w43) "__getattr__" = some none)
  (vc43:W.findIn K (.ref w43) "__class__" = some (some (.builtin "object.__class__")))
  (vb43:W.mroIn K w43 (.type "BaseException")=some true)
  (vj43:W.mroIn K w43 (.type "object")=some true)
  (vi43:(W.clsIn K w43).isSome=true)
  (vx43:W.excIn K w43 bmV "ValueError.__new__" = true)
  (y43_44:W.kitOne K (.ref w43) (.ref w44)=some false)
  (y43_45:W.kitOne K (.ref w43) (.ref w45)=some false)
  (y43_46:W.kitOne K (.ref w43) (.ref w46)=some false)
  (y43_47:W.kitOne K (.ref w43) (.ref w47)=some false)
  (y43_48:W.kitOne K (.ref w43) (.ref w48)=some false)
  (y43_41:W.kitOne K (.ref w43) (.ref w41)=some false)
  (y43_42:W.kitOne K (.ref w43) (.ref w42)=some false)
  (y43_43:W.kitOne K (.ref w43) (.ref w43)=some true)
  (y43_49:W.kitOne K (.ref w43) (.ref w49)=some false)
  (y43_50:W.kitOne K (.ref w43) (.ref w50)=some false)
  (y43_51:W.kitOne K (.ref w43) (.ref w51)=some false)
  (y43_52:W.kitOne K (.ref w43) (.ref w52)=some false)
  (y43_53:W.kitOne K (.ref w43) (.ref w53)=some false)
  (y43_54:W.kitOne K (.ref w43) (.ref w54)=some false)
  (y43_55:W.kitOne K (.ref w43) (.type "ValueError")=some true)
  (m43_56:W.exmOne K (.ref w43) (.ref w56)=some true)
  (z0:W.nsIn K mainGlobals "len" = some none)
  (z1:W.nsIn K mainGlobals "sum" = some none)
  (z2:W.nsIn K mainGlobals "min" = some none)
  (z3:W.nsIn K mainGlobals "max" = some none)
  (z4:W.nsIn K mainGlobals "sorted" = some none)
  (z5:W.nsIn K mainGlobals "list" = some none)
  (z6:W.nsIn K mainGlobals "tuple" = some none)
  (z7:W.nsIn K mainGlobals "ord" = some none)
  (z8:W.nsIn K mainGlobals "int" = some none)
  (z9:W.nsIn K mainGlobals "all" = some none)
  (z10:W.nsIn K mainGlobals "any" = some none)
  (z11:W.nsIn K mainGlobals "str" = some none)
  (z12:W.nsIn K mainGlobals "set" = some none)
  (z13:W.nsIn K mainGlobals "abs" = some none)
  (z14:W.nsIn K mainGlobals "isinstance" = some none)
  (z15:W.nsIn K mainGlobals "range" = some none)
  (z16:W.nsIn K mainGlobals "bool" = some none)
  (z17:W.nsIn K mainGlobals "zip" = some none) :
  ∃ fd:FuncData,(∀ (s:Shared) (v:Value),BindsTo s fd ⟨[v],[]⟩ [(lawX,v)])∧∀ base:Heap,K.In base→base.Ns mainGlobals mg→FnOk l.prog w K mg base (CX1 l.prog w) (12 + 1) fa fd [lawX] (spL K (callF T (12 + 1)) lawN [lawX]):=by
 have e:=hfa.symm.trans (PySem.W.mg_of X G a40)
 cases e
 have t:=top_mk X G a23 l23 e23 k23 a24 l24 e24 k24 a25 l25 e25 k25 a26 l26 e26 k26 a27 l27 e27 k27 a28 l28 e28 k28 a29 l29 e29 k29 a30 l30 e30 k30 a31 l31 e31 k31 a32 l32 e32 k32 a33 l33 e33 k33 a34 l34 e34 k34 a35 l35 e35 k35 a36 l36 e36 k36 a37 l37 e37 k37 a38 l38 e38 k38 a39 l39 e39 k39 a40 l40 e40 k40 q18 q19 r19 q20 q21 q22 u41 u42 u43 u44 u45 u46 u47 u48 u49 u50 u51 u52 u53 u54 u56 u55 vn41 vg41 vo41 vc41 vb41 vj41 vi41 vx41 y41_44 y41_45 y41_46 y41_47 y41_48 y41_41 y41_42 y41_43 y41_49 y41_50 y41_51 y41_52 y41_53 y41_54 y41_55 m41_56 vn42 vg42 vo42 vc42 vb42 vj42 vi42 vx42 y42_44 y42_45 y42_46 y42_47 y42_48 y42_41 y42_42 y42_43 y42_49 y42_50 y42_51 y42_52 y42_53 y42_54 y42_55 m42_56 vn43 vg43 vo43 vc43 vb43 vj43 vi43 vx43 y43_44 y43_45 y43_46 y43_47 y43_48 y43_41 y43_42 y43_43 y43_49 y43_50 y43_51 y43_52 y43_53 y43_54 y43_55 m43_56 z0 z1 z2 z3 z4 z5 z6 z7 z8 z9 z10 z11 z12 z13 z14 z15 z16 z17
 exact⟨PySem.W.fnOf "law" "law" (defArgs (top 41)) (defBody (top 41)) (defScope (top 41)) .none kV40 dc40 pm40 an40 cd40 ct40,fun s v=>.of_eq rfl,fun base _ _=>def_fn t 12 (by decide) (f:=40) (fn:=d40) rfl (fun_mk (st:=top 41) l40 e40 k40) (defSc_of c40)⟩
end Law
namespace L2
open PySem PySem.Spec PyProof.Rows PySem.SeqAt
namespace Fr
variable {T:Tb}
theorem cell {f:Nat} {fn:Fn} (hT:T f=some fn) (h1:fn.np=2) (h2:fn.G.N.length=2) (h3:fn.body=bCell) (n:Nat) (ns:List Int) (k:Int) (hk:0≤k):callF T (n + 1) f [.lst false (ns.map .int),.int k]=.ok (.int (ns.getD k.toNat 0)):=by
 rw[Ev.go hT h1 h2 h3 rfl]
 unfold bCell
 by_cases h:k < (ns.length:Int)
 ·have hd:decide (k < (((ns.map D.int).length:Nat):Int))=true:=decide_eq_true (by rw[List.length_map];exact h)
  simp -implicitDefEqProofs (disch:=omega) only[ev0,Nat.reduceBEq,Nat.reduceSub,Nat.reduceAdd,reduceIte,hd]
 ·have hd:decide (k < (((ns.map D.int).length:Nat):Int))=false:=decide_eq_false (by rw[List.length_map];exact h)
  simp -implicitDefEqProofs (disch:=omega) only[ev0,Nat.reduceBEq,Nat.reduceSub,Nat.reduceAdd,reduceIte,hd]
  rw[List.getD_eq_getElem?_getD,List.getElem?_eq_none (by omega)]
  rfl
noncomputable def tStream:List IS:=[(.asg (.nm 3) (.bin .mod (.bin .add (.bin .add (.bin .mul (.v 3) (.c (.int 48271))) (.bin .mul (.bin .mul (.c (.int 7)) (.v 4)) (.v 4))) (.c (.int 3))) (.c (.int 2147483647)))),(.app 2 (.bin .fdiv (.v 3) (.c (.int 16))))]
noncomputable def bStream:List IS:=[(.asg (.nm 2) (.lst [])),(.asg (.nm 3) (.bin .add (.bin .mod (.v 0) (.c (.int 2147483647))) (.c (.int 1)))),(.for_ (.nm 4) (.rng1 (.v 1)) tStream),(.ret (.v 2))]
theorem stream {f:Nat} {fn:Fn} (hT:T f=some fn) (h1:fn.np=2) (h2:fn.G.N.length=5) (h3:fn.body=bStream) (n:Nat) (c m:Int) (h0:0≤m) (hm:m≤1000) :
  ∃ xs:List Int,callF T (n + 1) f [.int c,.int m]=.ok (.lst true (xs.map .int))∧xs.length=m.toNat∧∀ x ∈ xs,0≤x:=by
 rw[Ev.go hT h1 h2 h3 rfl]
 unfold bStream
 obtain⟨τ',e,xs,num,kk,rfl,hl,hx,hn⟩:=Ev.for_all (its:=rngD 0 m) (τ:=[some (.int c),some (.int m),some (.lst true []),some (.int (c % 2147483647 + 1)),none]) (body:=Ev.turn (callF T n) (.nm 4) tStream)
  (fun i τ=>∃ (xs:List Int) (num:Int) (kk:Option D),τ=[some (.int c),some (.int m),some (.lst true (xs.map .int)),some (.int num),kk]∧xs.length=i∧(∀ x ∈ xs,0≤x)∧0≤num)
  ⟨[],_,none,rfl,rfl,fun x hx=>absurd hx (by simp),by have:=Int.emod_nonneg c (show (2147483647:Int)≠0 by decide);omega⟩ (by
   rintro i x τ hx ⟨xs,num,kk,rfl,hl,hxs,hn⟩
   have hi:i < m.toNat:=by
    have:=(List.getElem?_eq_some_iff.mp hx).1
    rw[rngD_len] at this
    omega
   unfold rngD at hx
   rw[List.getElem?_map,List.getElem?_range (by omega)] at hx
   have hx':D.int (0 + (i:Nat))=x:=Option.some.inj hx
   subst hx'
   refine⟨[some (.int c),some (.int m),some (.lst true ((xs++[(num * 48271 + 7 * (0 + (i:Int)) * (0 + (i:Int)) + 3) % 2147483647 / 16]).map .int)),some (.int ((num * 48271 + 7 * (0 + (i:Int)) * (0 + (i:Int)) + 3) % 2147483647)),some (.int (0 + (i:Nat)))],?_,_,_,_,rfl,by rw[List.length_append,List.length_singleton,hl],fun x hx=>?_,Int.emod_nonneg _ (by decide)⟩
   ·unfold tStream
    simp -implicitDefEqProofs (disch:=omega) only[ev0,Nat.reduceBEq,Nat.reduceSub,Nat.reduceAdd,reduceIte,Ev.turn_eq,List.map_append,List.length_map]
   ·rcases List.mem_append.mp hx with hx | hx
    ·exact hxs x hx
    ·rw[List.mem_singleton] at hx
     rw[hx]
     exact Int.ediv_nonneg (Int.emod_nonneg _ (by decide)) (by decide))
 refine⟨xs,?_,?_,hx⟩
 ·simp -implicitDefEqProofs (disch:=omega) only[ev0,Nat.reduceBEq,Nat.reduceSub,Nat.reduceAdd,reduceIte,e]
 ·rw[hl,rngD_len];omega
noncomputable def one (c:Nat):Str:=⟨#[c]⟩
noncomputable def sal (cs:List Nat):Str:=⟨cs.toArray⟩
noncomputable def low (c:Nat):Prop:=97≤c∧c≤122
theorem abc_list:(Str.ofString "abcdefghijklmnopqrstuvwxyz").cps.toList=List.range' 97 26:=by decide +kernel
theorem abc_len:(Str.ofString "abcdefghijklmnopqrstuvwxyz").length=26:=by decide +kernel
theorem abc_ix {i:Int} (h0:0≤i) (h1:i < 26):opIx (.str "abcdefghijklmnopqrstuvwxyz") (.int i)=.ok (.str (one (97 + i.toNat))):=by
 rw[Ev.x_c h0 (by rw[abc_len];exact h1) (by rw[abc_len];decide),abc_list]
 have:(List.range' 97 26).getD i.toNat 0=97 + i.toNat:=by
  rw[List.getD_eq_getElem?_getD,List.getElem?_range' (by omega)]
  show 97 + 1 * i.toNat=_
  omega
 rw[this]
 rfl
theorem sal_len (cs:List Nat):(sal cs).length=cs.length:=by unfold sal Str.length;simp
theorem one_len (c:Nat):(one c).length=1:=rfl
theorem foldl_one:∀ (cs:List Nat) (acc:Array Nat),(cs.map one).foldl (fun acc p=>acc++(Str.ofString "").cps++p.cps) acc=acc++cs.toArray
 | [],acc=>by simp
 | c::cs,acc=>by
  have e:(Str.ofString "").cps = #[]:=by decide +kernel
  rw[List.map_cons,List.foldl_cons,foldl_one cs,e]
  show acc++#[]++#[c]++cs.toArray=_
  simp
theorem join_one (cs:List Nat):Txt.join "" (cs.map one)=sal cs:=by
 show (⟨((cs.map one).drop 1).foldl (fun acc p=>acc++(Str.ofString "").cps++p.cps) ((cs.map one).headD Str.empty).cps⟩:Str)=_
 cases cs with
 | nil=>rfl
 | cons c cs=>
  rw[List.map_cons,List.drop_succ_cons,List.drop_zero,List.headD_cons,foldl_one]
  unfold sal one
  simp
theorem sum_one (cs:List Nat):((cs.map one).map (fun y:Str=>y.length)).sum=cs.length:=by
 induction cs with
 | nil=>rfl
 | cons c cs ih=>
  rw[List.map_cons,List.map_cons,List.sum_cons,ih,List.length_cons,one_len]
  omega
theorem join_ev {o:Bool} {cs:List Nat} (h:cs.length≤1000):opMt .join (.str "") [.lst o ((cs.map one).map .str)]=.ok (.str (sal cs)):=by
 have e:(Str.ofString "").length=0:=by decide +kernel
 rw[Ev.mt_join (by rw[sum_one,List.length_map,e];omega),join_one]
theorem slice_to {cs:List Nat} {j:Int} (h0:0≤j) (h1:j≤cs.length):Txt.slice (sal cs) none (some j)=sal (cs.take j.toNat):=by
 have:=StrLaws.sliceText_to (x:=sal cs) (j:=j) ⟨h0,by show j≤(cs.toArray.toList.length:Nat);simpa using h1⟩
 refine this.trans ?_
 show (⟨((cs.toArray.toList.drop 0).take (j - 0).toNat).toArray⟩:Str)=⟨(cs.take j.toNat).toArray⟩
 rw[List.toList_toArray,List.drop_zero,Int.sub_zero]
theorem slice_from {cs:List Nat} {i:Int} (h0:0≤i) (h1:i≤cs.length):Txt.slice (sal cs) (some i) none=sal (cs.drop i.toNat):=by
 have:=StrLaws.sliceText_from (x:=sal cs) (i:=i) ⟨h0,by show i≤(cs.toArray.toList.length:Nat);simpa using h1⟩
 refine this.trans ?_
 show (⟨((cs.toArray.toList.drop i.toNat).take ((cs.toArray.toList.length:Int) - i).toNat).toArray⟩:Str)=⟨(cs.drop i.toNat).toArray⟩
 rw[List.toList_toArray,List.take_of_length_le (by rw[List.length_drop];omega)]
theorem sal_app (a b:List Nat):sal a++sal b=sal (a++b):=by
 show (⟨a.toArray++b.toArray⟩:Str)=⟨(a++b).toArray⟩
 rw[List.append_toArray]
theorem sal_add {a b:List Nat} (h:a.length + b.length≤1000):opB .add (.str (sal a)) (.str (sal b))=.ok (.str (sal (a++b))):=by
 rw[Ev.b_adds,Ev.szOk_t (by rw[sal_len,sal_len];omega),sal_app]
 rfl
end Fr
end L2
namespace Law
open PySem PySem.Spec L2 L2.Fr
theorem str_lf (fs:List Str):lfrees (fs.map D.str)=true:=Ev.lf_s fs
noncomputable def ch (c k:Int):Nat:=97 + ((c / 3 + 7 * k) % 26).toNat
noncomputable def ks (m:Int):List Int:=(List.range (m - 0).toNat).map fun k=>0 + ((k:Nat):Int)
theorem ks_in {m x:Int} (h:x ∈ ks m):0≤x∧x < m:=by
 obtain⟨k,hk,rfl⟩:=List.mem_map.mp h
 have:=List.mem_range.mp hk
 omega
theorem ks_len (m:Int):(ks m).length=(m - 0).toNat:=by unfold ks;rw[List.length_map,List.length_range]
structure Nam (x:Str):Prop where
 ex:∃ cs:List Nat,x=sal cs∧1≤cs.length∧cs.length≤8∧∀ c ∈ cs,low c
structure Nms (m:Int) (fs:List Str):Prop where
 len:fs.length=(m - 0).toNat
 nam:∀ x ∈ fs,Nam x
theorem names_ok (n:Nat) (c m:Int) (h0:0≤m) (h1:m≤12):∃ fs:List Str,callF T (n + 2) 31 [.int c,.int m]=.ok (.lst true (fs.map .str))∧Nms m fs:=by
 obtain⟨xs,ex,lx,px⟩:=stream (show T 30=some d30 from rfl) rfl rfl rfl n (c / 3) 8 (by omega) (by omega)
 have e1:fmapM (bodyM (callF T (n + 1)) (.nm 1) [] (.idx (.v 0) (.bin .mod (.v 1) (.c (.int 26)))) [some (.str "abcdefghijklmnopqrstuvwxyz"),none]) (xs.map .int)=.ok (((xs.map fun x=>97 + (x % 26).toNat).map one).map .str):=by
  have hg:(xs.map fun x=>97 + (x % 26).toNat).map one=xs.map fun x:Int=>one (97 + (x % 26).toNat):=by
   rw[List.map_map]
   rfl
  rw[hg]
  refine Ev.fmap_all D.int (fun x:Int=>one (97 + (x % 26).toNat)) .str _ fun x hx=>?_
  have hx0:=Int.emod_nonneg x (show (26:Int)≠0 by decide)
  have hx1:=Int.emod_lt_of_pos x (show (0:Int) < 26 by decide)
  simp -implicitDefEqProofs (disch:=omega) only[ev0,Nat.reduceBEq,Nat.reduceSub,Nat.reduceAdd,reduceIte,abc_ix]
 have lb:(xs.map fun x=>97 + (x % 26).toNat).length=8:=by rw[List.length_map,lx];rfl
 have hlow:∀ c ∈ (xs.map fun x=>97 + (x % 26).toNat),low c:=by
  intro c hc
  obtain⟨x,_,rfl⟩:=List.mem_map.mp hc
  have:=Int.emod_nonneg x (show (26:Int)≠0 by decide)
  have:=Int.emod_lt_of_pos x (show (0:Int) < 26 by decide)
  unfold low
  omega
 generalize (xs.map fun x=>97 + (x % 26).toNat)=cs at *
 have lxs:(xs.map D.int).length=8:=by rw[List.length_map,lx];rfl
 have je:∀ o:Bool,opMt .join (.str "") [.lst o ((cs.map one).map .str)]=.ok (.str (sal cs)):=fun o=>join_ev (by omega)
 generalize (cs.map one).map D.str=J at *
 generalize xs.map D.int=X at *
 have rk:rngD 0 m=(ks m).map .int:=Ev.rngD_map 0 m
 have lk:((ks m).map D.int).length=(m - 0).toNat:=by rw[List.length_map,ks_len]
 by_cases hb:c % 3=1∧m≤8
 ·have b1:(c % 3 == 1)=true:=by rw[hb.1];rfl
  have b2:decide (m≤8)=true:=decide_eq_true hb.2
  have e2:fmapM (bodyM (callF T (n + 1)) (.nm 1) [] (.sl (.v 0) none (some (.bin .add (.v 1) (.c (.int 1))))) [some (.str (sal cs)),none]) ((ks m).map .int)=.ok (((ks m).map fun k=>sal (cs.take (k + 1).toNat)).map .str):=by
   refine Ev.fmap_all D.int (fun k:Int=>sal (cs.take (k + 1).toNat)) .str _ fun k hk=>?_
   obtain⟨k0,k1⟩:=ks_in hk
   have es:=slice_to (cs:=cs) (j:=k + 1) (by omega) (by omega)
   have sl:=sal_len cs
   have s8:(sal cs).length≤16777216:=by omega
   simp -implicitDefEqProofs (disch:=omega) only[ev0,Nat.reduceBEq,Nat.reduceSub,Nat.reduceAdd,reduceIte,es]
  refine⟨(ks m).map fun k=>sal (cs.take (k + 1).toNat),?_,by rw[List.length_map,ks_len],fun x hx=>?_⟩
  ·rw[Ev.go (show T 31=some d31 from rfl) (show d31.np=2 from rfl) (show d31.G.N.length=5 from rfl) (show d31.body=b31 from rfl) rfl];unfold b31
   generalize ((ks m).map fun k=>sal (cs.take (k + 1).toNat))=F at *
   have ff:=str_lf F
   generalize (ks m).map D.int=KK at *
   simp -implicitDefEqProofs (disch:=omega) only[ev0,Nat.reduceBEq,Nat.reduceSub,Nat.reduceAdd,reduceIte,ex,e1,je,b1,b2,rk,e2,lxs,lk,ff]
  ·obtain⟨k,hk,rfl⟩:=List.mem_map.mp hx
   obtain⟨k0,k1⟩:=ks_in hk
   exact⟨_,rfl,by rw[List.length_take];omega,by rw[List.length_take];omega,fun c hc=>hlow c (List.mem_of_mem_take hc)⟩
 ·have b3:((c % 3 == 1) && decide (m≤8))=false:=by
   rw[Bool.and_eq_false_iff]
   by_cases hc:c % 3=1
   ·exact .inr (decide_eq_false fun z=>hb ⟨hc,z⟩)
   ·exact .inl (by simpa using hc)
  have m0:=Int.emod_nonneg (c / 3) (show (8:Int)≠0 by decide)
  have m1:=Int.emod_lt_of_pos (c / 3) (show (0:Int) < 8 by decide)
  have es:=slice_to (cs:=cs) (j:=1 + c / 3 % 8) (by omega) (by omega)
  have lb':(cs.take (1 + c / 3 % 8).toNat).length=(1 + c / 3 % 8).toNat:=by rw[List.length_take];omega
  have sl:=sal_len cs
  have lB:∀ z ∈ cs.take (1 + c / 3 % 8).toNat,low z:=fun z hz=>hlow z (List.mem_of_mem_take hz)
  generalize cs.take (1 + c / 3 % 8).toNat=B at *
  have slB:=sal_len B
  have hlen:((sal B).length:Int)=1 + c / 3 % 8:=by rw[slB];omega
  have a0:=Int.emod_nonneg (c / 24) (show ((sal B).length:Int)≠0 by omega)
  have a1:=Int.emod_lt_of_pos (c / 24) (show (0:Int) < ((sal B).length:Int) by omega)
  generalize hat:c / 24 % ((sal B).length:Int)=at' at *
  have es1:=slice_to (cs:=B) (j:=at') (by omega) (by omega)
  have es2:=slice_from (cs:=B) (i:=at' + 1) (by omega) (by omega)
  have la:(B.take at'.toNat).length=at'.toNat:=by rw[List.length_take];omega
  have lc:(B.drop (at' + 1).toNat).length=B.length - (at' + 1).toNat:=List.length_drop ..
  have lA:∀ z ∈ B.take at'.toNat,low z:=fun z hz=>lB z (List.mem_of_mem_take hz)
  have lC:∀ z ∈ B.drop (at' + 1).toNat,low z:=fun z hz=>lB z (List.mem_of_mem_drop hz)
  generalize B.take at'.toNat=A at *
  generalize B.drop (at' + 1).toNat=C at *
  have e2:fmapM (bodyM (callF T (n + 1)) (.nm 4) [] (.bin .add (.bin .add (.sl (.v 0) none (some (.v 1))) (.idx (.v 2) (.bin .mod (.bin .add (.bin .fdiv (.v 3) (.c (.int 3))) (.bin .mul (.c (.int 7)) (.v 4))) (.c (.int 26))))) (.sl (.v 0) (some (.bin .add (.v 1) (.c (.int 1)))) none)) [some (.str (sal B)),some (.int at'),some (.str "abcdefghijklmnopqrstuvwxyz"),some (.int c),none]) ((ks m).map .int)=.ok (((ks m).map fun k=>sal (A++[ch c k]++C)).map .str):=by
   refine Ev.fmap_all D.int (fun k:Int=>sal (A++[ch c k]++C)) .str _ fun k hk=>?_
   obtain⟨k0,k1⟩:=ks_in hk
   have r0:=Int.emod_nonneg (c / 3 + 7 * k) (show (26:Int)≠0 by decide)
   have r1:=Int.emod_lt_of_pos (c / 3 + 7 * k) (show (0:Int) < 26 by decide)
   have f0:=abc_ix r0 r1
   rw[show one (97 + ((c / 3 + 7 * k) % 26).toNat)=sal [ch c k] from rfl] at f0
   have f1:opB .add (.str (sal A)) (.str (sal [ch c k]))=.ok (.str (sal (A++[ch c k]))):=sal_add (by rw[List.length_cons,List.length_nil];omega)
   have f2:opB .add (.str (sal (A++[ch c k]))) (.str (sal C))=.ok (.str (sal (A++[ch c k]++C))):=sal_add (by rw[List.length_append,List.length_cons,List.length_nil];omega)
   generalize sal (A++[ch c k]++C)=W3 at *
   generalize sal (A++[ch c k])=W2 at *
   generalize sal [ch c k]=W1 at *
   have s8:(sal B).length≤16777216:=by omega
   simp -implicitDefEqProofs (disch:=omega) only[ev0,Nat.reduceBEq,Nat.reduceSub,Nat.reduceAdd,reduceIte,es1,es2,f0,f1,f2]
  refine⟨(ks m).map fun k=>sal (A++[ch c k]++C),?_,by rw[List.length_map,ks_len],fun x hx=>?_⟩
  ·rw[Ev.go (show T 31=some d31 from rfl) (show d31.np=2 from rfl) (show d31.G.N.length=5 from rfl) (show d31.body=b31 from rfl) rfl];unfold b31
   generalize ((ks m).map fun k=>sal (A++[ch c k]++C))=F at *
   have ff:=str_lf F
   generalize (ks m).map D.int=KK at *
   have s8:(sal cs).length≤16777216:=by omega
   have s9:(sal B).length≤16777216:=by omega
   have sp:(0:Int) < ((sal B).length:Int):=by omega
   cases q1:(c % 3 == 1) with
   | true=>
    cases q2:decide (m≤8) with
    | true=>rw[q1,q2] at b3;cases b3
    | false=>simp -implicitDefEqProofs (disch:=omega) only[ev0,Nat.reduceBEq,Nat.reduceSub,Nat.reduceAdd,reduceIte,ex,e1,je,q1,q2,rk,e2,lxs,lk,ff,es,hat]
   | false=>simp -implicitDefEqProofs (disch:=omega) only[ev0,Nat.reduceBEq,Nat.reduceSub,Nat.reduceAdd,reduceIte,ex,e1,je,q1,rk,e2,lxs,lk,ff,es,hat]
  ·obtain⟨k,hk,rfl⟩:=List.mem_map.mp hx
   refine⟨_,rfl,by rw[List.length_append,List.length_append,List.length_singleton];omega,by rw[List.length_append,List.length_append,List.length_singleton];omega,fun z hz=>?_⟩
   rcases List.mem_append.mp hz with hz | hz
   ·rcases List.mem_append.mp hz with hz | hz
    ·exact lA z hz
    ·rw[List.mem_singleton] at hz
     subst hz
     have:=Int.emod_nonneg (c / 3 + 7 * k) (show (26:Int)≠0 by decide)
     have:=Int.emod_lt_of_pos (c / 3 + 7 * k) (show (0:Int) < 26 by decide)
     unfold low ch
     omega
   ·exact lC z hz
end Law
namespace Law
open PySem PySem.Spec L2 L2.Fr
noncomputable def Sig (c:Nat):Prop:=(97≤c∧c≤122)∨(48≤c∧c≤57)
inductive Th where
 | txt (cs:List Nat) | num (i:Int)
noncomputable def Th.d:Th→D
 | .txt cs=>.str (sal cs)
 | .num i=>.int i
noncomputable def Th.ok:Th→Prop
 | .txt cs=>cs.length≤8∧∀ c ∈ cs,Sig c
 | .num i=>-999999999≤i∧i≤999999999
noncomputable def SG:Str:="abcdefghijklmnopqrstuvwxyz0123456789"
noncomputable def sgs:List Nat:=List.range' 97 26++List.range' 48 10
theorem sg_list:SG.cps.toList=sgs:=by decide +kernel
theorem sg_len:SG.length=36:=by decide +kernel
noncomputable def sg (i:Int):Nat:=sgs.getD i.toNat 0
theorem sg_sig {i:Int} (h0:0≤i) (h1:i < 36):Sig (sg i):=by
 have key:∀ k:Nat,k < 36→(97≤sgs.getD k 0∧sgs.getD k 0≤122)∨(48≤sgs.getD k 0∧sgs.getD k 0≤57):=by decide +kernel
 exact key i.toNat (by omega)
theorem sg_ix {i:Int} (h0:0≤i) (h1:i < 36):opIx (.str SG) (.int i)=.ok (.str (one (sg i))):=by
 rw[Ev.x_c h0 (by rw[sg_len];exact h1) (by rw[sg_len];decide),sg_list]
 rfl
theorem ix2 {o:Bool} {a b:Int} {i:Int} (h0:0≤i) (h1:i < 2):opIx (.lst o [.int a,.int b]) (.int i)=.ok (.int (if i=0 then a else b)):=by
 rcases (show i=0∨i=1 by omega) with rfl | rfl<;>rfl
theorem ix3 {o:Bool} {a b c:Int} {i:Int} (h0:0≤i) (h1:i < 3):opIx (.lst o [.int a,.int b,.int c]) (.int i)=.ok (.int (if i=0 then a else if i=1 then b else c)):=by
 rcases (show i=0∨i=1∨i=2 by omega) with rfl | rfl | rfl<;>rfl
theorem getD_nn {xs:List Int} (h:∀ x ∈ xs,0≤x) (k:Nat):0≤xs.getD k 0:=by
 rw[List.getD_eq_getElem?_getD]
 cases e:xs[k]? with
 | none=>exact Int.le_refl _
 | some v=>exact h v (List.mem_of_getElem? e)
theorem str10 (n:Nat) (c:Int):∃ xs:List Int,callF T (n + 1) 30 [.int c,.int 10]=.ok (.lst true (xs.map .int))∧xs.length=10∧∀ k,0≤xs.getD k 0:=by
 obtain⟨xs,ex,lx,px⟩:=stream (show T 30=some d30 from rfl) rfl rfl rfl n c 10 (by omega) (by omega)
 exact⟨xs,ex,lx,getD_nn px⟩
theorem tn0:Int.toNat 0=0:=rfl
theorem tn1:Int.toNat 1=1:=rfl
theorem tn2:Int.toNat 2=2:=rfl
theorem tn3:Int.toNat 3=3:=rfl
theorem told_num (n:Nat) (c:Int):∃ i:Int,callF T (n + 2) 33 [.int c,.str "number"]=.ok (.int i)∧-999999999≤i∧i≤999999999:=by
 obtain⟨xs,ex,lx,px⟩:=str10 n c
 have f1:((Str.ofString "number") == (Str.ofString "number"))=true:=by decide +kernel
 have p1:=px 1
 have i2:=ix2 (o:=true) (a:=4) (b:=999999999) (i:=xs.getD 1 0 % 2) (by omega) (by omega)
 generalize hf:(if xs.getD 1 0 % 2=0 then (4:Int) else 999999999)=far at i2
 have hfar:far=4∨far=999999999:=by
  rw[← hf]
  split<;>simp
 have r0:=Int.emod_nonneg (xs.getD 2 0) (show 2 * far + 1≠0 by omega)
 have r1:=Int.emod_lt_of_pos (xs.getD 2 0) (show 0 < 2 * far + 1 by omega)
 have m0:0 < 2 * far + 1:=by omega
 have i3:=ix3 (o:=true) (a:=xs.getD 2 0 % (2 * far + 1) - far) (b:=far) (c:=0 - far) (i:=xs.getD 3 0 % 3) (by omega) (by omega)
 refine⟨if xs.getD 3 0 % 3=0 then xs.getD 2 0 % (2 * far + 1) - far else if xs.getD 3 0 % 3=1 then far else 0 - far,?_,?_,?_⟩
 ·rw[Ev.go (show T 33=some d33 from rfl) (show d33.np=2 from rfl) (show d33.G.N.length=6 from rfl) (show d33.body=b33 from rfl) rfl];unfold b33
  simp -implicitDefEqProofs (disch:=omega) only[ev0,Nat.reduceBEq,Nat.reduceSub,Nat.reduceAdd,reduceIte,ex,f1,i2,i3,tn0,tn1,tn2,tn3]
 ·split
  ·omega
  ·split<;>omega
 ·split
  ·omega
  ·split<;>omega
theorem cut210 {xs:List Int} (h:xs.length=10):cutG (xs.map D.int) (some 2) (some 10)=(xs.drop 2).map .int:=by
 rw[Ev.cutG_map]
 congr 1
 unfold cutG HT.sIx
 rw[h]
 show List.take 8 (List.drop 2 xs)=_
 rw[List.take_of_length_le (by rw[List.length_drop];omega)]
theorem drawn (n:Nat) {xs:List Int} (lx:xs.length=10) (px:∀ k,0≤xs.getD k 0):∃ cs:List Nat,cs.length=8∧(∀ c ∈ cs,Sig c)∧
  fmapM (bodyM (callF T (n + 1)) (.nm 2) [] (.idx (.v 0) (.bin .mod (.v 2) (.idx (.lst [(.c (.int 2)),(.c (.int 36))]) (.bin .fdiv (.bin .mod (.idx (.v 1) (.c (.int 1))) (.c (.int 4))) (.c (.int 3)))))) [some (.str SG),some (.lst true (xs.map .int)),none]) ((xs.drop 2).map .int)=.ok ((cs.map one).map .str):=by
 have p1:=px 1
 have i2:=ix2 (o:=true) (a:=2) (b:=36) (i:=xs.getD 1 0 % 4 / 3) (by omega) (by omega)
 generalize hf:(if xs.getD 1 0 % 4 / 3=0 then (2:Int) else 36)=m at i2
 have hm:m=2∨m=36:=by
  rw[← hf]
  split<;>simp
 refine⟨(xs.drop 2).map fun x=>sg (x % m),by rw[List.length_map,List.length_drop,lx],fun c hc=>?_,?_⟩
 ·obtain⟨x,_,rfl⟩:=List.mem_map.mp hc
  have r0:=Int.emod_nonneg x (show m≠0 by omega)
  have r1:=Int.emod_lt_of_pos x (show 0 < m by omega)
  exact sg_sig r0 (by omega)
 ·rw[show ((xs.drop 2).map fun x=>sg (x % m)).map one=(xs.drop 2).map fun x=>one (sg (x % m)) from List.map_map ..]
  refine Ev.fmap_all D.int (fun x=>one (sg (x % m))) .str _ fun x hx=>?_
  have r0:=Int.emod_nonneg x (show m≠0 by omega)
  have r1:=Int.emod_lt_of_pos x (show 0 < m by omega)
  have m0:0 < m:=by omega
  have e:=sg_ix (i:=x % m) r0 (by omega)
  simp -implicitDefEqProofs (disch:=omega) only[ev0,Nat.reduceBEq,Nat.reduceSub,Nat.reduceAdd,reduceIte,i2,e,tn1]
theorem told_any (n:Nat) (c:Int):∃ t:Th,callF T (n + 2) 33 [.int c,.str "any"]=.ok t.d∧t.ok:=by
 obtain⟨xs,ex,lx,px⟩:=str10 n c
 have f1:((Str.ofString "any") == (Str.ofString "number"))=false:=by decide +kernel
 have f2:((Str.ofString "any") == (Str.ofString "any"))=true:=by decide +kernel
 have f3:((Str.ofString "any") == (Str.ofString "begins"))=false:=by decide +kernel
 have p0:=px 0
 have p1:=px 1
 have p2:=px 2
 by_cases h3:xs.getD 0 0 % 3=0
 ·have g3:(xs.getD 0 0 % 3 == 0)=true:=by rw[h3];rfl
  have i2:=ix2 (o:=true) (a:=4) (b:=999999999) (i:=xs.getD 1 0 % 2) (by omega) (by omega)
  generalize hf:(if xs.getD 1 0 % 2=0 then (4:Int) else 999999999)=far at i2
  have hfar:far=4∨far=999999999:=by
   rw[← hf]
   split<;>simp
  have r0:=Int.emod_nonneg (xs.getD 2 0) (show 2 * far + 1≠0 by omega)
  have r1:=Int.emod_lt_of_pos (xs.getD 2 0) (show 0 < 2 * far + 1 by omega)
  have m0:0 < 2 * far + 1:=by omega
  have i3:=ix3 (o:=true) (a:=xs.getD 2 0 % (2 * far + 1) - far) (b:=far) (c:=0 - far) (i:=xs.getD 3 0 % 3) (by omega) (by omega)
  refine⟨.num (if xs.getD 3 0 % 3=0 then xs.getD 2 0 % (2 * far + 1) - far else if xs.getD 3 0 % 3=1 then far else 0 - far),?_,?_,?_⟩
  ·unfold Th.d
   rw[Ev.go (show T 33=some d33 from rfl) (show d33.np=2 from rfl) (show d33.G.N.length=6 from rfl) (show d33.body=b33 from rfl) rfl];unfold b33
   simp -implicitDefEqProofs (disch:=omega) only[ev0,Nat.reduceBEq,Nat.reduceSub,Nat.reduceAdd,reduceIte,ex,f1,f2,g3,i2,i3,tn0,tn1,tn2,tn3]
  ·split
   ·omega
   ·split<;>omega
  ·split
   ·omega
   ·split<;>omega
 ·have g3:(xs.getD 0 0 % 3 == 0)=false:=by simpa using h3
  obtain⟨cs,lc,sc,ec⟩:=drawn n lx px
  have je:∀ o:Bool,opMt .join (.str "") [.lst o ((cs.map one).map .str)]=.ok (.str (sal cs)):=fun o=>join_ev (by omega)
  have i2:=ix2 (o:=true) (a:=4) (b:=9) (i:=xs.getD 2 0 % 2) (by omega) (by omega)
  generalize hf:(if xs.getD 2 0 % 2=0 then (4:Int) else 9)=m at i2
  have hm:m=4∨m=9:=by
   rw[← hf]
   split<;>simp
  have m0:0 < m:=by omega
  have r0:=Int.emod_nonneg (xs.getD 0 0 / 3) (show m≠0 by omega)
  have r1:=Int.emod_lt_of_pos (xs.getD 0 0 / 3) (show 0 < m by omega)
  have es:=slice_to (cs:=cs) (j:=xs.getD 0 0 / 3 % m) (by omega) (by omega)
  refine⟨.txt (cs.take (xs.getD 0 0 / 3 % m).toNat),?_,by rw[List.length_take];omega,fun z hz=>sc z (List.mem_of_mem_take hz)⟩
  have c10:=cut210 lx
  have l8:((xs.drop 2).map D.int).length=8:=by rw[List.length_map,List.length_drop,lx]
  have sl:=sal_len cs
  have s8:(sal cs).length≤16777216:=by omega
  unfold Th.d
  generalize (cs.map one).map D.str=J at *
  generalize (xs.drop 2).map D.int=XD at *
  unfold SG at ec
  rw[Ev.go (show T 33=some d33 from rfl) (show d33.np=2 from rfl) (show d33.G.N.length=6 from rfl) (show d33.body=b33 from rfl) rfl];unfold b33
  simp -implicitDefEqProofs (disch:=omega) only[ev0,Nat.reduceBEq,Nat.reduceSub,Nat.reduceAdd,reduceIte,ex,f1,f2,f3,g3,i2,c10,ec,je,es,l8,tn0,tn1,tn2,tn3]
theorem told_beg (n:Nat) (c:Int):∃ cs:List Nat,callF T (n + 2) 33 [.int c,.str "begins"]=.ok (.str (sal cs))∧1≤cs.length∧cs.length≤8∧∀ c ∈ cs,Sig c:=by
 obtain⟨xs,ex,lx,px⟩:=str10 n c
 have f1:((Str.ofString "begins") == (Str.ofString "number"))=false:=by decide +kernel
 have f2:((Str.ofString "begins") == (Str.ofString "any"))=false:=by decide +kernel
 have f3:((Str.ofString "begins") == (Str.ofString "begins"))=true:=by decide +kernel
 have p0:=px 0
 have p2:=px 2
 obtain⟨cs,lc,sc,ec⟩:=drawn n lx px
 have je:∀ o:Bool,opMt .join (.str "") [.lst o ((cs.map one).map .str)]=.ok (.str (sal cs)):=fun o=>join_ev (by omega)
 have i2:=ix2 (o:=true) (a:=3) (b:=8) (i:=xs.getD 2 0 % 2) (by omega) (by omega)
 generalize hf:(if xs.getD 2 0 % 2=0 then (3:Int) else 8)=m at i2
 have hm:m=3∨m=8:=by
  rw[← hf]
  split<;>simp
 have m0:0 < m:=by omega
 have r0:=Int.emod_nonneg (xs.getD 0 0 / 3) (show m≠0 by omega)
 have r1:=Int.emod_lt_of_pos (xs.getD 0 0 / 3) (show 0 < m by omega)
 have es:=slice_to (cs:=cs) (j:=1 + xs.getD 0 0 / 3 % m) (by omega) (by omega)
 refine⟨cs.take (1 + xs.getD 0 0 / 3 % m).toNat,?_,by rw[List.length_take];omega,by rw[List.length_take];omega,fun z hz=>sc z (List.mem_of_mem_take hz)⟩
 have c10:=cut210 lx
 have l8:((xs.drop 2).map D.int).length=8:=by rw[List.length_map,List.length_drop,lx]
 have sl:=sal_len cs
 have s8:(sal cs).length≤16777216:=by omega
 generalize (cs.map one).map D.str=J at *
 generalize (xs.drop 2).map D.int=XD at *
 unfold SG at ec
 rw[Ev.go (show T 33=some d33 from rfl) (show d33.np=2 from rfl) (show d33.G.N.length=6 from rfl) (show d33.body=b33 from rfl) rfl];unfold b33
 simp -implicitDefEqProofs (disch:=omega) only[ev0,Nat.reduceBEq,Nat.reduceSub,Nat.reduceAdd,reduceIte,ex,f1,f2,f3,i2,c10,ec,je,es,l8,tn0,tn1,tn2,tn3]
end Law
namespace Law
open PySem PySem.Spec L2 L2.Fr
inductive Od:D→Prop
 | non:Od .non
 | bl (b:Bool):Od (.bl b)
 | int (i:Int):Od (.int i)
 | str (x:Str) (h:x.length≤16):Od (.str x)
 | l1 (o:Bool):Od (.lst o [.int 1])
 | t1:Od (.tup [.str "a"])
theorem Od.er {d:D} (h:Od d):Od (er d):=by
 cases h with
 | non=>rw[L2.er];exact .non
 | bl b=>rw[L2.er];exact .bl b
 | int i=>rw[L2.er];exact .int i
 | str x h=>rw[L2.er];exact .str x h
 | l1 o=>exact .l1 false
 | t1=>exact .t1
noncomputable def Ods (ts:List D):Prop:=∀ d ∈ ts,Od d
theorem Ods.ers {ts:List D} (h:Ods ts):Ods (ers ts):=by
 intro d hd
 rw[ers_map] at hd
 obtain⟨e,he,rfl⟩:=List.mem_map.mp hd
 exact(h e he).er
noncomputable def ws:List Str:=["is","not","begins","least","most","has","lacks","in","out"]
inductive Wo:D→Prop
 | w (x:Str) (h:x ∈ ws):Wo (.str x)
 | x (x:Str) (h:x ∈ (["Is","","isnt","least ","among"]:List Str)):Wo (.str x)
 | non:Wo .non
 | tr:Wo (.bl true)
 | i3:Wo (.int 3)
 | l1 (o:Bool):Wo (.lst o [.str "is"])
 | t1:Wo (.tup [.str "is"])
theorem Wo.er {d:D} (h:Wo d):Wo (er d):=by
 cases h with
 | w x h=>rw[L2.er];exact .w x h
 | x x h=>rw[L2.er];exact .x x h
 | non=>rw[L2.er];exact .non
 | tr=>rw[L2.er];exact .tr
 | i3=>rw[L2.er];exact .i3
 | l1 o=>exact .l1 false
 | t1=>exact .t1
structure Nm (x:Str):Prop where
 len:x.length≤8
 low:∀ c ∈ x.cps.toList,c < 128
theorem Th.od {t:Th} (h:t.ok):Od t.d:=by
 cases t with
 | txt cs=>exact .str _ (by rw[sal_len];have:=h.1;omega)
 | num i=>exact .int i
theorem fmap_ex {α β:Type} {g:D→Res (Option D)} (emb:α→D) (emb':β→D) (P:β→Prop):∀ (xs:List α),(∀ x ∈ xs,∃ t,g (emb x)=.ok (some (emb' t))∧P t)→∃ ts:List β,fmapM g (xs.map emb)=.ok (ts.map emb')∧ts.length=xs.length∧∀ t ∈ ts,P t
 | [],_=>⟨[],rfl,rfl,fun t h=>absurd h (by simp)⟩
 | x::xs,h=>by
  obtain⟨t,e,p⟩:=h x (by simp)
  obtain⟨ts,e',l,ps⟩:=fmap_ex emb emb' P xs fun y hy=>h y (List.mem_cons_of_mem _ hy)
  refine⟨t::ts,?_,by rw[List.length_cons,List.length_cons,l],fun z hz=>?_⟩
  ·show bnd (g (emb x)) _=_
   rw[e]
   show bnd (fmapM g (xs.map emb)) _=_
   rw[e']
   rfl
  ·rcases List.mem_cons.mp hz with rfl | hz
   ·exact p
   ·exact ps z hz
theorem th_lf:∀ ts:List Th,lfrees (ts.map Th.d)=true
 | []=>rfl
 | t::ts=>by
  rw[List.map_cons]
  show (lfree t.d && lfrees (ts.map Th.d))=true
  rw[th_lf ts]
  cases t<;>rfl
theorem nm_at {fs:List Str} (h:∀ x ∈ fs,Nam x) {k:Nat} (hk:k < fs.length):Nm (fs.getD k ⟨#[]⟩):=by
 rw[List.getD_eq_getElem?_getD,List.getElem?_eq_getElem hk]
 obtain⟨cs,e,h1,h8,hl⟩:=(h _ (List.getElem_mem hk)).ex
 show Nm (fs[k])
 rw[e]
 exact⟨by rw[sal_len];exact h8,fun c hc=>by
  have:(sal cs).cps.toList=cs:=by unfold sal;simp
  rw[this] at hc
  have:=hl c hc
  unfold L2.Fr.low at this
  omega⟩
theorem w_mem {k:Nat} (h:k < 9):ws.getD k ⟨#[]⟩ ∈ ws:=by
 rw[List.getD_eq_getElem?_getD,List.getElem?_eq_getElem (show k < ws.length from h)]
 exact List.getElem_mem _
theorem w7 {k:Nat} (h:k < 7):(ws.getD k ⟨#[]⟩ == "in")=false∧(ws.getD k ⟨#[]⟩ == "out")=false:=by
 have:∀ k:Nat,k < 7→((ws.getD k ⟨#[]⟩ == "in")=false∧(ws.getD k ⟨#[]⟩ == "out")=false):=by decide +kernel
 exact this k h
theorem cond_ok (n:Nat) (c:Int) {ns gs:List Str} (ln:ns.length=3) (lg:gs.length≤3) (hn:∀ x ∈ ns,Nam x) (hg:∀ x ∈ gs,Nam x) :
  ∃ (nm w:Str) (ts:List Th),callF T (n + 3) 34 [.int c,.lst false (ns.map .str),.lst false (gs.map .str)]=.ok (.tup [.str nm,.str w,.lst true (ts.map Th.d)])∧Nm nm∧w ∈ ws∧ts.length≤10∧∀ t ∈ ts,t.ok:=by
 obtain⟨xs,ex,lx,px'⟩:=stream (show T 30=some d30 from rfl) rfl rfl rfl (n + 1) c 4 (by omega) (by omega)
 have px:=getD_nn px'
 have lx4:xs.length=4:=lx
 have p0:=px 0
 have p1:=px 1
 have p2:=px 2
 have p3:=px 3
 obtain⟨b,m,eg,i9,hm,hb⟩:∃ (b:Bool) (m:Int),eqsG (eqN 39) (gs.map D.str) []=.ok b∧opIx (.lst true [.int 9,.int 7]) (.int (if b=true then 1 else 0))=.ok (.int m)∧0 < m∧m≤9∧(gs.length=0→m=7):=by
  cases gs with
  | nil=>exact⟨true,7,rfl,rfl,by omega,by omega,fun _=>rfl⟩
  | cons g gs=>exact⟨false,9,rfl,rfl,by omega,by omega,fun z=>absurd z (by simp)⟩
 have m0:=Int.emod_nonneg (xs.getD 0 0) (show m≠0 by omega)
 have m1:=Int.emod_lt_of_pos (xs.getD 0 0) hm
 have hw:opIx (.lst true [.str "is",.str "not",.str "begins",.str "least",.str "most",.str "has",.str "lacks",.str "in",.str "out"]) (.int (xs.getD 0 0 % m))=.ok (.str (ws.getD (xs.getD 0 0 % m).toNat ⟨#[]⟩)):=Ev.x_ss (o:=true) (xs:=ws) (by omega) (by show _ < ((9:Nat):Int);omega)
 have hwm:=w_mem (k:=(xs.getD 0 0 % m).toNat) (by omega)
 have hw7:gs.length=0→(ws.getD (xs.getD 0 0 % m).toNat ⟨#[]⟩ == "in")=false∧(ws.getD (xs.getD 0 0 % m).toNat ⟨#[]⟩ == "out")=false:=fun z=>w7 (by have:=hb.2 z;omega)
 generalize ws.getD (xs.getD 0 0 % m).toNat ⟨#[]⟩=w at hw hwm hw7
 have l3:(ns.map D.str).length=3:=by rw[List.length_map,ln]
 have c3:((3:Nat):Int)=3:=rfl
 have nm0:=nm_at hn (k:=(xs.getD 1 0 % 3).toNat) (by omega)
 have hx:opIx (.lst false (ns.map .str)) (.int (xs.getD 1 0 % 3))=.ok (.str (ns.getD (xs.getD 1 0 % 3).toNat ⟨#[]⟩)):=Ev.x_ss (by omega) (by omega)
 generalize ns.getD (xs.getD 1 0 % 3).toNat ⟨#[]⟩=nm at hx nm0
 have lgs:(gs.map D.str).length=gs.length:=List.length_map ..
 by_cases q12:(w == "in")=true∨(w == "out")=true
 ·have hg0:0 < gs.length:=by
   rcases Nat.eq_zero_or_pos gs.length with z | z
   ·have:=hw7 z
    rw[this.1,this.2] at q12
    rcases q12 with q | q<;>cases q
   ·exact z
  have g0:=Int.emod_nonneg (xs.getD 1 0) (show (gs.length:Int)≠0 by omega)
  have g1:=Int.emod_lt_of_pos (xs.getD 1 0) (show (0:Int) < gs.length by omega)
  have nm1:=nm_at hg (k:=(xs.getD 1 0 % gs.length).toNat) (by omega)
  have hx':opIx (.lst false (gs.map .str)) (.int (xs.getD 1 0 % gs.length))=.ok (.str (gs.getD (xs.getD 1 0 % gs.length).toNat ⟨#[]⟩)):=Ev.x_ss (by omega) (by omega)
  generalize gs.getD (xs.getD 1 0 % gs.length).toNat ⟨#[]⟩=gm at hx' nm1
  refine⟨gm,w,[],?_,nm1,hwm,by simp,fun t ht=>absurd ht (by simp)⟩
  show _=Except.ok (D.tup [.str gm,.str w,.lst true []])
  have gp:(0:Int) < gs.length:=by omega
  generalize ns.map D.str=NS at *
  generalize gs.map D.str=GS at *
  cases q1:(w == "in") with
  | true=>
   rw[Ev.go (show T 34=some d34 from rfl) (show d34.np=3 from rfl) (show d34.G.N.length=9 from rfl) (show d34.body=b34 from rfl) rfl];unfold b34
   simp -implicitDefEqProofs (disch:=omega) only[ev0,Nat.reduceBEq,Nat.reduceSub,Nat.reduceAdd,reduceIte,ex,eg,i9,hw,l3,lgs,c3,hx,hx',q1,tn0,tn1,tn2,tn3]
  | false=>
   have q2:(w == "out")=true:=q12.elim (fun z=>by rw[z] at q1;cases q1) id
   rw[Ev.go (show T 34=some d34 from rfl) (show d34.np=3 from rfl) (show d34.G.N.length=9 from rfl) (show d34.body=b34 from rfl) rfl];unfold b34
   simp -implicitDefEqProofs (disch:=omega) only[ev0,Nat.reduceBEq,Nat.reduceSub,Nat.reduceAdd,reduceIte,ex,eg,i9,hw,l3,lgs,c3,hx,hx',q1,q2,tn0,tn1,tn2,tn3]
 ·have q1:(w == "in")=false:=by simpa using fun z=>q12 (.inl z)
  have q2:(w == "out")=false:=by simpa using fun z=>q12 (.inr z)
  generalize ns.map D.str=NS at *
  generalize gs.map D.str=GS at *
  by_cases q34:(w == "has")=true∨(w == "lacks")=true
  ·refine⟨nm,w,[],?_,nm0,hwm,by simp,fun t ht=>absurd ht (by simp)⟩
   show _=Except.ok (D.tup [.str nm,.str w,.lst true []])
   cases q3:(w == "has") with
   | true=>
    rw[Ev.go (show T 34=some d34 from rfl) (show d34.np=3 from rfl) (show d34.G.N.length=9 from rfl) (show d34.body=b34 from rfl) rfl];unfold b34
    simp -implicitDefEqProofs (disch:=omega) only[ev0,Nat.reduceBEq,Nat.reduceSub,Nat.reduceAdd,reduceIte,ex,eg,i9,hw,l3,c3,hx,q1,q2,q3,tn0,tn1,tn2,tn3]
   | false=>
    have q4:(w == "lacks")=true:=q34.elim (fun z=>by rw[z] at q3;cases q3) id
    rw[Ev.go (show T 34=some d34 from rfl) (show d34.np=3 from rfl) (show d34.G.N.length=9 from rfl) (show d34.body=b34 from rfl) rfl];unfold b34
    simp -implicitDefEqProofs (disch:=omega) only[ev0,Nat.reduceBEq,Nat.reduceSub,Nat.reduceAdd,reduceIte,ex,eg,i9,hw,l3,c3,hx,q1,q2,q3,q4,tn0,tn1,tn2,tn3]
  ·have q3:(w == "has")=false:=by simpa using fun z=>q34 (.inl z)
   have q4:(w == "lacks")=false:=by simpa using fun z=>q34 (.inr z)
   by_cases q56:(w == "least")=true∨(w == "most")=true
   ·obtain⟨i,ei,i0,i1⟩:=told_num n (c / 5)
    refine⟨nm,w,[.num i],?_,nm0,hwm,by simp,fun t ht=>?_⟩
    ·show _=Except.ok (D.tup [.str nm,.str w,.lst true [.int i]])
     cases q5:(w == "least") with
     | true=>
      rw[Ev.go (show T 34=some d34 from rfl) (show d34.np=3 from rfl) (show d34.G.N.length=9 from rfl) (show d34.body=b34 from rfl) rfl];unfold b34
      simp -implicitDefEqProofs (disch:=omega) only[ev0,Nat.reduceBEq,Nat.reduceSub,Nat.reduceAdd,reduceIte,ex,eg,i9,hw,l3,c3,hx,q1,q2,q3,q4,q5,ei,tn0,tn1,tn2,tn3]
     | false=>
      have q6:(w == "most")=true:=q56.elim (fun z=>by rw[z] at q5;cases q5) id
      rw[Ev.go (show T 34=some d34 from rfl) (show d34.np=3 from rfl) (show d34.G.N.length=9 from rfl) (show d34.body=b34 from rfl) rfl];unfold b34
      simp -implicitDefEqProofs (disch:=omega) only[ev0,Nat.reduceBEq,Nat.reduceSub,Nat.reduceAdd,reduceIte,ex,eg,i9,hw,l3,c3,hx,q1,q2,q3,q4,q5,q6,ei,tn0,tn1,tn2,tn3]
    ·rw[List.mem_singleton] at ht
     subst ht
     exact⟨i0,i1⟩
   ·have q5:(w == "least")=false:=by simpa using fun z=>q56 (.inl z)
    have q6:(w == "most")=false:=by simpa using fun z=>q56 (.inr z)
    have i2:=ix2 (o:=true) (a:=1 + xs.getD 2 0 % 3) (b:=1 + xs.getD 2 0 % 10) (i:=xs.getD 3 0 % 4 / 3) (by omega) (by omega)
    generalize hf:(if xs.getD 3 0 % 4 / 3=0 then 1 + xs.getD 2 0 % 3 else 1 + xs.getD 2 0 % 10)=many at i2
    have hm2:1≤many∧many≤10:=by
     rw[← hf]
     split<;>omega
    obtain⟨b7,kind,e7,hk⟩:∃ (b7:Bool) (kind:Str),(w == "begins")=b7∧opIx (.lst true [.str "any",.str "begins"]) (.int (if b7=true then 1 else 0))=.ok (.str kind)∧(kind = "any"∨kind = "begins"):=by
     cases q7:(w == "begins") with
     | true=>exact⟨true,"begins",rfl,rfl,.inr rfl⟩
     | false=>exact⟨false,"any",rfl,rfl,.inl rfl⟩
    obtain⟨ts,e1,lt,hts⟩:=fmap_ex (g:=bodyM (callF T (n + 2)) (.nm 2) [] (.call 33 [(.bin .add (.bin .fdiv (.v 0) (.c (.int 5))) (.bin .mul (.c (.int 31)) (.v 2))),(.v 1)]) [some (.int c),some (.str kind),none]) D.int Th.d Th.ok (ks many) (fun k hkk=>by
     rcases hk.2 with rfl | rfl
     ·obtain⟨t,et,ot⟩:=told_any n (c / 5 + 31 * k)
      refine⟨t,?_,ot⟩
      simp -implicitDefEqProofs (disch:=omega) only[ev0,Nat.reduceBEq,Nat.reduceSub,Nat.reduceAdd,reduceIte,et]
     ·obtain⟨cs,et,h1,h8,hs⟩:=told_beg n (c / 5 + 31 * k)
      refine⟨.txt cs,?_,h8,hs⟩
      unfold Th.d
      simp -implicitDefEqProofs (disch:=omega) only[ev0,Nat.reduceBEq,Nat.reduceSub,Nat.reduceAdd,reduceIte,et])
    have lf:=th_lf ts
    have rk:rngD 0 many=(ks many).map .int:=Ev.rngD_map 0 many
    have lk:((ks many).map D.int).length=(many - 0).toNat:=by rw[List.length_map,ks_len]
    refine⟨nm,w,ts,?_,nm0,hwm,by rw[lt,ks_len];omega,hts⟩
    have hk1:=hk.1
    generalize ts.map Th.d=TS at *
    generalize (ks many).map D.int=KK at *
    rw[Ev.go (show T 34=some d34 from rfl) (show d34.np=3 from rfl) (show d34.G.N.length=9 from rfl) (show d34.body=b34 from rfl) rfl];unfold b34
    simp -implicitDefEqProofs (disch:=omega) only[ev0,Nat.reduceBEq,Nat.reduceSub,Nat.reduceAdd,reduceIte,ex,eg,i9,hw,l3,c3,hx,q1,q2,q3,q4,q5,q6,i2,e7,hk1,rk,lk,e1,lf,tn0,tn1,tn2,tn3]
end Law
namespace Law
open PySem PySem.Spec L2 L2.Fr
theorem keep1 (e:IR) (hn:newList? e=false) (d:D) (τ:Ev):∃ d' τ',keepD e d τ=(d',τ')∧(d'=d∨d'=er d):=by
 unfold keepD
 by_cases h:lfree d=true
 ·rw[if_pos h];exact⟨d,τ,rfl,.inl rfl⟩
 ·rw[if_neg h,hn]
  exact⟨_,_,rfl,.inr rfl⟩
noncomputable def L15:List D:=[.non,.bl true,.bl false,.lst false [.int 1],.tup [.str "a"],.int 1000000000,.int (0 - 1000000000),.int 1000000000000000000000000000000,.str "abcdefghi",.str "a b",.str "A",.str ".",.str "",.str "a\n",.str "-1"]
theorem l15 {k:Int} (h0:0≤k) (h1:k < 15):∃ d,opIx (.lst true L15) (.int k)=.ok d∧Od d:=by
 have s:∀ x:Str,x ∈ (["abcdefghi","a b","A",".","","a\n","-1"]:List Str)→x.length≤16:=by decide +kernel
 obtain⟨j,rfl⟩:=Int.eq_ofNat_of_zero_le h0
 have hj:j < 15:=by omega
 match j,hj with
 | 0,_=>exact⟨_,rfl,.non⟩
 | 1,_=>exact⟨_,rfl,.bl _⟩
 | 2,_=>exact⟨_,rfl,.bl _⟩
 | 3,_=>exact⟨_,rfl,.l1 _⟩
 | 4,_=>exact⟨_,rfl,.t1⟩
 | 5,_=>exact⟨_,rfl,.int _⟩
 | 6,_=>exact⟨_,rfl,.int _⟩
 | 7,_=>exact⟨_,rfl,.int _⟩
 | 8,_=>exact⟨_,rfl,.str _ (s _ (by simp))⟩
 | 9,_=>exact⟨_,rfl,.str _ (s _ (by simp))⟩
 | 10,_=>exact⟨_,rfl,.str _ (s _ (by simp))⟩
 | 11,_=>exact⟨_,rfl,.str _ (s _ (by simp))⟩
 | 12,_=>exact⟨_,rfl,.str _ (s _ (by simp))⟩
 | 13,_=>exact⟨_,rfl,.str _ (s _ (by simp))⟩
 | 14,_=>exact⟨_,rfl,.str _ (s _ (by simp))⟩
theorem odd_ok (n:Nat) (c:Int):∃ d,callF T (n + 1) 35 [.int c]=.ok d∧Od d:=by
 have m0:=Int.emod_nonneg c (show (15:Int)≠0 by decide)
 have m1:=Int.emod_lt_of_pos c (show (0:Int) < 15 by decide)
 obtain⟨d,hd,od⟩:=l15 m0 m1
 obtain⟨d',τ',hk,h'⟩:=keep1 (.idx (.v 1) (.bin .mod (.v 0) (.c (.int 15)))) rfl d [some (.int c),some (.lst true L15)]
 refine⟨d',?_,h'.elim (fun z=>z ▸ od) fun z=>z ▸ od.er⟩
 unfold L15 at hd hk
 have p9:opB .pow (.int 10) (.int 9)=.ok (.int 1000000000):=rfl
 have p30:opB .pow (.int 10) (.int 30)=.ok (.int 1000000000000000000000000000000):=rfl
 have vE:vars (.bin .add (.v 1) (.lst [(.c (.str "abcdefghi")),(.c (.str "a b")),(.c (.str "A")),(.c (.str ".")),(.c (.str "")),(.c (.str "a\n")),(.c (.str "-1"))]))=[1]:=rfl
 rw[Ev.go (show T 35=some d35 from rfl) (show d35.np=1 from rfl) (show d35.G.N.length=2 from rfl) (show d35.body=b35 from rfl) rfl];unfold b35
 simp -implicitDefEqProofs (disch:=omega) only[ev0,Nat.reduceBEq,Nat.reduceSub,Nat.reduceAdd,reduceIte,p9,p30,vE,hd,hk]
end Law
namespace Law
open PySem PySem.Spec L2 L2.Fr
noncomputable def L10:List D:=[.str "Is",.str "",.str "isnt",.non,.bl true,.int 3,.lst true [.str "is"],.tup [.str "is"],.str "least ",.str "among"]
theorem l10 {k:Int} (h0:0≤k) (h1:k < 10):∃ d,opIx (.lst true L10) (.int k)=.ok d∧Wo d:=by
 obtain⟨j,rfl⟩:=Int.eq_ofNat_of_zero_le h0
 have hj:j < 10:=by omega
 match j,hj with
 | 0,_=>exact⟨_,rfl,.x _ (by simp)⟩
 | 1,_=>exact⟨_,rfl,.x _ (by simp)⟩
 | 2,_=>exact⟨_,rfl,.x _ (by simp)⟩
 | 3,_=>exact⟨_,rfl,.non⟩
 | 4,_=>exact⟨_,rfl,.tr⟩
 | 5,_=>exact⟨_,rfl,.i3⟩
 | 6,_=>exact⟨_,rfl,.l1 _⟩
 | 7,_=>exact⟨_,rfl,.t1⟩
 | 8,_=>exact⟨_,rfl,.x _ (by simp)⟩
 | 9,_=>exact⟨_,rfl,.x _ (by simp)⟩
theorem cut_from {α:Type} (xs:List α) {m:Int} (h:0≤m):cutG xs (some m) none=xs.drop m.toNat:=by
 unfold cutG HT.sIx
 simp only
 rw[if_neg (by omega)]
 by_cases hm:m.toNat≤xs.length
 ·rw[show min m.toNat xs.length=m.toNat from Nat.min_eq_left hm,List.take_of_length_le (by rw[List.length_drop];omega)]
 ·rw[show min m.toNat xs.length=xs.length from Nat.min_eq_right (by omega),List.drop_length,List.take_nil,List.drop_of_length_le (by omega)]
theorem ods_of {ts:List Th} (h:∀ t ∈ ts,t.ok):Ods (ts.map Th.d):=by
 intro d hd
 obtain⟨t,ht,rfl⟩:=List.mem_map.mp hd
 exact Th.od (h t ht)
theorem lfs_sub {ds es:List D} (h:lfrees ds=true) (s:∀ d ∈ es,d ∈ ds):lfrees es=true:=by
 rw[lfrees_all,List.all_eq_true] at h ⊢
 exact fun d hd=>h d (s d hd)
theorem mod_cases (c:Int):c % 9=0∨c % 9=1∨c % 9=2∨c % 9=3∨c % 9=4∨c % 9=5∨(c % 9≠0∧c % 9≠1∧c % 9≠2∧c % 9≠3∧c % 9≠4∧c % 9≠5):=by omega
theorem strange_ok:Nm "strange":=⟨by decide +kernel,by decide +kernel⟩
theorem spoil_ok (n:Nat) {nm w:Str} {ts:List Th} (hn:Nm nm) (hw:w ∈ ws) (lt:ts.length≤10) (ht:∀ t ∈ ts,t.ok) (c:Int) :
  ∃ (nm':Str) (wd:D) (o:Bool) (ts':List D),callF T (n + 2) 36 [.tup [.str nm,.str w,.lst false (ts.map Th.d)],.int c]=.ok (.tup [.str nm',wd,.lst o ts'])∧Nm nm'∧Wo wd∧ts'.length≤110∧Ods ts':=by
 have lf:=th_lf ts
 have er':=ers_lfrees lf
 have od:=ods_of ht
 have lt':(ts.map Th.d).length=ts.length:=List.length_map ..
 have lt2:(ts.map Th.d).length≤10:=by omega
 generalize ts.map Th.d=TS at *
 have l3:([.str nm,.str w,.lst false TS]:List D).length=3:=rfl
 rcases mod_cases c with hm | hm | hm | hm | hm | hm | hm
 ·have b0:(c % 9 == 0)=true:=by rw[hm];rfl
  have b1:(c % 9 == 1)=false:=by rw[hm];rfl
  have b2:(c % 9 == 2)=false:=by rw[hm];rfl
  have b3:(c % 9 == 3)=false:=by rw[hm];rfl
  have b4:(c % 9 == 4)=false:=by rw[hm];rfl
  have b5:(c % 9 == 5)=false:=by rw[hm];rfl
  obtain⟨d,hd,wd⟩:=l10 (k:=c / 9 % 10) (by omega) (by omega)
  unfold L10 at hd
  have fin:∀ d',d'=d∨d'=er d→Wo d':=fun d' h=>h.elim (fun z=>z ▸ wd) fun z=>z ▸ wd.er
  have vE:vars (.idx (.v 5) (.bin .mod (.bin .fdiv (.v 1) (.c (.int 9))) (.c (.int 10))))=[5,1]:=rfl
  by_cases hl:lfree d=true
  ·have hk:∀ e τ,keepD e d τ=(d,τ):=fun e τ=>by unfold keepD;rw[if_pos hl]
   refine⟨nm,d,false,TS,?_,hn,wd,by omega,od⟩
   rw[Ev.go (show T 36=some d36 from rfl) (show d36.np=2 from rfl) (show d36.G.N.length=7 from rfl) (show d36.body=b36 from rfl) rfl];unfold b36
   simp -implicitDefEqProofs (disch:=omega) only[ev0,Nat.reduceBEq,Nat.reduceSub,Nat.reduceAdd,reduceIte,b0,b1,b2,b3,b4,b5,hd,hk,er',lf]
  ·have hk:∀ e τ,newList? e=false→keepD e d τ=(er d,frz (vars e) τ):=fun e τ h=>by unfold keepD;rw[if_neg hl,h]
   have hk':∀ τ,keepD (.idx (.v 5) (.bin .mod (.bin .fdiv (.v 1) (.c (.int 9))) (.c (.int 10)))) d τ=(er d,frz [5,1] τ):=fun τ=>by rw[hk _ _ rfl];rfl
   refine⟨nm,er d,false,TS,?_,hn,wd.er,by omega,od⟩
   rw[Ev.go (show T 36=some d36 from rfl) (show d36.np=2 from rfl) (show d36.G.N.length=7 from rfl) (show d36.body=b36 from rfl) rfl];unfold b36
   simp -implicitDefEqProofs (disch:=omega) only[ev0,Nat.reduceBEq,Nat.reduceSub,Nat.reduceAdd,reduceIte,b0,b1,b2,b3,b4,b5,hd,hk',er',lf]
 ·have b0:(c % 9 == 0)=false:=by rw[hm];rfl
  have b1:(c % 9 == 1)=true:=by rw[hm];rfl
  have b2:(c % 9 == 2)=false:=by rw[hm];rfl
  have b3:(c % 9 == 3)=false:=by rw[hm];rfl
  have b4:(c % 9 == 4)=false:=by rw[hm];rfl
  have b5:(c % 9 == 5)=false:=by rw[hm];rfl
  have hx:opIx (.lst true [.str "is",.str "not",.str "begins",.str "least",.str "most",.str "has",.str "lacks",.str "in",.str "out"]) (.int (c / 9 % 9))=.ok (.str (ws.getD (c / 9 % 9).toNat ⟨#[]⟩)):=Ev.x_ss (o:=true) (xs:=ws) (by omega) (by show _ < ((9:Nat):Int);omega)
  have hwm:=w_mem (k:=(c / 9 % 9).toNat) (by omega)
  generalize ws.getD (c / 9 % 9).toNat ⟨#[]⟩=w' at hx hwm
  refine⟨nm,.str w',false,TS,?_,hn,.w _ hwm,by omega,od⟩
  rw[Ev.go (show T 36=some d36 from rfl) (show d36.np=2 from rfl) (show d36.G.N.length=7 from rfl) (show d36.body=b36 from rfl) rfl];unfold b36
  simp -implicitDefEqProofs (disch:=omega) only[ev0,Nat.reduceBEq,Nat.reduceSub,Nat.reduceAdd,reduceIte,b0,b1,b2,b3,b4,b5,hx,er',lf]
 ·have b0:(c % 9 == 0)=false:=by rw[hm];rfl
  have b1:(c % 9 == 1)=false:=by rw[hm];rfl
  have b2:(c % 9 == 2)=true:=by rw[hm];rfl
  have b3:(c % 9 == 3)=false:=by rw[hm];rfl
  have b4:(c % 9 == 4)=false:=by rw[hm];rfl
  have b5:(c % 9 == 5)=false:=by rw[hm];rfl
  refine⟨"strange",.str w,false,TS,?_,strange_ok,.w _ hw,by omega,od⟩
  rw[Ev.go (show T 36=some d36 from rfl) (show d36.np=2 from rfl) (show d36.G.N.length=7 from rfl) (show d36.body=b36 from rfl) rfl];unfold b36
  simp -implicitDefEqProofs (disch:=omega) only[ev0,Nat.reduceBEq,Nat.reduceSub,Nat.reduceAdd,reduceIte,b0,b1,b2,b3,b4,b5,er',lf]
 ·have b0:(c % 9 == 0)=false:=by rw[hm];rfl
  have b1:(c % 9 == 1)=false:=by rw[hm];rfl
  have b2:(c % 9 == 2)=false:=by rw[hm];rfl
  have b3:(c % 9 == 3)=true:=by rw[hm];rfl
  have b4:(c % 9 == 4)=false:=by rw[hm];rfl
  have b5:(c % 9 == 5)=false:=by rw[hm];rfl
  have p0:=Int.emod_nonneg (c / 9) (show (((TS.length:Nat):Int) + 1)≠0 by omega)
  have pp:(0:Int) < ((TS.length:Nat):Int) + 1:=by omega
  obtain⟨d,hd,odd⟩:=odd_ok n (c / 99)
  generalize hat:c / 9 % (((TS.length:Nat):Int) + 1)=k at *
  have c1:=Ev.cut_to TS p0
  have c2:=cut_from TS p0
  have l1:(TS.take k.toNat).length≤10:=by rw[List.length_take];omega
  have l2:(TS.drop k.toNat).length≤10:=by rw[List.length_drop];omega
  have oX:Ods (TS.take k.toNat):=fun d hd=>od d (List.mem_of_mem_take hd)
  have oY:Ods (TS.drop k.toNat):=fun d hd=>od d (List.mem_of_mem_drop hd)
  generalize TS.take k.toNat=X at *
  generalize TS.drop k.toNat=Y at *
  have oA:Ods (X++[d]++Y):=fun e he=>by
   rcases List.mem_append.mp he with he | he
   ·rcases List.mem_append.mp he with he | he
    ·exact oX e he
    ·rw[List.mem_singleton] at he;exact he ▸ odd
   ·exact oY e he
  have lA:(X++[d]++Y).length≤110:=by rw[List.length_append,List.length_append,List.length_singleton];omega
  have z1:X.length + (0 + 1)≤16777216:=by omega
  have z2:(X++[d]).length + Y.length≤16777216:=by rw[List.length_append,List.length_singleton];omega
  have e1:opB .add (.lst true X) (.lst true [d])=.ok (.lst true (X++[d])):=by rw[Ev.b_addl,Ev.szOk_t (by rw[List.length_singleton];omega)];rfl
  have e2:opB .add (.lst true (X++[d])) (.lst true Y)=.ok (.lst true (X++[d]++Y)):=by rw[Ev.b_addl,Ev.szOk_t z2];rfl
  have vE:vars (.bin .add (.bin .add (.sl (.v 4) none (some (.v 6))) (.lst [(.call 35 [(.bin .fdiv (.v 1) (.c (.int 99)))])])) (.sl (.v 4) (some (.v 6)) none))=[4,6,1,4,6]:=rfl
  generalize X++[d]++Y=A at *
  generalize X++[d]=A' at *
  cases hl:lfrees A with
  | true=>
   refine⟨nm,.str w,true,A,?_,hn,.w _ hw,lA,oA⟩
   rw[Ev.go (show T 36=some d36 from rfl) (show d36.np=2 from rfl) (show d36.G.N.length=7 from rfl) (show d36.body=b36 from rfl) rfl];unfold b36
   simp -implicitDefEqProofs (disch:=omega) only[ev0,Nat.reduceBEq,Nat.reduceSub,Nat.reduceAdd,reduceIte,b0,b1,b2,b3,b4,b5,er',lf,hat,c1,c2,hd,e1,e2,vE,hl]
  | false=>
   refine⟨nm,.str w,true,ers A,?_,hn,.w _ hw,by rw[ers_length];exact lA,oA.ers⟩
   rw[Ev.go (show T 36=some d36 from rfl) (show d36.np=2 from rfl) (show d36.G.N.length=7 from rfl) (show d36.body=b36 from rfl) rfl];unfold b36
   simp -implicitDefEqProofs (disch:=omega) only[ev0,Nat.reduceBEq,Nat.reduceSub,Nat.reduceAdd,reduceIte,b0,b1,b2,b3,b4,b5,er',lf,hat,c1,c2,hd,e1,e2,vE,hl]
 ·have b0:(c % 9 == 0)=false:=by rw[hm];rfl
  have b1:(c % 9 == 1)=false:=by rw[hm];rfl
  have b2:(c % 9 == 2)=false:=by rw[hm];rfl
  have b3:(c % 9 == 3)=false:=by rw[hm];rfl
  have b4:(c % 9 == 4)=true:=by rw[hm];rfl
  have b5:(c % 9 == 5)=false:=by rw[hm];rfl
  have p0:=Int.emod_nonneg (c / 9) (show (((TS.length:Nat):Int) + 1)≠0 by omega)
  have pp:(0:Int) < ((TS.length:Nat):Int) + 1:=by omega
  obtain⟨d,hd,odd⟩:=odd_ok n (c / 99)
  generalize hat:c / 9 % (((TS.length:Nat):Int) + 1)=k at *
  have c1:=Ev.cut_to TS p0
  have c2:=cut_from TS (m:=k + 1) (by omega)
  have l1:(TS.take k.toNat).length≤10:=by rw[List.length_take];omega
  have l2:(TS.drop (k + 1).toNat).length≤10:=by rw[List.length_drop];omega
  have oX:Ods (TS.take k.toNat):=fun d hd=>od d (List.mem_of_mem_take hd)
  have oY:Ods (TS.drop (k + 1).toNat):=fun d hd=>od d (List.mem_of_mem_drop hd)
  generalize TS.take k.toNat=X at *
  generalize TS.drop (k + 1).toNat=Y at *
  have oA:Ods (X++[d]++Y):=fun e he=>by
   rcases List.mem_append.mp he with he | he
   ·rcases List.mem_append.mp he with he | he
    ·exact oX e he
    ·rw[List.mem_singleton] at he;exact he ▸ odd
   ·exact oY e he
  have lA:(X++[d]++Y).length≤110:=by rw[List.length_append,List.length_append,List.length_singleton];omega
  have z2:(X++[d]).length + Y.length≤16777216:=by rw[List.length_append,List.length_singleton];omega
  have e1:opB .add (.lst true X) (.lst true [d])=.ok (.lst true (X++[d])):=by rw[Ev.b_addl,Ev.szOk_t (by rw[List.length_singleton];omega)];rfl
  have e2:opB .add (.lst true (X++[d])) (.lst true Y)=.ok (.lst true (X++[d]++Y)):=by rw[Ev.b_addl,Ev.szOk_t z2];rfl
  have vE:vars (.bin .add (.bin .add (.sl (.v 4) none (some (.v 6))) (.lst [(.call 35 [(.bin .fdiv (.v 1) (.c (.int 99)))])])) (.sl (.v 4) (some (.bin .add (.v 6) (.c (.int 1)))) none))=[4,6,1,4,6]:=rfl
  generalize X++[d]++Y=A at *
  generalize X++[d]=A' at *
  cases hl:lfrees A with
  | true=>
   refine⟨nm,.str w,true,A,?_,hn,.w _ hw,lA,oA⟩
   rw[Ev.go (show T 36=some d36 from rfl) (show d36.np=2 from rfl) (show d36.G.N.length=7 from rfl) (show d36.body=b36 from rfl) rfl];unfold b36
   simp -implicitDefEqProofs (disch:=omega) only[ev0,Nat.reduceBEq,Nat.reduceSub,Nat.reduceAdd,reduceIte,b0,b1,b2,b3,b4,b5,er',lf,hat,c1,c2,hd,e1,e2,vE,hl]
  | false=>
   refine⟨nm,.str w,true,ers A,?_,hn,.w _ hw,by rw[ers_length];exact lA,oA.ers⟩
   rw[Ev.go (show T 36=some d36 from rfl) (show d36.np=2 from rfl) (show d36.G.N.length=7 from rfl) (show d36.body=b36 from rfl) rfl];unfold b36
   simp -implicitDefEqProofs (disch:=omega) only[ev0,Nat.reduceBEq,Nat.reduceSub,Nat.reduceAdd,reduceIte,b0,b1,b2,b3,b4,b5,er',lf,hat,c1,c2,hd,e1,e2,vE,hl]
 ·have b0:(c % 9 == 0)=false:=by rw[hm];rfl
  have b1:(c % 9 == 1)=false:=by rw[hm];rfl
  have b2:(c % 9 == 2)=false:=by rw[hm];rfl
  have b3:(c % 9 == 3)=false:=by rw[hm];rfl
  have b4:(c % 9 == 4)=false:=by rw[hm];rfl
  have b5:(c % 9 == 5)=true:=by rw[hm];rfl
  have em:opB .mul (.lst false TS) (.int 11)=.ok (.lst true (List.flatten (List.replicate 11 TS))):=by
   show grd (decide ((0:Int)≤11∧(11:Int)≤16000∧TS.length≤1000)) _=_
   rw[decide_eq_true ⟨by omega,by omega,by omega⟩]
   rfl
  have hin:∀ d ∈ List.flatten (List.replicate 11 TS),d ∈ TS:=fun d hd=>by
   obtain⟨l,hl,h⟩:=List.mem_flatten.mp hd
   rw[(List.mem_replicate.mp hl).2] at h
   exact h
  have hlen:(List.flatten (List.replicate 11 TS)).length≤110:=by
   rw[List.length_flatten,List.map_replicate,List.sum_replicate_nat]
   omega
  generalize List.flatten (List.replicate 11 TS)=M at *
  obtain⟨j,ej,j0⟩:∃ j:Int,opIx (.lst true [.int 0,.int 11,.int 10,.int 2]) (.int (c / 9 % 4))=.ok (.int j)∧0≤j:=by
   rcases (show c / 9 % 4=0∨c / 9 % 4=1∨c / 9 % 4=2∨c / 9 % 4=3 by omega) with h | h | h | h<;>rw[h]
   ·exact⟨0,rfl,by omega⟩
   ·exact⟨11,rfl,by omega⟩
   ·exact⟨10,rfl,by omega⟩
   ·exact⟨2,rfl,by omega⟩
  have c1:=Ev.cut_to M j0
  have lA:(M.take j.toNat).length≤110:=by rw[List.length_take];omega
  have hA:∀ d ∈ M.take j.toNat,d ∈ TS:=fun d hd=>hin d (List.mem_of_mem_take hd)
  generalize M.take j.toNat=A at *
  have lfA:=lfs_sub lf hA
  refine⟨nm,.str w,true,A,?_,hn,.w _ hw,lA,fun d hd=>od d (hA d hd)⟩
  rw[Ev.go (show T 36=some d36 from rfl) (show d36.np=2 from rfl) (show d36.G.N.length=7 from rfl) (show d36.body=b36 from rfl) rfl];unfold b36
  simp -implicitDefEqProofs (disch:=omega) only[ev0,Nat.reduceBEq,Nat.reduceSub,Nat.reduceAdd,reduceIte,b0,b1,b2,b3,b4,b5,er',lf,em,ej,c1,lfA]
 ·have b0:(c % 9 == 0)=false:=by simpa using hm.1
  have b1:(c % 9 == 1)=false:=by simpa using hm.2.1
  have b2:(c % 9 == 2)=false:=by simpa using hm.2.2.1
  have b3:(c % 9 == 3)=false:=by simpa using hm.2.2.2.1
  have b4:(c % 9 == 4)=false:=by simpa using hm.2.2.2.2.1
  have b5:(c % 9 == 5)=false:=by simpa using hm.2.2.2.2.2
  refine⟨nm,.str w,false,TS,?_,hn,.w _ hw,by omega,od⟩
  rw[Ev.go (show T 36=some d36 from rfl) (show d36.np=2 from rfl) (show d36.G.N.length=7 from rfl) (show d36.body=b36 from rfl) rfl];unfold b36
  simp -implicitDefEqProofs (disch:=omega) only[ev0,Nat.reduceBEq,Nat.reduceSub,Nat.reduceAdd,reduceIte,b0,b1,b2,b3,b4,b5,er',lf]
end Law
namespace Law
open PySem PySem.Spec L2 L2.Fr
theorem cps_sal (cs:List Nat):(sal cs).cps.toList=cs:=by unfold sal;simp
theorem sal_cps (x:Str):sal x.cps.toList=x:=by cases x;unfold sal;simp
theorem in_one (x:Str) (c:Nat):inStr x (one c)=decide (c ∈ x.cps.toList):=StrLaws.found_one x c
theorem chars_sal (cs:List Nat):charsD (sal cs)=cs.map (fun c=>D.str (one c)):=by
 rw[Ev.charsD_map,cps_sal,List.map_map]
 rfl
noncomputable def B1 (lo:Int):D→Bool
 | .str x=>decide (lo≤((x.length:Nat):Int)) && decide (((x.length:Nat):Int)≤8) && x.cps.toList.all fun c=>decide (c ∈ SG.cps.toList)
 | _=>false
noncomputable def B2:D→Bool
 | .int i=>decide ((if i < 0 then -i else i)≤999999999)
 | _=>false
noncomputable def R (l:Int):D→Bool
 | .int i=>(l == 0) && decide ((if i < 0 then -i else i)≤999999999)
 | d=>B1 l d
theorem txt_at (n:Nat) (lo:Int) (x:Str) (hx:x.length≤16):callF T (n + 1) 24 [.str x,.str SG,.int lo,.int 8]=.ok (.bl (B1 lo (.str x))):=by
 obtain⟨cs,rfl⟩:∃ cs,x=sal cs:=⟨_,(sal_cps x).symm⟩
 have e1:fmapM (bodyM (callF T n) (.nm 1) [] (.cmp .in_ (.v 1) (.v 0)) [some (.str SG),none]) (cs.map fun c=>D.str (one c))=.ok ((cs.map fun c=>decide (c ∈ SG.cps.toList)).map .bl):=by
  refine Ev.fmap_all (fun c=>D.str (one c)) (fun c=>decide (c ∈ SG.cps.toList)) .bl _ fun c hc=>?_
  have:=in_one SG c
  simp -implicitDefEqProofs (disch:=omega) only[ev0,Nat.reduceBEq,Nat.reduceSub,Nat.reduceAdd,reduceIte,this]
 have s8:(sal cs).length≤16777216:=by omega
 have lc:(cs.map fun c=>D.str (one c)).length=cs.length:=List.length_map ..
 have sl:=sal_len cs
 have l16:cs.length≤16:=by omega
 have ce:=chars_sal cs
 have al:(cs.map fun c=>decide (c ∈ SG.cps.toList)).all id=cs.all fun c=>decide (c ∈ SG.cps.toList):=by rw[List.all_map];rfl
 have hB:B1 lo (.str (sal cs))=(decide (lo≤(((sal cs).length:Nat):Int)) && decide ((((sal cs).length:Nat):Int)≤8) && cs.all fun c=>decide (c ∈ SG.cps.toList)):=by
  show (_ && _ && ((sal cs).cps.toList.all _))=_
  rw[cps_sal]
 rw[hB]
 generalize (cs.map fun c=>D.str (one c))=X at *
 cases d0:decide (lo≤(((sal cs).length:Nat):Int)) with
 | false=>
  rw[Ev.go (show T 24=some d24 from rfl) (show d24.np=4 from rfl) (show d24.G.N.length=4 from rfl) (show d24.body=b24 from rfl) rfl];unfold b24
  simp -implicitDefEqProofs (disch:=omega) only[ev0,Nat.reduceBEq,Nat.reduceSub,Nat.reduceAdd,reduceIte,d0]
 | true=>
  cases d1:decide ((((sal cs).length:Nat):Int)≤8) with
  | false=>
   rw[Ev.go (show T 24=some d24 from rfl) (show d24.np=4 from rfl) (show d24.G.N.length=4 from rfl) (show d24.body=b24 from rfl) rfl];unfold b24
   simp -implicitDefEqProofs (disch:=omega) only[ev0,Nat.reduceBEq,Nat.reduceSub,Nat.reduceAdd,reduceIte,d0,d1]
  | true=>
   rw[Ev.go (show T 24=some d24 from rfl) (show d24.np=4 from rfl) (show d24.G.N.length=4 from rfl) (show d24.body=b24 from rfl) rfl];unfold b24
   simp -implicitDefEqProofs (disch:=omega) only[ev0,Nat.reduceBEq,Nat.reduceSub,Nat.reduceAdd,reduceIte,d0,d1,ce,e1,lc,Ev.bi_all,al]
theorem txt_no (n:Nat) (lo:Int) (d:D) (h:isiD .str d=false) (hx:notX d=true):callF T (n + 1) 24 [d,.str SG,.int lo,.int 8]=.ok (.bl false):=by
 rw[Ev.go (show T 24=some d24 from rfl) (show d24.np=4 from rfl) (show d24.G.N.length=4 from rfl) (show d24.body=b24 from rfl) rfl];unfold b24
 simp -implicitDefEqProofs (disch:=omega) only[ev0,Nat.reduceBEq,Nat.reduceSub,Nat.reduceAdd,reduceIte,h,hx]
theorem tt_ok (n:Nat) (lo:Int) {d:D} (h:Od d) (he:er d=d):callF T (n + 2) 25 [d,.int lo]=.ok (.bl (B1 lo d)):=by
 have key:callF T (n + 1) 24 [d,.str SG,.int lo,.int 8]=.ok (.bl (B1 lo d)):=by
  cases h with
  | str x hx=>exact txt_at n lo x hx
  | _=>exact txt_no n lo _ rfl rfl
 unfold SG at key
 rw[Ev.go (show T 25=some d25 from rfl) (show d25.np=2 from rfl) (show d25.G.N.length=2 from rfl) (show d25.body=b25 from rfl) rfl];unfold b25
 simp -implicitDefEqProofs (disch:=omega) only[ev0,Nat.reduceBEq,Nat.reduceSub,Nat.reduceAdd,reduceIte,he,key]
theorem wh_ok (n:Nat) {d:D} (h:Od d):callF T (n + 1) 23 [d]=.ok (.bl (match d with | .int _=>true | _=>false)):=by
 cases h with
 | non=>rw[Ev.go (show T 23=some d23 from rfl) (show d23.np=1 from rfl) (show d23.G.N.length=1 from rfl) (show d23.body=b23 from rfl) rfl];unfold b23;simp -implicitDefEqProofs (disch:=omega) only[ev0,Nat.reduceBEq,Nat.reduceSub,Nat.reduceAdd,reduceIte]
 | bl b=>rw[Ev.go (show T 23=some d23 from rfl) (show d23.np=1 from rfl) (show d23.G.N.length=1 from rfl) (show d23.body=b23 from rfl) rfl];unfold b23;simp -implicitDefEqProofs (disch:=omega) only[ev0,Nat.reduceBEq,Nat.reduceSub,Nat.reduceAdd,reduceIte]
 | int i=>rw[Ev.go (show T 23=some d23 from rfl) (show d23.np=1 from rfl) (show d23.G.N.length=1 from rfl) (show d23.body=b23 from rfl) rfl];unfold b23;simp -implicitDefEqProofs (disch:=omega) only[ev0,Nat.reduceBEq,Nat.reduceSub,Nat.reduceAdd,reduceIte]
 | str x hx=>rw[Ev.go (show T 23=some d23 from rfl) (show d23.np=1 from rfl) (show d23.G.N.length=1 from rfl) (show d23.body=b23 from rfl) rfl];unfold b23;simp -implicitDefEqProofs (disch:=omega) only[ev0,Nat.reduceBEq,Nat.reduceSub,Nat.reduceAdd,reduceIte]
 | l1 o=>rw[Ev.go (show T 23=some d23 from rfl) (show d23.np=1 from rfl) (show d23.G.N.length=1 from rfl) (show d23.body=b23 from rfl) rfl];unfold b23;simp -implicitDefEqProofs (disch:=omega) only[ev0,Nat.reduceBEq,Nat.reduceSub,Nat.reduceAdd,reduceIte]
 | t1=>rw[Ev.go (show T 23=some d23 from rfl) (show d23.np=1 from rfl) (show d23.G.N.length=1 from rfl) (show d23.body=b23 from rfl) rfl];unfold b23;simp -implicitDefEqProofs (disch:=omega) only[ev0,Nat.reduceBEq,Nat.reduceSub,Nat.reduceAdd,reduceIte]
theorem tn_no (n:Nat) {d:D} (he:er d=d) (w:callF T (n + 1) 23 [d]=.ok (.bl false)):callF T (n + 2) 26 [d]=.ok (.bl false):=by
 rw[Ev.go (show T 26=some d26 from rfl) (show d26.np=1 from rfl) (show d26.G.N.length=1 from rfl) (show d26.body=b26 from rfl) rfl];unfold b26
 simp -implicitDefEqProofs (disch:=omega) only[ev0,Nat.reduceBEq,Nat.reduceSub,Nat.reduceAdd,reduceIte,he,w]
theorem tn_ok (n:Nat) {d:D} (h:Od d) (he:er d=d):callF T (n + 2) 26 [d]=.ok (.bl (B2 d)):=by
 have w:=wh_ok n h
 cases h with
 | int i=>
  have w:callF T (n + 1) 23 [.int i]=.ok (.bl true):=w
  unfold B2
  rw[Ev.go (show T 26=some d26 from rfl) (show d26.np=1 from rfl) (show d26.G.N.length=1 from rfl) (show d26.body=b26 from rfl) rfl];unfold b26
  simp -implicitDefEqProofs (disch:=omega) only[ev0,Nat.reduceBEq,Nat.reduceSub,Nat.reduceAdd,reduceIte,w]
 | non=>exact tn_no n he w
 | bl b=>exact tn_no n he w
 | str x hx=>exact tn_no n he w
 | l1 o=>exact tn_no n he w
 | t1=>exact tn_no n he w
theorem fmap_filter {α:Type} {g:D→Res (Option D)} (emb:α→D) (p:α→Bool):∀ xs:List α,(∀ x ∈ xs,g (emb x)=.ok (if p x=true then some (emb x) else none))→fmapM g (xs.map emb)=.ok ((xs.filter p).map emb)
 | [],_=>rfl
 | x::xs,h=>by
  have ih:=fmap_filter emb p xs fun y hy=>h y (List.mem_cons_of_mem _ hy)
  show bnd (g (emb x)) _=_
  rw[h x (by simp),List.filter_cons]
  cases p x with
  | true=>
   show bnd (fmapM g (xs.map emb)) _=_
   rw[ih]
   rfl
  | false=>exact ih
theorem eqs_nil {f:D→D→Res Bool} (ds:List D):eqsG f ds []=.ok ds.isEmpty:=by cases ds<;>rfl
theorem filter_emb {α:Type} (emb:α→D) (p:α→Bool) (xs:List α):((xs.filter fun x=>!p x).map emb).isEmpty=xs.all p:=by
 induction xs with
 | nil=>rfl
 | cons x xs ih=>
  rw[List.filter_cons,List.all_cons]
  cases h:p x with
  | true=>simpa[h] using ih
  | false=>simp
theorem tr_ok (n:Nat) {l:Int} (hl:l=0∨l=1) {d:D} (h:Od d):callF T (n + 1) 37 [d,.int l]=.ok (.bl (R l d)):=by
 cases h with
 | non=>rw[Ev.go (show T 37=some d37 from rfl) (show d37.np=2 from rfl) (show d37.G.N.length=2 from rfl) (show d37.body=b37 from rfl) rfl];unfold b37;simp -implicitDefEqProofs (disch:=omega) only[ev0,Nat.reduceBEq,Nat.reduceSub,Nat.reduceAdd,reduceIte];rfl
 | bl b=>rw[Ev.go (show T 37=some d37 from rfl) (show d37.np=2 from rfl) (show d37.G.N.length=2 from rfl) (show d37.body=b37 from rfl) rfl];unfold b37;simp -implicitDefEqProofs (disch:=omega) only[ev0,Nat.reduceBEq,Nat.reduceSub,Nat.reduceAdd,reduceIte];rfl
 | int i=>
  unfold R
  cases q:(l == 0) with
  | true=>rw[Ev.go (show T 37=some d37 from rfl) (show d37.np=2 from rfl) (show d37.G.N.length=2 from rfl) (show d37.body=b37 from rfl) rfl];unfold b37;simp -implicitDefEqProofs (disch:=omega) only[ev0,Nat.reduceBEq,Nat.reduceSub,Nat.reduceAdd,reduceIte,q]
  | false=>rw[Ev.go (show T 37=some d37 from rfl) (show d37.np=2 from rfl) (show d37.G.N.length=2 from rfl) (show d37.body=b37 from rfl) rfl];unfold b37;simp -implicitDefEqProofs (disch:=omega) only[ev0,Nat.reduceBEq,Nat.reduceSub,Nat.reduceAdd,reduceIte,q]
 | l1 o=>rw[Ev.go (show T 37=some d37 from rfl) (show d37.np=2 from rfl) (show d37.G.N.length=2 from rfl) (show d37.body=b37 from rfl) rfl];unfold b37;simp -implicitDefEqProofs (disch:=omega) only[ev0,Nat.reduceBEq,Nat.reduceSub,Nat.reduceAdd,reduceIte];rfl
 | t1=>rw[Ev.go (show T 37=some d37 from rfl) (show d37.np=2 from rfl) (show d37.G.N.length=2 from rfl) (show d37.body=b37 from rfl) rfl];unfold b37;simp -implicitDefEqProofs (disch:=omega) only[ev0,Nat.reduceBEq,Nat.reduceSub,Nat.reduceAdd,reduceIte];rfl
 | str x hx=>
  obtain⟨cs,rfl⟩:∃ cs,x=sal cs:=⟨_,(sal_cps x).symm⟩
  have e1:fmapM (bodyM (callF T n) (.nm 0) [(.cmp .nin (.v 0) (.c (.str SG)))] (.v 0) [none]) (cs.map fun c=>D.str (one c))=.ok ((cs.filter fun c=>!decide (c ∈ SG.cps.toList)).map fun c=>D.str (one c)):=by
   refine fmap_filter (fun c=>D.str (one c)) (fun c=>!decide (c ∈ SG.cps.toList)) _ fun c hc=>?_
   have:=in_one SG c
   cases q:decide (c ∈ SG.cps.toList) with
   | true=>rw[q] at this;simp -implicitDefEqProofs (disch:=omega) only[ev0,Nat.reduceBEq,Nat.reduceSub,Nat.reduceAdd,reduceIte,this]
   | false=>rw[q] at this;simp -implicitDefEqProofs (disch:=omega) only[ev0,Nat.reduceBEq,Nat.reduceSub,Nat.reduceAdd,reduceIte,this]
  have s8:(sal cs).length≤16777216:=by omega
  have lc:(cs.map fun c=>D.str (one c)).length=cs.length:=List.length_map ..
  have sl:=sal_len cs
  have l16:cs.length≤16:=by omega
  have ce:=chars_sal cs
  have fe:=filter_emb (fun c=>D.str (one c)) (fun c=>decide (c ∈ SG.cps.toList)) cs
  have en:=eqs_nil (f:=eqN 39) ((cs.filter fun c=>!decide (c ∈ SG.cps.toList)).map fun c=>D.str (one c))
  rw[fe] at en
  have hB:R l (.str (sal cs))=(decide (l≤(((sal cs).length:Nat):Int)) && decide ((((sal cs).length:Nat):Int)≤8) && cs.all fun c=>decide (c ∈ SG.cps.toList)):=by
   show (_ && _ && ((sal cs).cps.toList.all _))=_
   rw[cps_sal]
  rw[hB]
  generalize ((cs.filter fun c=>!decide (c ∈ SG.cps.toList)).map fun c=>D.str (one c))=Y at *
  generalize (cs.map fun c=>D.str (one c))=X at *
  generalize (cs.all fun c=>decide (c ∈ SG.cps.toList))=B at *
  unfold SG at e1
  cases d0:decide (l≤(((sal cs).length:Nat):Int)) with
  | false=>rw[Ev.go (show T 37=some d37 from rfl) (show d37.np=2 from rfl) (show d37.G.N.length=2 from rfl) (show d37.body=b37 from rfl) rfl];unfold b37;simp -implicitDefEqProofs (disch:=omega) only[ev0,Nat.reduceBEq,Nat.reduceSub,Nat.reduceAdd,reduceIte,d0]
  | true=>
   cases d1:decide ((((sal cs).length:Nat):Int)≤8) with
   | false=>rw[Ev.go (show T 37=some d37 from rfl) (show d37.np=2 from rfl) (show d37.G.N.length=2 from rfl) (show d37.body=b37 from rfl) rfl];unfold b37;simp -implicitDefEqProofs (disch:=omega) only[ev0,Nat.reduceBEq,Nat.reduceSub,Nat.reduceAdd,reduceIte,d0,d1]
   | true=>rw[Ev.go (show T 37=some d37 from rfl) (show d37.np=2 from rfl) (show d37.G.N.length=2 from rfl) (show d37.body=b37 from rfl) rfl];unfold b37;simp -implicitDefEqProofs (disch:=omega) only[ev0,Nat.reduceBEq,Nat.reduceSub,Nat.reduceAdd,reduceIte,d0,d1,ce,e1,lc,en]
end Law
namespace Law
open PySem PySem.Spec L2 L2.Fr
theorem er_of {ts:List D} (he:ers ts=ts):∀ d ∈ ts,er d=d:=by
 induction ts with
 | nil=>intro d hd;exact absurd hd (by simp)
 | cons a ts ih=>
  rw[ers] at he
  injection he with h1 h2
  intro d hd
  rcases List.mem_cons.mp hd with rfl | hd
  ·exact h1
  ·exact ih h2 d hd
theorem R0 (d:D):R 0 d=(B1 0 d || B2 d):=by
 cases d<;>first | rfl | (unfold R B1 B2;simp) | (show B1 0 _=(B1 0 _ || false);rw[Bool.or_false])
theorem R1 (d:D):R 1 d=B1 1 d:=by
 cases d<;>rfl
noncomputable def szB (ts:List D):Bool:=decide ((1:Int)≤((ts.length:Nat):Int)) && decide (((ts.length:Nat):Int)≤10)
theorem bls_lf (bs:List Bool):lfrees (bs.map D.bl)=true:=by
 rw[lfrees_all,List.all_map,List.all_eq_true]
 intro x _
 rfl
section
variable {w:Str} {ts:List D} (od:Ods ts) (he:ers ts=ts) (hl:ts.length≤110)
include od he hl
theorem goA (n:Nat) (h:(w == "is")=true∨((w == "is")=false∧(w == "not")=true)):callF T (n + 4) 27 [.str w,.lst false ts]=.ok (.bl (szB ts && ts.all fun d=>R 0 d)):=by
 have e1:fmapM (bodyM (callF T (n + 3)) (.nm 0) [] (.or_ (.call 25 [(.v 0),(.c (.int 0))]) (.call 26 [(.v 0)])) [none]) ts=.ok ((ts.map fun d=>R 0 d).map .bl):=by
  have:=Ev.fmap_all (g:=bodyM (callF T (n + 3)) (.nm 0) [] (.or_ (.call 25 [(.v 0),(.c (.int 0))]) (.call 26 [(.v 0)])) [none]) (fun d:D=>d) (fun d=>R 0 d) .bl ts fun d hd=>by
   have e:=er_of he d hd
   have t1:=tt_ok (n + 1) 0 (od d hd) e
   have t2:=tn_ok (n + 1) (od d hd) e
   have r:=R0 d
   cases q:B1 0 d with
   | true=>rw[q] at t1 r;rw[Bool.true_or] at r;simp -implicitDefEqProofs (disch:=omega) only[ev0,Nat.reduceBEq,Nat.reduceSub,Nat.reduceAdd,reduceIte,e,t1,r]
   | false=>rw[q] at t1 r;rw[Bool.false_or] at r;simp -implicitDefEqProofs (disch:=omega) only[ev0,Nat.reduceBEq,Nat.reduceSub,Nat.reduceAdd,reduceIte,e,t1,t2,r]
  rwa [List.map_id'] at this
 have lf:=bls_lf (ts.map fun d=>R 0 d)
 have al:(ts.map fun d=>R 0 d).all id=ts.all fun d=>R 0 d:=by rw[List.all_map];rfl
 unfold szB
 generalize ts.map (fun d=>R 0 d)=BS at *
 generalize (ts.all fun d=>R 0 d)=bb at *
 have fin:∀ (s:Bool×Bool),True:=fun _=>trivial
 cases d1:decide ((1:Int)≤((ts.length:Nat):Int)) with
 | false=>
  rcases h with q | ⟨q,q2⟩
  ·rw[Ev.go (show T 27=some d27 from rfl) (show d27.np=2 from rfl) (show d27.G.N.length=3 from rfl) (show d27.body=b27 from rfl) rfl];unfold b27;simp -implicitDefEqProofs (disch:=omega) only[ev0,Nat.reduceBEq,Nat.reduceSub,Nat.reduceAdd,reduceIte,q,e1,lf,he,d1]
  ·rw[Ev.go (show T 27=some d27 from rfl) (show d27.np=2 from rfl) (show d27.G.N.length=3 from rfl) (show d27.body=b27 from rfl) rfl];unfold b27;simp -implicitDefEqProofs (disch:=omega) only[ev0,Nat.reduceBEq,Nat.reduceSub,Nat.reduceAdd,reduceIte,q,q2,e1,lf,he,d1]
 | true=>
  cases d2:decide (((ts.length:Nat):Int)≤10) with
  | false=>
   rcases h with q | ⟨q,q2⟩
   ·rw[Ev.go (show T 27=some d27 from rfl) (show d27.np=2 from rfl) (show d27.G.N.length=3 from rfl) (show d27.body=b27 from rfl) rfl];unfold b27;simp -implicitDefEqProofs (disch:=omega) only[ev0,Nat.reduceBEq,Nat.reduceSub,Nat.reduceAdd,reduceIte,q,e1,lf,he,d1,d2]
   ·rw[Ev.go (show T 27=some d27 from rfl) (show d27.np=2 from rfl) (show d27.G.N.length=3 from rfl) (show d27.body=b27 from rfl) rfl];unfold b27;simp -implicitDefEqProofs (disch:=omega) only[ev0,Nat.reduceBEq,Nat.reduceSub,Nat.reduceAdd,reduceIte,q,q2,e1,lf,he,d1,d2]
  | true=>
   rcases h with q | ⟨q,q2⟩
   ·rw[Ev.go (show T 27=some d27 from rfl) (show d27.np=2 from rfl) (show d27.G.N.length=3 from rfl) (show d27.body=b27 from rfl) rfl];unfold b27;simp -implicitDefEqProofs (disch:=omega) only[ev0,Nat.reduceBEq,Nat.reduceSub,Nat.reduceAdd,reduceIte,q,e1,lf,he,d1,d2,Ev.bi_all,al]
   ·rw[Ev.go (show T 27=some d27 from rfl) (show d27.np=2 from rfl) (show d27.G.N.length=3 from rfl) (show d27.body=b27 from rfl) rfl];unfold b27;simp -implicitDefEqProofs (disch:=omega) only[ev0,Nat.reduceBEq,Nat.reduceSub,Nat.reduceAdd,reduceIte,q,q2,e1,lf,he,d1,d2,Ev.bi_all,al]
theorem goB (n:Nat) (q1:(w == "is")=false) (q2:(w == "not")=false) (q3:(w == "begins")=true):callF T (n + 4) 27 [.str w,.lst false ts]=.ok (.bl (szB ts && ts.all fun d=>R 1 d)):=by
 have e1:fmapM (bodyM (callF T (n + 3)) (.nm 0) [] (.call 25 [(.v 0),(.c (.int 1))]) [none]) ts=.ok ((ts.map fun d=>R 1 d).map .bl):=by
  have:=Ev.fmap_all (g:=bodyM (callF T (n + 3)) (.nm 0) [] (.call 25 [(.v 0),(.c (.int 1))]) [none]) (fun d:D=>d) (fun d=>R 1 d) .bl ts fun d hd=>by
   have e:=er_of he d hd
   have t1:=tt_ok (n + 1) 1 (od d hd) e
   have r:=R1 d
   simp -implicitDefEqProofs (disch:=omega) only[ev0,Nat.reduceBEq,Nat.reduceSub,Nat.reduceAdd,reduceIte,e,t1,r]
  rwa [List.map_id'] at this
 have al:(ts.map fun d=>R 1 d).all id=ts.all fun d=>R 1 d:=by rw[List.all_map];rfl
 unfold szB
 generalize ts.map (fun d=>R 1 d)=BS at *
 generalize (ts.all fun d=>R 1 d)=bb at *
 cases d1:decide ((1:Int)≤((ts.length:Nat):Int)) with
 | false=>rw[Ev.go (show T 27=some d27 from rfl) (show d27.np=2 from rfl) (show d27.G.N.length=3 from rfl) (show d27.body=b27 from rfl) rfl];unfold b27;simp -implicitDefEqProofs (disch:=omega) only[ev0,Nat.reduceBEq,Nat.reduceSub,Nat.reduceAdd,reduceIte,q1,q2,q3,d1]
 | true=>
  cases d2:decide (((ts.length:Nat):Int)≤10) with
  | false=>rw[Ev.go (show T 27=some d27 from rfl) (show d27.np=2 from rfl) (show d27.G.N.length=3 from rfl) (show d27.body=b27 from rfl) rfl];unfold b27;simp -implicitDefEqProofs (disch:=omega) only[ev0,Nat.reduceBEq,Nat.reduceSub,Nat.reduceAdd,reduceIte,q1,q2,q3,d1,d2]
  | true=>rw[Ev.go (show T 27=some d27 from rfl) (show d27.np=2 from rfl) (show d27.G.N.length=3 from rfl) (show d27.body=b27 from rfl) rfl];unfold b27;simp -implicitDefEqProofs (disch:=omega) only[ev0,Nat.reduceBEq,Nat.reduceSub,Nat.reduceAdd,reduceIte,q1,q2,q3,e1,d1,d2,Ev.bi_all,al]
theorem goC (n:Nat) (q1:(w == "is")=false) (q2:(w == "not")=false) (q3:(w == "begins")=false) (h:(w == "least")=true∨((w == "least")=false∧(w == "most")=true)):callF T (n + 4) 27 [.str w,.lst false ts]=.ok (.bl ((((ts.length:Nat):Int) == 1) && B2 (ts.getD 0 .non))):=by
 cases d1:(((ts.length:Nat):Int) == 1) with
 | false=>
  rcases h with q | ⟨q,q4⟩
  ·rw[Ev.go (show T 27=some d27 from rfl) (show d27.np=2 from rfl) (show d27.G.N.length=3 from rfl) (show d27.body=b27 from rfl) rfl];unfold b27;simp -implicitDefEqProofs (disch:=omega) only[ev0,Nat.reduceBEq,Nat.reduceSub,Nat.reduceAdd,reduceIte,q1,q2,q3,q,d1]
  ·rw[Ev.go (show T 27=some d27 from rfl) (show d27.np=2 from rfl) (show d27.G.N.length=3 from rfl) (show d27.body=b27 from rfl) rfl];unfold b27;simp -implicitDefEqProofs (disch:=omega) only[ev0,Nat.reduceBEq,Nat.reduceSub,Nat.reduceAdd,reduceIte,q1,q2,q3,q,q4,d1]
 | true=>
  have l1:ts.length=1:=by have:=eq_of_beq d1;omega
  obtain⟨d,rfl⟩:=List.length_eq_one_iff.mp l1
  have e:=er_of he d (by simp)
  have t2:=tn_ok (n + 1) (od d (by simp)) e
  have ix:opIx (.lst false [d]) (.int 0)=.ok d:=rfl
  show _=Except.ok (D.bl (true && B2 d))
  rw[Bool.true_and]
  rcases h with q | ⟨q,q4⟩
  ·rw[Ev.go (show T 27=some d27 from rfl) (show d27.np=2 from rfl) (show d27.G.N.length=3 from rfl) (show d27.body=b27 from rfl) rfl];unfold b27;simp -implicitDefEqProofs (disch:=omega) only[ev0,Nat.reduceBEq,Nat.reduceSub,Nat.reduceAdd,reduceIte,q1,q2,q3,q,d1,ix,e,t2];rfl
  ·rw[Ev.go (show T 27=some d27 from rfl) (show d27.np=2 from rfl) (show d27.G.N.length=3 from rfl) (show d27.body=b27 from rfl) rfl];unfold b27;simp -implicitDefEqProofs (disch:=omega) only[ev0,Nat.reduceBEq,Nat.reduceSub,Nat.reduceAdd,reduceIte,q1,q2,q3,q,q4,d1,ix,e,t2];rfl
theorem goD (n:Nat) (q1:(w == "is")=false) (q2:(w == "not")=false) (q3:(w == "begins")=false) (q4:(w == "least")=false) (q5:(w == "most")=false):callF T (n + 4) 27 [.str w,.lst false ts]=.ok (.bl ts.isEmpty):=by
 have en:=eqs_nil (f:=eqN 39) ts
 rw[Ev.go (show T 27=some d27 from rfl) (show d27.np=2 from rfl) (show d27.G.N.length=3 from rfl) (show d27.body=b27 from rfl) rfl];unfold b27
 simp -implicitDefEqProofs (disch:=omega) only[ev0,Nat.reduceBEq,Nat.reduceSub,Nat.reduceAdd,reduceIte,q1,q2,q3,q4,q5,en]
theorem fitA (n:Nat) {b a1 a2 a3:Bool} (r1:((Str.ofString "is") == w)=a1) (r2:((Str.ofString "not") == w)=a2) (r3:((Str.ofString "begins") == w)=a3) (h:(a1 || (a2 || a3))=true) (hb:(w == "begins")=b):callF T (n + 2) 38 [.str w,.lst false ts]=.ok (.bl (szB ts && ts.all fun d=>R (if b=true then 1 else 0) d)):=by
 have hl01:(if b=true then (1:Int) else 0)=0∨(if b=true then (1:Int) else 0)=1:=by cases b<;>simp
 generalize hL:(if b=true then (1:Int) else 0)=l at *
 have e1:fmapM (bodyM (callF T (n + 1)) (.nm 1) [(.not_ (.call 37 [(.v 1),(.v 0)]))] (.v 1) [some (.int l),none]) ts=.ok (ts.filter fun d=>!R l d):=by
  have:=fmap_filter (g:=bodyM (callF T (n + 1)) (.nm 1) [(.not_ (.call 37 [(.v 1),(.v 0)]))] (.v 1) [some (.int l),none]) (fun d:D=>d) (fun d=>!R l d) ts fun d hd=>by
   have e:=er_of he d hd
   have t:=tr_ok n hl01 (od d hd)
   cases q:R l d with
   | true=>rw[q] at t;simp -implicitDefEqProofs (disch:=omega) only[ev0,Nat.reduceBEq,Nat.reduceSub,Nat.reduceAdd,reduceIte,e,t]
   | false=>rw[q] at t;simp -implicitDefEqProofs (disch:=omega) only[ev0,Nat.reduceBEq,Nat.reduceSub,Nat.reduceAdd,reduceIte,e,t]
  rwa [List.map_id',List.map_id'] at this
 have hs:(ts.filter fun d=>!R l d).isEmpty=ts.all fun d=>R l d:=by
  have:=filter_emb (fun d:D=>d) (fun d=>R l d) ts
  rwa [List.map_id'] at this
 have en:=eqs_nil (f:=eqN 39) (ts.filter fun d=>!R l d)
 have en':=eqs_nil (f:=eqN 39) (ers (ts.filter fun d=>!R l d))
 have hse:(ers (ts.filter fun d=>!R l d)).isEmpty=(ts.filter fun d=>!R l d).isEmpty:=by cases (ts.filter fun d=>!R l d)<;>rfl
 rw[hse,hs] at en'
 rw[hs] at en
 have vE:vars (.comp {N:=["_law_least","_law_thing"],kd:=[.cell,.local],gl:=[37],df:=false} [2] (.nm 1) (.val (.v 1)) [(.not_ (.call 37 [(.v 1),(.v 0)]))] (.v 1))=[2,1]:=rfl
 unfold szB
 generalize (ts.filter fun d=>!R l d)=F at *
 generalize (ts.all fun d=>R l d)=bb at *
 cases lF:lfrees F with
 | true=>
  cases d1:decide ((1:Int)≤((ts.length:Nat):Int)) with
  | false=>rw[Ev.go (show T 38=some d38 from rfl) (show d38.np=2 from rfl) (show d38.G.N.length=5 from rfl) (show d38.body=b38 from rfl) rfl];unfold b38;simp -implicitDefEqProofs (disch:=omega) only[ev0,Nat.reduceBEq,Nat.reduceSub,Nat.reduceAdd,reduceIte,r1,r2,r3,h,hb,hL,e1,he,vE,lF,d1]
  | true=>
   cases d2:decide (((ts.length:Nat):Int)≤10) with
   | false=>rw[Ev.go (show T 38=some d38 from rfl) (show d38.np=2 from rfl) (show d38.G.N.length=5 from rfl) (show d38.body=b38 from rfl) rfl];unfold b38;simp -implicitDefEqProofs (disch:=omega) only[ev0,Nat.reduceBEq,Nat.reduceSub,Nat.reduceAdd,reduceIte,r1,r2,r3,h,hb,hL,e1,he,vE,lF,d1,d2]
   | true=>rw[Ev.go (show T 38=some d38 from rfl) (show d38.np=2 from rfl) (show d38.G.N.length=5 from rfl) (show d38.body=b38 from rfl) rfl];unfold b38;simp -implicitDefEqProofs (disch:=omega) only[ev0,Nat.reduceBEq,Nat.reduceSub,Nat.reduceAdd,reduceIte,r1,r2,r3,h,hb,hL,e1,he,vE,lF,d1,d2,en]
 | false=>
  cases d1:decide ((1:Int)≤((ts.length:Nat):Int)) with
  | false=>rw[Ev.go (show T 38=some d38 from rfl) (show d38.np=2 from rfl) (show d38.G.N.length=5 from rfl) (show d38.body=b38 from rfl) rfl];unfold b38;simp -implicitDefEqProofs (disch:=omega) only[ev0,Nat.reduceBEq,Nat.reduceSub,Nat.reduceAdd,reduceIte,r1,r2,r3,h,hb,hL,e1,he,vE,lF,d1]
  | true=>
   cases d2:decide (((ts.length:Nat):Int)≤10) with
   | false=>rw[Ev.go (show T 38=some d38 from rfl) (show d38.np=2 from rfl) (show d38.G.N.length=5 from rfl) (show d38.body=b38 from rfl) rfl];unfold b38;simp -implicitDefEqProofs (disch:=omega) only[ev0,Nat.reduceBEq,Nat.reduceSub,Nat.reduceAdd,reduceIte,r1,r2,r3,h,hb,hL,e1,he,vE,lF,d1,d2]
   | true=>rw[Ev.go (show T 38=some d38 from rfl) (show d38.np=2 from rfl) (show d38.G.N.length=5 from rfl) (show d38.body=b38 from rfl) rfl];unfold b38;simp -implicitDefEqProofs (disch:=omega) only[ev0,Nat.reduceBEq,Nat.reduceSub,Nat.reduceAdd,reduceIte,r1,r2,r3,h,hb,hL,e1,he,vE,lF,d1,d2,en']
theorem fitC (n:Nat) {a4 a5:Bool} (r1:((Str.ofString "is") == w)=false) (r2:((Str.ofString "not") == w)=false) (r3:((Str.ofString "begins") == w)=false) (r4:((Str.ofString "least") == w)=a4) (r5:((Str.ofString "most") == w)=a5) (h:(a4 || a5)=true) :
  callF T (n + 2) 38 [.str w,.lst false ts]=.ok (.bl ((((ts.length:Nat):Int) == 1) && B2 (ts.getD 0 .non))):=by
 have e1:fmapM (bodyM (callF T (n + 1)) (.nm 0) [(.and_ (.not_ (.isi (.v 0) .str)) (.call 37 [(.v 0),(.c (.int 0))]))] (.v 0) [none]) ts=.ok (ts.filter B2):=by
  have:=fmap_filter (g:=bodyM (callF T (n + 1)) (.nm 0) [(.and_ (.not_ (.isi (.v 0) .str)) (.call 37 [(.v 0),(.c (.int 0))]))] (.v 0) [none]) (fun d:D=>d) B2 ts fun d hd=>by
   have e:=er_of he d hd
   have t:=tr_ok n (.inl rfl) (od d hd)
   have o:=od d hd
   cases o with
   | str x hx=>show _=Except.ok none;simp -implicitDefEqProofs (disch:=omega) only[ev0,Nat.reduceBEq,Nat.reduceSub,Nat.reduceAdd,reduceIte]
   | int i=>
    rw[show R 0 (.int i)=B2 (.int i) from Bool.true_and _] at t
    cases q:B2 (.int i) with
    | true=>rw[q] at t;simp -implicitDefEqProofs (disch:=omega) only[ev0,Nat.reduceBEq,Nat.reduceSub,Nat.reduceAdd,reduceIte,t]
    | false=>rw[q] at t;simp -implicitDefEqProofs (disch:=omega) only[ev0,Nat.reduceBEq,Nat.reduceSub,Nat.reduceAdd,reduceIte,t]
   | non=>have t:callF T (n + 1) 37 [.non,.int 0]=.ok (.bl false):=t;show _=Except.ok none;simp -implicitDefEqProofs (disch:=omega) only[ev0,Nat.reduceBEq,Nat.reduceSub,Nat.reduceAdd,reduceIte,e,t]
   | bl b=>have t:callF T (n + 1) 37 [.bl b,.int 0]=.ok (.bl false):=t;show _=Except.ok none;simp -implicitDefEqProofs (disch:=omega) only[ev0,Nat.reduceBEq,Nat.reduceSub,Nat.reduceAdd,reduceIte,e,t]
   | l1 o=>
    have t:callF T (n + 1) 37 [.lst o [.int 1],.int 0]=.ok (.bl false):=t;have eo:o=false:=by (injection e with e1);exact e1.symm
    subst eo;show _=Except.ok none;simp -implicitDefEqProofs (disch:=omega) only[ev0,Nat.reduceBEq,Nat.reduceSub,Nat.reduceAdd,reduceIte,t]
   | t1=>have t:callF T (n + 1) 37 [.tup [.str "a"],.int 0]=.ok (.bl false):=t;show _=Except.ok none;simp -implicitDefEqProofs (disch:=omega) only[ev0,Nat.reduceBEq,Nat.reduceSub,Nat.reduceAdd,reduceIte,t]
  rwa [List.map_id',List.map_id'] at this
 have vE:vars (.comp {N:=["_law_thing"],kd:=[.local],gl:=[14,11,37],df:=false} [] (.nm 0) (.val (.v 1)) [(.and_ (.not_ (.isi (.v 0) .str)) (.call 37 [(.v 0),(.c (.int 0))]))] (.v 0))=[1]:=rfl
 have lE:(ers (ts.filter B2)).length=(ts.filter B2).length:=ers_length _
 cases d1:(((ts.length:Nat):Int) == 1) with
 | false=>
  generalize ts.filter B2=F at *
  cases lF:lfrees F with
  | true=>rw[Ev.go (show T 38=some d38 from rfl) (show d38.np=2 from rfl) (show d38.G.N.length=5 from rfl) (show d38.body=b38 from rfl) rfl];unfold b38;simp -implicitDefEqProofs (disch:=omega) only[ev0,Nat.reduceBEq,Nat.reduceSub,Nat.reduceAdd,reduceIte,r1,r2,r3,r4,r5,h,e1,he,vE,lF,d1]
  | false=>rw[Ev.go (show T 38=some d38 from rfl) (show d38.np=2 from rfl) (show d38.G.N.length=5 from rfl) (show d38.body=b38 from rfl) rfl];unfold b38;simp -implicitDefEqProofs (disch:=omega) only[ev0,Nat.reduceBEq,Nat.reduceSub,Nat.reduceAdd,reduceIte,r1,r2,r3,r4,r5,h,e1,he,vE,lF,d1]
 | true=>
  have l1:ts.length=1:=by have:=eq_of_beq d1;omega
  obtain⟨d,rfl⟩:=List.length_eq_one_iff.mp l1
  have hf:((([d].filter B2).length:Nat):Int)=if B2 d=true then 1 else 0:=by
   rw[List.filter_cons]
   cases B2 d<;>rfl
  have hf2:(((([d].filter B2).length:Nat):Int) == 1)=B2 d:=by
   rw[hf]
   cases B2 d<;>rfl
  show _=Except.ok (D.bl (true && B2 d))
  rw[Bool.true_and]
  rw[← hf2]
  have q1:(((([d]:List D).length:Nat):Int) == 1)=true:=rfl
  generalize hTS:([d]:List D)=TS at *
  generalize TS.filter B2=F at *
  cases lF:lfrees F with
  | true=>rw[Ev.go (show T 38=some d38 from rfl) (show d38.np=2 from rfl) (show d38.G.N.length=5 from rfl) (show d38.body=b38 from rfl) rfl];unfold b38;simp -implicitDefEqProofs (disch:=omega) only[ev0,Nat.reduceBEq,Nat.reduceSub,Nat.reduceAdd,reduceIte,r1,r2,r3,r4,r5,h,e1,he,vE,lF,q1]
  | false=>rw[Ev.go (show T 38=some d38 from rfl) (show d38.np=2 from rfl) (show d38.G.N.length=5 from rfl) (show d38.body=b38 from rfl) rfl];unfold b38;simp -implicitDefEqProofs (disch:=omega) only[ev0,Nat.reduceBEq,Nat.reduceSub,Nat.reduceAdd,reduceIte,r1,r2,r3,r4,r5,h,e1,he,vE,lF,q1,lE]
theorem fitD (n:Nat) (r1:((Str.ofString "is") == w)=false) (r2:((Str.ofString "not") == w)=false) (r3:((Str.ofString "begins") == w)=false) (r4:((Str.ofString "least") == w)=false) (r5:((Str.ofString "most") == w)=false):callF T (n + 2) 38 [.str w,.lst false ts]=.ok (.bl ts.isEmpty):=by
 have en:=eqs_nil (f:=eqN 39) ts
 rw[Ev.go (show T 38=some d38 from rfl) (show d38.np=2 from rfl) (show d38.G.N.length=5 from rfl) (show d38.body=b38 from rfl) rfl];unfold b38
 simp -implicitDefEqProofs (disch:=omega) only[ev0,Nat.reduceBEq,Nat.reduceSub,Nat.reduceAdd,reduceIte,r1,r2,r3,r4,r5,en]
end
end Law
namespace Law
open PySem PySem.Spec L2 L2.Fr
theorem both {w:Str} {ts:List D} (od:Ods ts) (he:ers ts=ts) (hl:ts.length≤110) (n m:Nat) (hw:w ∈ ws):∃ b,callF T (n + 4) 27 [.str w,.lst false ts]=.ok (.bl b)∧callF T (m + 2) 38 [.str w,.lst false ts]=.ok (.bl b):=by
 unfold ws at hw
 simp only[List.mem_cons,List.not_mem_nil,or_false] at hw
 rcases hw with rfl | rfl | rfl | rfl | rfl | rfl | rfl | rfl | rfl
 ·exact⟨_,goA od he hl n (.inl (by decide +kernel)),fitA od he hl m (b:=false) (a1:=true) (a2:=false) (a3:=false) (by decide +kernel) (by decide +kernel) (by decide +kernel) rfl (by decide +kernel)⟩
 ·exact⟨_,goA od he hl n (.inr ⟨by decide +kernel,by decide +kernel⟩),fitA od he hl m (b:=false) (a1:=false) (a2:=true) (a3:=false) (by decide +kernel) (by decide +kernel) (by decide +kernel) rfl (by decide +kernel)⟩
 ·exact⟨_,goB od he hl n (by decide +kernel) (by decide +kernel) (by decide +kernel),fitA od he hl m (b:=true) (a1:=false) (a2:=false) (a3:=true) (by decide +kernel) (by decide +kernel) (by decide +kernel) rfl (by decide +kernel)⟩
 ·exact⟨_,goC od he hl n (by decide +kernel) (by decide +kernel) (by decide +kernel) (.inl (by decide +kernel)),fitC od he hl m (a4:=true) (a5:=false) (by decide +kernel) (by decide +kernel) (by decide +kernel) (by decide +kernel) (by decide +kernel) rfl⟩
 ·exact⟨_,goC od he hl n (by decide +kernel) (by decide +kernel) (by decide +kernel) (.inr ⟨by decide +kernel,by decide +kernel⟩),fitC od he hl m (a4:=false) (a5:=true) (by decide +kernel) (by decide +kernel) (by decide +kernel) (by decide +kernel) (by decide +kernel) rfl⟩
 all_goals exact⟨_,goD od he hl n (by decide +kernel) (by decide +kernel) (by decide +kernel) (by decide +kernel) (by decide +kernel),fitD od he hl m (by decide +kernel) (by decide +kernel) (by decide +kernel) (by decide +kernel) (by decide +kernel)⟩
theorem word_ok (n:Nat):callF T (n + 1) 32 [.exc "NoWord"]=.ok (.str "word")∧callF T (n + 1) 32 [.exc "NoGroup"]=.ok (.str "group")∧callF T (n + 1) 32 [.exc "BadThings"]=.ok (.str "things"):=by
 refine⟨?_,?_,?_⟩<;>kernel_rfl
theorem rep_len {x:Str} (h:Nm x):(reprText x).length≤82:=by
 have:=StrLaws.reprText_len x (fun c hc=>by have:=h.low c hc;omega)
 have:=h.len
 omega
theorem any_in (x:Str):∀ gs:List Str,anyN (.str x) (gs.map .str)=.ok (gs.any fun g=>g == x)
 | []=>rfl
 | g::gs=>by
  rw[List.map_cons,Ev.an_c,Ev.e_ss,Ev.bnd_k,Ev.anK_k,any_in x gs]
  rfl
end Law
namespace Law
open PySem PySem.Spec L2 L2.Fr
structure Ver (C:D) (N:List D) (v:Str):Prop where
 due:∀ n,callF T (n + 3) 39 [C,.lst false N]=.ok (.str v)
 chk:(v = "none"∧∀ n,callF T (n + 5) 28 [C,.lst false N]=.ok (.bl true))∨∃ c,(∀ n,callF T (n + 5) 28 [C,.lst false N]=.error (.exc c))∧(["NoWord","NoGroup","BadThings"]:List Str).contains c=true∧(∀ n,callF T (n + 1) 32 [.exc c]=.ok (.str v))∧(v == "none")=false
theorem ver_odd {nm:Str} {wd:D} {ts N:List D} (hs:∀ n,callF T (n + 3) 39 [.tup [.str nm,wd,.lst false ts],.lst false N]=.ok (.str "word")) (hc:∀ n,callF T (n + 5) 28 [.tup [.str nm,wd,.lst false ts],.lst false N]=.error (.exc "NoWord")):Ver (.tup [.str nm,wd,.lst false ts]) N "word":=
 ⟨hs,.inr ⟨"NoWord",hc,by decide +kernel,fun n=>(word_ok n).1,by decide +kernel⟩⟩
theorem verd {nm:Str} {wd:D} {ts:List D} {gs:List Str} (hn:Nm nm) (hw:Wo wd) (hwe:er wd=wd) (od:Ods ts) (he:ers ts=ts) (hl:ts.length≤110):∃ v,Ver (.tup [.str nm,wd,.lst false ts]) (gs.map .str) v:=by
 have ai:=any_in nm gs
 have ge:ers (gs.map D.str)=gs.map D.str:=Ev.ers_ss gs
 generalize gs.map D.str=N at *
 have i0:opIx (.tup [.str nm,wd,.lst false ts]) (.int 0)=.ok (.str nm):=rfl
 have i1:opIx (.tup [.str nm,wd,.lst false ts]) (.int 1)=.ok wd:=rfl
 have i2:opIx (.tup [.str nm,wd,.lst false ts]) (.int 2)=.ok (.lst false ts):=rfl
 cases hw with
 | non=>exact⟨"word",ver_odd (fun n=>by rw[Ev.go (show T 39=some d39 from rfl) (show d39.np=2 from rfl) (show d39.G.N.length=2 from rfl) (show d39.body=b39 from rfl) rfl];unfold b39;simp -implicitDefEqProofs (disch:=omega) only[ev0,Nat.reduceBEq,Nat.reduceSub,Nat.reduceAdd,reduceIte,i0,i1,i2]) fun n=>by rw[Ev.go (show T 28=some d28 from rfl) (show d28.np=2 from rfl) (show d28.G.N.length=4 from rfl) (show d28.body=b28 from rfl) rfl];unfold b28;simp -implicitDefEqProofs (disch:=omega) only[ev0,Nat.reduceBEq,Nat.reduceSub,Nat.reduceAdd,reduceIte,i0,i1,i2]⟩
 | tr=>exact⟨"word",ver_odd (fun n=>by rw[Ev.go (show T 39=some d39 from rfl) (show d39.np=2 from rfl) (show d39.G.N.length=2 from rfl) (show d39.body=b39 from rfl) rfl];unfold b39;simp -implicitDefEqProofs (disch:=omega) only[ev0,Nat.reduceBEq,Nat.reduceSub,Nat.reduceAdd,reduceIte,i0,i1,i2]) fun n=>by rw[Ev.go (show T 28=some d28 from rfl) (show d28.np=2 from rfl) (show d28.G.N.length=4 from rfl) (show d28.body=b28 from rfl) rfl];unfold b28;simp -implicitDefEqProofs (disch:=omega) only[ev0,Nat.reduceBEq,Nat.reduceSub,Nat.reduceAdd,reduceIte,i0,i1,i2]⟩
 | i3=>exact⟨"word",ver_odd (fun n=>by rw[Ev.go (show T 39=some d39 from rfl) (show d39.np=2 from rfl) (show d39.G.N.length=2 from rfl) (show d39.body=b39 from rfl) rfl];unfold b39;simp -implicitDefEqProofs (disch:=omega) only[ev0,Nat.reduceBEq,Nat.reduceSub,Nat.reduceAdd,reduceIte,i0,i1,i2]) fun n=>by rw[Ev.go (show T 28=some d28 from rfl) (show d28.np=2 from rfl) (show d28.G.N.length=4 from rfl) (show d28.body=b28 from rfl) rfl];unfold b28;simp -implicitDefEqProofs (disch:=omega) only[ev0,Nat.reduceBEq,Nat.reduceSub,Nat.reduceAdd,reduceIte,i0,i1,i2]⟩
 | t1=>exact⟨"word",ver_odd (fun n=>by rw[Ev.go (show T 39=some d39 from rfl) (show d39.np=2 from rfl) (show d39.G.N.length=2 from rfl) (show d39.body=b39 from rfl) rfl];unfold b39;simp -implicitDefEqProofs (disch:=omega) only[ev0,Nat.reduceBEq,Nat.reduceSub,Nat.reduceAdd,reduceIte,i0,i1,i2]) fun n=>by rw[Ev.go (show T 28=some d28 from rfl) (show d28.np=2 from rfl) (show d28.G.N.length=4 from rfl) (show d28.body=b28 from rfl) rfl];unfold b28;simp -implicitDefEqProofs (disch:=omega) only[ev0,Nat.reduceBEq,Nat.reduceSub,Nat.reduceAdd,reduceIte,i0,i1,i2]⟩
 | l1 o=>
  have nl:newList? (.idx (.v 0) (.c (.int 1)))=false:=rfl
  have eo:o=false:=by (injection hwe with e1);exact e1.symm
  subst eo
  exact⟨"word",ver_odd (fun n=>by rw[Ev.go (show T 39=some d39 from rfl) (show d39.np=2 from rfl) (show d39.G.N.length=2 from rfl) (show d39.body=b39 from rfl) rfl];unfold b39;simp -implicitDefEqProofs (disch:=omega) only[ev0,Nat.reduceBEq,Nat.reduceSub,Nat.reduceAdd,reduceIte,i0,i1,i2]) fun n=>by rw[Ev.go (show T 28=some d28 from rfl) (show d28.np=2 from rfl) (show d28.G.N.length=4 from rfl) (show d28.body=b28 from rfl) rfl];unfold b28;simp -implicitDefEqProofs (disch:=omega) only[ev0,Nat.reduceBEq,Nat.reduceSub,Nat.reduceAdd,reduceIte,i0,i1,i2,nl,he]⟩
 | x x hx=>
  have hO:(((Str.ofString "is") == x) || (((Str.ofString "not") == x) || (((Str.ofString "begins") == x) || (((Str.ofString "least") == x) || (((Str.ofString "most") == x) || (((Str.ofString "has") == x) || (((Str.ofString "lacks") == x) || (((Str.ofString "in") == x) || ((Str.ofString "out") == x)))))))))=false:=by
   simp only[List.mem_cons,List.not_mem_nil,or_false] at hx
   rcases hx with rfl | rfl | rfl | rfl | rfl<;>decide +kernel
  exact⟨"word",ver_odd (fun n=>by rw[Ev.go (show T 39=some d39 from rfl) (show d39.np=2 from rfl) (show d39.G.N.length=2 from rfl) (show d39.body=b39 from rfl) rfl];unfold b39;simp -implicitDefEqProofs (disch:=omega) only[ev0,Nat.reduceBEq,Nat.reduceSub,Nat.reduceAdd,reduceIte,i0,i1,i2,hO]) fun n=>by rw[Ev.go (show T 28=some d28 from rfl) (show d28.np=2 from rfl) (show d28.G.N.length=4 from rfl) (show d28.body=b28 from rfl) rfl];unfold b28;simp -implicitDefEqProofs (disch:=omega) only[ev0,Nat.reduceBEq,Nat.reduceSub,Nat.reduceAdd,reduceIte,i0,i1,i2,hO]⟩
 | w w hw=>
  have hO:(((Str.ofString "is") == w) || (((Str.ofString "not") == w) || (((Str.ofString "begins") == w) || (((Str.ofString "least") == w) || (((Str.ofString "most") == w) || (((Str.ofString "has") == w) || (((Str.ofString "lacks") == w) || (((Str.ofString "in") == w) || ((Str.ofString "out") == w)))))))))=true:=by
   unfold ws at hw
   simp only[List.mem_cons,List.not_mem_nil,or_false] at hw
   rcases hw with rfl | rfl | rfl | rfl | rfl | rfl | rfl | rfl | rfl<;>decide +kernel
  have wl:w.length≤6∧∀ c ∈ w.cps.toList,c < 128:=by
   have:∀ w ∈ ws,w.length≤6∧∀ c ∈ w.cps.toList,c < 128:=by decide +kernel
   exact this w hw
  have hR1:=rep_len hn
  have hR2:=rep_len (x:=w) ⟨by omega,wl.2⟩
  have g18:(Str.ofString "there is no group ").length=18:=by decide +kernel
  have g34:(Str.ofString "the things don't go with the word ").length≤40:=by decide +kernel
  have g0:(Option.getD (none:Option Str) Str.empty).length=0:=rfl
  have f1:ftrD "there is no group " none (.str nm)=.ok (.str (Str.ofString "there is no group "++reprText nm++Option.getD none Str.empty)):=by rw[Ev.ftr_s,Ev.szOk_t (by omega)];rfl
  have f2:ftrD "the things don't go with the word " none (.str w)=.ok (.str (Str.ofString "the things don't go with the word "++reprText w++Option.getD none Str.empty)):=by rw[Ev.ftr_s,Ev.szOk_t (by omega)];rfl
  generalize Str.ofString "there is no group "++reprText nm++Option.getD none Str.empty=M1 at *
  generalize Str.ofString "the things don't go with the word "++reprText w++Option.getD none Str.empty=M2 at *
  obtain⟨k1,ek1⟩:∃ k1,(w == Str.ofString "in")=k1:=⟨_,rfl⟩
  obtain⟨k2,ek2⟩:∃ k2,(w == Str.ofString "out")=k2:=⟨_,rfl⟩
  have s1:(Str.ofString "in" == w)=k1:=by rw[BEq.comm];exact ek1
  have s2:(Str.ofString "out" == w)=k2:=by rw[BEq.comm];exact ek2
  rw[s1,s2] at hO
  have hB:=fun n m=>both od he hl n m hw
  have uniq:∃ b,(∀ n,callF T (n + 4) 27 [.str w,.lst false ts]=.ok (.bl b))∧∀ m,callF T (m + 2) 38 [.str w,.lst false ts]=.ok (.bl b):=by
   obtain⟨b,h1,h2⟩:=hB 0 0
   refine⟨b,fun n=>?_,fun m=>?_⟩
   ·obtain⟨b',h1',h2'⟩:=hB n 0
    rw[h2] at h2'
    cases h2'
    exact h1'
   ·obtain⟨b',h1',h2'⟩:=hB 0 m
    rw[h1] at h1'
    cases h1'
    exact h2'
  obtain⟨b,hg,hf⟩:=uniq
  generalize hin:(gs.any fun g=>g == nm)=inn at *
  cases k1 with
  | true=>
   cases inn with
   | false=>exact⟨"group",fun n=>by rw[Ev.go (show T 39=some d39 from rfl) (show d39.np=2 from rfl) (show d39.G.N.length=2 from rfl) (show d39.body=b39 from rfl) rfl];unfold b39;simp -implicitDefEqProofs (disch:=omega) only[ev0,Nat.reduceBEq,Nat.reduceSub,Nat.reduceAdd,reduceIte,i0,i1,i2,s1,s2,ek1,ek2,hO,ai,he],.inr ⟨"NoGroup",fun n=>by rw[Ev.go (show T 28=some d28 from rfl) (show d28.np=2 from rfl) (show d28.G.N.length=4 from rfl) (show d28.body=b28 from rfl) rfl];unfold b28;simp -implicitDefEqProofs (disch:=omega) only[ev0,Nat.reduceBEq,Nat.reduceSub,Nat.reduceAdd,reduceIte,i0,i1,i2,s1,s2,ek1,ek2,hO,ai,he,f1],by decide +kernel,fun n=>(word_ok n).2.1,by decide +kernel⟩⟩
   | true=>
    cases b with
    | false=>exact⟨"things",fun n=>by have hf:=hf n;rw[Ev.go (show T 39=some d39 from rfl) (show d39.np=2 from rfl) (show d39.G.N.length=2 from rfl) (show d39.body=b39 from rfl) rfl];unfold b39;simp -implicitDefEqProofs (disch:=omega) only[ev0,Nat.reduceBEq,Nat.reduceSub,Nat.reduceAdd,reduceIte,i0,i1,i2,s1,s2,ek1,ek2,hO,ai,he,hf],.inr ⟨"BadThings",fun n=>by have hg:=hg n;rw[Ev.go (show T 28=some d28 from rfl) (show d28.np=2 from rfl) (show d28.G.N.length=4 from rfl) (show d28.body=b28 from rfl) rfl];unfold b28;simp -implicitDefEqProofs (disch:=omega) only[ev0,Nat.reduceBEq,Nat.reduceSub,Nat.reduceAdd,reduceIte,i0,i1,i2,s1,s2,ek1,ek2,hO,ai,he,hg,f2],by decide +kernel,fun n=>(word_ok n).2.2,by decide +kernel⟩⟩
    | true=>exact⟨"none",fun n=>by have hf:=hf n;rw[Ev.go (show T 39=some d39 from rfl) (show d39.np=2 from rfl) (show d39.G.N.length=2 from rfl) (show d39.body=b39 from rfl) rfl];unfold b39;simp -implicitDefEqProofs (disch:=omega) only[ev0,Nat.reduceBEq,Nat.reduceSub,Nat.reduceAdd,reduceIte,i0,i1,i2,s1,s2,ek1,ek2,hO,ai,he,hf],.inl ⟨rfl,fun n=>by have hg:=hg n;rw[Ev.go (show T 28=some d28 from rfl) (show d28.np=2 from rfl) (show d28.G.N.length=4 from rfl) (show d28.body=b28 from rfl) rfl];unfold b28;simp -implicitDefEqProofs (disch:=omega) only[ev0,Nat.reduceBEq,Nat.reduceSub,Nat.reduceAdd,reduceIte,i0,i1,i2,s1,s2,ek1,ek2,hO,ai,he,hg]⟩⟩
  | false=>
   cases k2 with
   | true=>
    cases inn with
    | false=>exact⟨"group",fun n=>by rw[Ev.go (show T 39=some d39 from rfl) (show d39.np=2 from rfl) (show d39.G.N.length=2 from rfl) (show d39.body=b39 from rfl) rfl];unfold b39;simp -implicitDefEqProofs (disch:=omega) only[ev0,Nat.reduceBEq,Nat.reduceSub,Nat.reduceAdd,reduceIte,i0,i1,i2,s1,s2,ek1,ek2,hO,ai,he],.inr ⟨"NoGroup",fun n=>by rw[Ev.go (show T 28=some d28 from rfl) (show d28.np=2 from rfl) (show d28.G.N.length=4 from rfl) (show d28.body=b28 from rfl) rfl];unfold b28;simp -implicitDefEqProofs (disch:=omega) only[ev0,Nat.reduceBEq,Nat.reduceSub,Nat.reduceAdd,reduceIte,i0,i1,i2,s1,s2,ek1,ek2,hO,ai,he,f1],by decide +kernel,fun n=>(word_ok n).2.1,by decide +kernel⟩⟩
    | true=>
     cases b with
     | false=>exact⟨"things",fun n=>by have hf:=hf n;rw[Ev.go (show T 39=some d39 from rfl) (show d39.np=2 from rfl) (show d39.G.N.length=2 from rfl) (show d39.body=b39 from rfl) rfl];unfold b39;simp -implicitDefEqProofs (disch:=omega) only[ev0,Nat.reduceBEq,Nat.reduceSub,Nat.reduceAdd,reduceIte,i0,i1,i2,s1,s2,ek1,ek2,hO,ai,he,hf],.inr ⟨"BadThings",fun n=>by have hg:=hg n;rw[Ev.go (show T 28=some d28 from rfl) (show d28.np=2 from rfl) (show d28.G.N.length=4 from rfl) (show d28.body=b28 from rfl) rfl];unfold b28;simp -implicitDefEqProofs (disch:=omega) only[ev0,Nat.reduceBEq,Nat.reduceSub,Nat.reduceAdd,reduceIte,i0,i1,i2,s1,s2,ek1,ek2,hO,ai,he,hg,f2],by decide +kernel,fun n=>(word_ok n).2.2,by decide +kernel⟩⟩
     | true=>exact⟨"none",fun n=>by have hf:=hf n;rw[Ev.go (show T 39=some d39 from rfl) (show d39.np=2 from rfl) (show d39.G.N.length=2 from rfl) (show d39.body=b39 from rfl) rfl];unfold b39;simp -implicitDefEqProofs (disch:=omega) only[ev0,Nat.reduceBEq,Nat.reduceSub,Nat.reduceAdd,reduceIte,i0,i1,i2,s1,s2,ek1,ek2,hO,ai,he,hf],.inl ⟨rfl,fun n=>by have hg:=hg n;rw[Ev.go (show T 28=some d28 from rfl) (show d28.np=2 from rfl) (show d28.G.N.length=4 from rfl) (show d28.body=b28 from rfl) rfl];unfold b28;simp -implicitDefEqProofs (disch:=omega) only[ev0,Nat.reduceBEq,Nat.reduceSub,Nat.reduceAdd,reduceIte,i0,i1,i2,s1,s2,ek1,ek2,hO,ai,he,hg]⟩⟩
   | false=>
    simp only[Bool.or_false] at hO
    cases b with
    | false=>exact⟨"things",fun n=>by have hf:=hf n;rw[Ev.go (show T 39=some d39 from rfl) (show d39.np=2 from rfl) (show d39.G.N.length=2 from rfl) (show d39.body=b39 from rfl) rfl];unfold b39;simp -implicitDefEqProofs (disch:=omega) only[ev0,Nat.reduceBEq,Nat.reduceSub,Nat.reduceAdd,reduceIte,i0,i1,i2,s1,s2,ek1,ek2,hO,ai,he,hf],.inr ⟨"BadThings",fun n=>by have hg:=hg n;rw[Ev.go (show T 28=some d28 from rfl) (show d28.np=2 from rfl) (show d28.G.N.length=4 from rfl) (show d28.body=b28 from rfl) rfl];unfold b28;simp -implicitDefEqProofs (disch:=omega) only[ev0,Nat.reduceBEq,Nat.reduceSub,Nat.reduceAdd,reduceIte,i0,i1,i2,s1,s2,ek1,ek2,hO,ai,he,hg,f2],by decide +kernel,fun n=>(word_ok n).2.2,by decide +kernel⟩⟩
    | true=>exact⟨"none",fun n=>by have hf:=hf n;rw[Ev.go (show T 39=some d39 from rfl) (show d39.np=2 from rfl) (show d39.G.N.length=2 from rfl) (show d39.body=b39 from rfl) rfl];unfold b39;simp -implicitDefEqProofs (disch:=omega) only[ev0,Nat.reduceBEq,Nat.reduceSub,Nat.reduceAdd,reduceIte,i0,i1,i2,s1,s2,ek1,ek2,hO,ai,he,hf],.inl ⟨rfl,fun n=>by have hg:=hg n;rw[Ev.go (show T 28=some d28 from rfl) (show d28.np=2 from rfl) (show d28.G.N.length=4 from rfl) (show d28.body=b28 from rfl) rfl];unfold b28;simp -implicitDefEqProofs (disch:=omega) only[ev0,Nat.reduceBEq,Nat.reduceSub,Nat.reduceAdd,reduceIte,i0,i1,i2,s1,s2,ek1,ek2,hO,ai,he,hg]⟩⟩
end Law
namespace Law
open PySem PySem.Spec L2 L2.Fr
theorem wo_eq (k:Nat) {d:D} (h:Wo d):eqN (k + 3) d d=.ok true∧eqN (k + 3) d (er d)=.ok true∧eqN (k + 3) (er d) d=.ok true∧eqN (k + 3) (er d) (er d)=.ok true:=by
 cases h with
 | w x hx=>rw[er,Ev.e_ss,beq_self_eq_true];exact⟨rfl,rfl,rfl,rfl⟩
 | x x hx=>rw[er,Ev.e_ss,beq_self_eq_true];exact⟨rfl,rfl,rfl,rfl⟩
 | non=>exact⟨rfl,rfl,rfl,rfl⟩
 | tr=>exact⟨rfl,rfl,rfl,rfl⟩
 | i3=>exact⟨rfl,rfl,rfl,rfl⟩
 | l1 o=>refine⟨?_,?_,?_,?_⟩<;>kernel_rfl
 | t1=>refine⟨?_,?_,?_,?_⟩<;>kernel_rfl
theorem od_eq (k:Nat) {d:D} (h:Od d):eqN (k + 3) d d=.ok true∧eqN (k + 3) d (er d)=.ok true∧eqN (k + 3) (er d) d=.ok true∧eqN (k + 3) (er d) (er d)=.ok true:=by
 cases h with
 | str x hx=>rw[er,Ev.e_ss,beq_self_eq_true];exact⟨rfl,rfl,rfl,rfl⟩
 | int i=>rw[er,Ev.e_ii,beq_self_eq_true];exact⟨rfl,rfl,rfl,rfl⟩
 | non=>exact⟨rfl,rfl,rfl,rfl⟩
 | bl b=>rw[er,Ev.e_bb,beq_self_eq_true];exact⟨rfl,rfl,rfl,rfl⟩
 | l1 o=>refine⟨?_,?_,?_,?_⟩<;>kernel_rfl
 | t1=>refine⟨?_,?_,?_,?_⟩<;>kernel_rfl
theorem ods_eq (k:Nat):∀ {ts:List D},Ods ts→eqsG (eqN (k + 3)) ts ts=.ok true∧eqsG (eqN (k + 3)) ts (ers ts)=.ok true∧eqsG (eqN (k + 3)) (ers ts) ts=.ok true∧eqsG (eqN (k + 3)) (ers ts) (ers ts)=.ok true
 | [],_=>⟨rfl,rfl,rfl,rfl⟩
 | d::ts,h=>by
  obtain⟨a1,a2,a3,a4⟩:=od_eq k (h d (by simp))
  obtain⟨b1,b2,b3,b4⟩:=ods_eq k (ts:=ts) fun e he=>h e (List.mem_cons_of_mem _ he)
  rw[ers,Ev.es_c,Ev.es_c,Ev.es_c,Ev.es_c,a1,a2,a3,a4,Ev.bnd_k,Ev.bnd_k,Ev.bnd_k,Ev.bnd_k,Ev.esK_k,Ev.esK_k,Ev.esK_k,Ev.esK_k,b1,b2,b3,b4]
  exact⟨rfl,rfl,rfl,rfl⟩
theorem od_lf {d:D} (h:Od d):lfree (er d)=lfree d:=by cases h<;>rfl
theorem ods_lf:∀ {ts:List D},Ods ts→lfrees (ers ts)=lfrees ts
 | [],_=>rfl
 | d::ts,h=>by
  rw[ers]
  show (lfree (er d) && lfrees (ers ts))=(lfree d && lfrees ts)
  rw[od_lf (h d (by simp)),ods_lf fun e he=>h e (List.mem_cons_of_mem _ he)]
noncomputable def tLaw:List IS:=[(.asg (.nm 4) (.bin .add (.call 29 [(.v 0),(.v 3)]) (.bin .mul (.c (.int 19)) (.v 3)))),(.asg (.nm 5) (.call 36 [(.call 34 [(.bin .fdiv (.v 4) (.c (.int 7))),(.sl (.v 1) none (some (.c (.int 3)))),(.v 2)]),(.v 4)])),(.asg (.nm 6) (.tup [(.idx (.v 5) (.c (.int 0))),(.idx (.v 5) (.c (.int 1))),(.bi .list [(.idx (.v 5) (.c (.int 2)))])])),(.asg (.nm 7) (.c (.str "none"))),(.asg (.nm 8) (.c .non)),(.tryc 8 28 [(.v 6),(.bi .list [(.v 2)])] 56 ["NoWord","NoGroup","BadThings"] 9 [(.asg (.nm 7) (.call 32 [(.v 9)]))]),(.if_ (.or_ (.cmp .ne (.v 7) (.call 39 [(.v 5),(.v 2)])) (.and_ (.cmp .eq (.v 7) (.c (.str "none"))) (.cmp .isn (.v 8) (.c (.bl true))))) [(.ret (.c (.bl false)))] []),(.if_ (.cmp .ne (.v 6) (.v 5)) [(.ret (.c (.bl false)))] [])]
theorem cutF3 {fs:List Str}:cutG (fs.map D.str) none (some 3)=(fs.take 3).map .str:=by
 rw[Ev.cutG_map,Ev.cut_to _ (by decide)]
 rfl
theorem turn_ok (ns:List Int) {fs gs:List Str} (hf:fs.length=6) (hn:∀ x ∈ fs,Nam x) (hg:∀ x ∈ gs,Nam x) (lg:gs.length≤3) (k:Nat) (o1 o2:Bool) (a3 a4 a5 a6 a7 a8 a9:Option D) :
  ∃ b3 b4 b5 b6 b7 b8,Ev.turn (callF T 12) (.nm 3) tLaw (.int (0 + (k:Nat))) [some (.lst false (ns.map .int)),some (.lst o1 (fs.map .str)),some (.lst o2 (gs.map .str)),a3,a4,a5,a6,a7,a8,none]=.ok (.nx [some (.lst false (ns.map .int)),some (.lst false (fs.map .str)),some (.lst false (gs.map .str)),b3,b4,b5,b6,b7,b8,none]):=by
 have e0:=cell (show T 29=some d29 from rfl) rfl rfl rfl 11 ns (0 + (k:Nat)) (by omega)
 generalize hc:ns.getD (0 + (k:Int)).toNat 0 + 19 * (0 + (k:Nat))=c
 obtain⟨nm,w,ts,ec,n1,w1,l1,t1⟩:=cond_ok 9 (c / 7) (ns:=fs.take 3) (gs:=gs) (by rw[List.length_take];omega) lg (fun x hx=>hn x (List.mem_of_mem_take hx)) hg
 obtain⟨nm',wd,o,ts',es,n2,w2,l2,od⟩:=spoil_ok 10 n1 w1 l1 t1 c
 obtain⟨v,V⟩:=verd (gs:=gs) n2 w2.er (er_er wd) od.ers (ers_ers ts') (by rw[ers_length];exact l2)
 have ed:=V.due 9
 have q1:=wo_eq 36 w2
 have q2:=ods_eq 35 od
 have tl:=ers_lfrees (th_lf ts)
 have c1:=cutF3 (fs:=fs)
 have f1:=Ev.ers_ss (fs.take 3)
 have f2:=Ev.ers_ss fs
 have f3:=Ev.ers_ss gs
 have f4:=Ev.lf_s (fs.take 3)
 have f5:=Ev.lf_s gs
 have f6:=Ev.ers_ii ns
 have ce:=V.chk
 have v1:vars (.sl (.v 1) none (some (.c (.int 3))))=[1]:=rfl
 have ee:=ers_ers ts'
 have eee:=er_er wd
 have ll:=ods_lf od
 generalize ts.map Th.d=TS at *
 generalize fs.map D.str=FS at *
 generalize (fs.take 3).map D.str=F1 at *
 generalize gs.map D.str=GS at *
 generalize ns.map D.int=NS at *
 have i0:opIx (.tup [.str nm',wd,.lst o ts']) (.int 0)=.ok (.str nm'):=rfl
 have i1:opIx (.tup [.str nm',wd,.lst o ts']) (.int 1)=.ok wd:=rfl
 have i2:opIx (.tup [.str nm',wd,.lst o ts']) (.int 2)=.ok (.lst o ts'):=rfl
 have j0:opIx (.tup [.str nm',er wd,.lst false (ers ts')]) (.int 0)=.ok (.str nm'):=rfl
 have j1:opIx (.tup [.str nm',er wd,.lst false (ers ts')]) (.int 1)=.ok (er wd):=rfl
 have j2:opIx (.tup [.str nm',er wd,.lst false (ers ts')]) (.int 2)=.ok (.lst false (ers ts')):=rfl
 obtain⟨p1,p2,p3,p4⟩:=q1
 obtain⟨r1,r2,r3,r4⟩:=q2
 have tt:(true != true)=false:=rfl
 rcases ce with ⟨rfl,ce⟩ | ⟨x,ce,hcs,hwd,hvn⟩
 ·have ce:=ce 7
  by_cases lw:lfree wd=true
  ·have kw:∀ e τ,keepD e wd τ=(wd,τ):=fun e τ=>by unfold keepD;rw[if_pos lw]
   cases lt':lfrees ts' with
   | true=>
    rw[lt'] at ll
    refine⟨some (.int (0 + (k:Nat))),some (.int c),some (.tup [.str nm',wd,.lst o ts']),some (.tup [.str nm',wd,.lst true ts']),some (.str "none"),some (.bl true),?_⟩
    unfold tLaw
    simp -implicitDefEqProofs (disch:=omega) only[ev0,Nat.reduceBEq,Nat.reduceSub,Nat.reduceAdd,reduceIte,Ev.turn_eq,e0,hc,ec,es,ed,tl,c1,f1,f2,f3,f4,f5,f6,v1,ee,eee,i0,i1,i2,j0,j1,j2,p1,p2,p3,p4,r1,r2,r3,r4,tt,kw,lw,ll,lt',ce]
   | false=>
    rw[lt'] at ll
    refine⟨some (.int (0 + (k:Nat))),some (.int c),some (.tup [.str nm',er wd,.lst false (ers ts')]),some (.tup [.str nm',wd,.lst true (ers ts')]),some (.str "none"),some (.bl true),?_⟩
    unfold tLaw
    simp -implicitDefEqProofs (disch:=omega) only[ev0,Nat.reduceBEq,Nat.reduceSub,Nat.reduceAdd,reduceIte,Ev.turn_eq,e0,hc,ec,es,ed,tl,c1,f1,f2,f3,f4,f5,f6,v1,ee,eee,i0,i1,i2,j0,j1,j2,p1,p2,p3,p4,r1,r2,r3,r4,tt,kw,lw,ll,lt',ce]
  ·have kw':∀ τ,keepD (.idx (.v 5) (.c (.int 1))) wd τ=(er wd,frz [5] τ):=fun τ=>by unfold keepD;rw[if_neg lw];rfl
   have lw:lfree wd=false:=by simpa using lw
   cases lt':lfrees ts' with
   | true=>
    rw[lt'] at ll
    refine⟨some (.int (0 + (k:Nat))),some (.int c),some (.tup [.str nm',er wd,.lst false (ers ts')]),some (.tup [.str nm',(er wd),.lst true (ers ts')]),some (.str "none"),some (.bl true),?_⟩
    unfold tLaw
    simp -implicitDefEqProofs (disch:=omega) only[ev0,Nat.reduceBEq,Nat.reduceSub,Nat.reduceAdd,reduceIte,Ev.turn_eq,e0,hc,ec,es,ed,tl,c1,f1,f2,f3,f4,f5,f6,v1,ee,eee,i0,i1,i2,j0,j1,j2,p1,p2,p3,p4,r1,r2,r3,r4,tt,kw',lw,ll,lt',ce]
   | false=>
    rw[lt'] at ll
    refine⟨some (.int (0 + (k:Nat))),some (.int c),some (.tup [.str nm',er wd,.lst false (ers ts')]),some (.tup [.str nm',(er wd),.lst true (ers ts')]),some (.str "none"),some (.bl true),?_⟩
    unfold tLaw
    simp -implicitDefEqProofs (disch:=omega) only[ev0,Nat.reduceBEq,Nat.reduceSub,Nat.reduceAdd,reduceIte,Ev.turn_eq,e0,hc,ec,es,ed,tl,c1,f1,f2,f3,f4,f5,f6,v1,ee,eee,i0,i1,i2,j0,j1,j2,p1,p2,p3,p4,r1,r2,r3,r4,tt,kw',lw,ll,lt',ce]
 ·have ce:=ce 7
  have hwd:=hwd 11
  by_cases lw:lfree wd=true
  ·have kw:∀ e τ,keepD e wd τ=(wd,τ):=fun e τ=>by unfold keepD;rw[if_pos lw]
   cases lt':lfrees ts' with
   | true=>
    rw[lt'] at ll
    refine⟨some (.int (0 + (k:Nat))),some (.int c),some (.tup [.str nm',wd,.lst o ts']),some (.tup [.str nm',wd,.lst true ts']),some (.str v),some .non,?_⟩
    unfold tLaw
    simp -implicitDefEqProofs (disch:=omega) only[ev0,Nat.reduceBEq,Nat.reduceSub,Nat.reduceAdd,reduceIte,Ev.turn_eq,e0,hc,ec,es,ed,tl,c1,f1,f2,f3,f4,f5,f6,v1,ee,eee,i0,i1,i2,j0,j1,j2,p1,p2,p3,p4,r1,r2,r3,r4,tt,kw,lw,ll,lt',ce,hcs,hwd,hvn]
   | false=>
    rw[lt'] at ll
    refine⟨some (.int (0 + (k:Nat))),some (.int c),some (.tup [.str nm',er wd,.lst false (ers ts')]),some (.tup [.str nm',wd,.lst true (ers ts')]),some (.str v),some .non,?_⟩
    unfold tLaw
    simp -implicitDefEqProofs (disch:=omega) only[ev0,Nat.reduceBEq,Nat.reduceSub,Nat.reduceAdd,reduceIte,Ev.turn_eq,e0,hc,ec,es,ed,tl,c1,f1,f2,f3,f4,f5,f6,v1,ee,eee,i0,i1,i2,j0,j1,j2,p1,p2,p3,p4,r1,r2,r3,r4,tt,kw,lw,ll,lt',ce,hcs,hwd,hvn]
  ·have kw':∀ τ,keepD (.idx (.v 5) (.c (.int 1))) wd τ=(er wd,frz [5] τ):=fun τ=>by unfold keepD;rw[if_neg lw];rfl
   have lw:lfree wd=false:=by simpa using lw
   cases lt':lfrees ts' with
   | true=>
    rw[lt'] at ll
    refine⟨some (.int (0 + (k:Nat))),some (.int c),some (.tup [.str nm',er wd,.lst false (ers ts')]),some (.tup [.str nm',(er wd),.lst true (ers ts')]),some (.str v),some .non,?_⟩
    unfold tLaw
    simp -implicitDefEqProofs (disch:=omega) only[ev0,Nat.reduceBEq,Nat.reduceSub,Nat.reduceAdd,reduceIte,Ev.turn_eq,e0,hc,ec,es,ed,tl,c1,f1,f2,f3,f4,f5,f6,v1,ee,eee,i0,i1,i2,j0,j1,j2,p1,p2,p3,p4,r1,r2,r3,r4,tt,kw',lw,ll,lt',ce,hcs,hwd,hvn]
   | false=>
    rw[lt'] at ll
    refine⟨some (.int (0 + (k:Nat))),some (.int c),some (.tup [.str nm',er wd,.lst false (ers ts')]),some (.tup [.str nm',(er wd),.lst true (ers ts')]),some (.str v),some .non,?_⟩
    unfold tLaw
    simp -implicitDefEqProofs (disch:=omega) only[ev0,Nat.reduceBEq,Nat.reduceSub,Nat.reduceAdd,reduceIte,Ev.turn_eq,e0,hc,ec,es,ed,tl,c1,f1,f2,f3,f4,f5,f6,v1,ee,eee,i0,i1,i2,j0,j1,j2,p1,p2,p3,p4,r1,r2,r3,r4,tt,kw',lw,ll,lt',ce,hcs,hwd,hvn]
theorem holds (ns:List Int) (h:ns.length≤63):callF T (12 + 1) lawN [.lst false (ns.map .int)]=.ok (.bl true):=by
 have e0:=cell (show T 29=some d29 from rfl) rfl rfl rfl 11 ns 0 (by decide)
 have e1:=cell (show T 29=some d29 from rfl) rfl rfl rfl 11 ns 1 (by decide)
 obtain⟨fs,ef,hf⟩:=names_ok 10 (ns.getD 0 0 / 5) 6 (by decide) (by decide)
 have hf6:fs.length=6:=hf.len
 have m0:=Int.emod_nonneg (ns.getD (Int.toNat 1) 0) (show (4:Int)≠0 by decide)
 have m1:=Int.emod_lt_of_pos (ns.getD (Int.toNat 1) 0) (show (0:Int) < 4 by decide)
 have c1:cutG (fs.map D.str) (some 3) none=(fs.drop 3).map .str:=by rw[Ev.cutG_map,cut_from _ (by decide)];rfl
 have c2:cutG ((fs.drop 3).map D.str) none (some (ns.getD (Int.toNat 1) 0 % 4))=((fs.drop 3).take (ns.getD (Int.toNat 1) 0 % 4).toNat).map .str:=by rw[Ev.cutG_map,Ev.cut_to _ m0]
 have hg:∀ x ∈ (fs.drop 3).take (ns.getD (Int.toNat 1) 0 % 4).toNat,Nam x:=fun x hx=>hf.nam x (List.mem_of_mem_drop (List.mem_of_mem_take hx))
 have lg:((fs.drop 3).take (ns.getD (Int.toNat 1) 0 % 4).toNat).length≤3:=by rw[List.length_take,List.length_drop];omega
 generalize (fs.drop 3).take (ns.getD (Int.toNat 1) 0 % 4).toNat=gs at *
 obtain⟨τ',e,o1,o2,a3,a4,a5,a6,a7,a8,rfl⟩:=Ev.for_all (its:=rngD 0 8) (τ:=[some (.lst false (ns.map .int)),some (.lst true (fs.map .str)),some (.lst true (gs.map .str)),none,none,none,none,none,none,none]) (body:=Ev.turn (callF T 12) (.nm 3) tLaw)
  (fun _ τ=>∃ o1 o2 a3 a4 a5 a6 a7 a8,τ=[some (.lst false (ns.map .int)),some (.lst o1 (fs.map .str)),some (.lst o2 (gs.map .str)),a3,a4,a5,a6,a7,a8,none]) ⟨true,true,none,none,none,none,none,none,rfl⟩ (by
   rintro i x τ hx ⟨o1,o2,a3,a4,a5,a6,a7,a8,rfl⟩
   unfold rngD at hx
   obtain⟨k,hk,rfl⟩:=List.mem_map.mp (List.mem_of_getElem? hx)
   obtain⟨b3,b4,b5,b6,b7,b8,e⟩:=turn_ok ns hf6 hf.nam hg lg k o1 o2 a3 a4 a5 a6 a7 a8 none
   exact⟨_,e,false,false,b3,b4,b5,b6,b7,b8,rfl⟩)
 rw[Ev.go (show T lawN=some d40 from rfl) (show d40.np=1 from rfl) (show d40.G.N.length=10 from rfl) (show d40.body=[(.asg (.nm 1) (.call 31 [(.bin .fdiv (.call 29 [(.v 0),(.c (.int 0))]) (.c (.int 5))),(.c (.int 6))])),(.asg (.nm 2) (.sl (.sl (.v 1) (some (.c (.int 3))) none) none (some (.bin .mod (.call 29 [(.v 0),(.c (.int 1))]) (.c (.int 4)))))),(.for_ (.nm 3) (.rng1 (.c (.int 8))) tLaw),(.ret (.c (.bl true)))] from rfl) rfl]
 have l5:=Ev.ers_ii ns
 have l6:=Ev.lf_s fs
 have l7:=Ev.ers_ss fs
 have l8:=Ev.lf_s gs
 have l9:=Ev.lf_s (fs.drop 3)
 have t0:Int.toNat 0=0:=rfl
 rw[t0] at e0
 generalize fs.map D.str=FS at *
 generalize (fs.drop 3).map D.str=FD at *
 generalize gs.map D.str=GS at *
 generalize ns.map D.int=NS at *
 simp -implicitDefEqProofs (disch:=omega) only[ev0,Nat.reduceBEq,Nat.reduceSub,Nat.reduceAdd,reduceIte,e0,e1,ef,e,c1,c2,l5,l6,l7,l8,l9]
end Law
namespace PySem.W.Fast
theorem tw6562968109479202760:True:=⟨⟩
theorem tw1113510361994931106:True:=⟨⟩
theorem tw3936209094362708614:True:=⟨⟩
theorem tw12448622174013543132:True:=⟨⟩
theorem tw3980158216618616331:True:=⟨⟩
theorem tw12823958368676482538:True:=⟨⟩
theorem tw4154825871066680904:True:=⟨⟩
theorem tw3840623538027936556:True:=⟨⟩
theorem tw747828908406820193:True:=⟨⟩
theorem tw14949637708807956663:True:=⟨⟩
theorem tw13056682543023647798:True:=⟨⟩
theorem tw9301490126133108877:True:=⟨⟩
theorem tw12251264467635634535:True:=⟨⟩
theorem tw14552347298620039834:True:=⟨⟩
theorem tw9147978596855336889:True:=⟨⟩
theorem tw11850348366989447923:True:=⟨⟩
theorem tw4720651075664857030:True:=⟨⟩
theorem tw16573072764388461504:True:=⟨⟩
theorem tw18324105269511062966:True:=⟨⟩
theorem tw3579750045711196660:True:=⟨⟩
theorem tw8058956027490418343:True:=⟨⟩
theorem tw18349273081409177735:True:=⟨⟩
theorem tw11222550669833019347:True:=⟨⟩
theorem tw17206288712211963857:True:=⟨⟩
theorem tw2755942366425243071:True:=⟨⟩
theorem tw17543612315053422294:True:=⟨⟩
theorem tw10802924061291313832:True:=⟨⟩
theorem tw17966762972401076339:True:=⟨⟩
theorem tw3884012606236818554:True:=⟨⟩
theorem tw10182613283241374067:True:=⟨⟩
theorem tw3189003864723891770:True:=⟨⟩
theorem tw387744726573935417:True:=⟨⟩
theorem tw7685443708131034212:True:=⟨⟩
theorem tw11182820854594586752:True:=⟨⟩
theorem tw6854234133584450010:True:=⟨⟩
theorem tw2639194366682646654:True:=⟨⟩
theorem tw5024987915682018557:True:=⟨⟩
theorem tw10189557963628508102:True:=⟨⟩
theorem tw2026251515715006015:True:=⟨⟩
theorem tw6588618573970760270:True:=⟨⟩
theorem tw16755506630217262006:True:=⟨⟩
theorem tw10717602262710004512:True:=⟨⟩
theorem tw13728050986470964992:True:=⟨⟩
theorem tw889662251694102181:True:=⟨⟩
theorem tw3207794203356412591:True:=⟨⟩
theorem tw3159663355249148074:True:=⟨⟩
theorem tw3841839482550200596:True:=⟨⟩
theorem tw1372274178871690100:True:=⟨⟩
theorem tw11511009487641984943:True:=⟨⟩
theorem tw122002133509454777:True:=⟨⟩
theorem tw5337906210709877653:True:=⟨⟩
theorem tw11518122327582733675:True:=⟨⟩
theorem tw2472563582572403236:True:=⟨⟩
theorem tw11572497393496483421:True:=⟨⟩
theorem tw6914751968011020287:True:=⟨⟩
theorem tw10093931751791832770:True:=⟨⟩
theorem tw14292360232124843577:True:=⟨⟩
theorem tw1312435683578696039:True:=⟨⟩
theorem tw9196645288705762571:True:=⟨⟩
theorem tw735879730626232944:True:=⟨⟩
theorem tw11986207114277045616:True:=⟨⟩
theorem tw5955167141154222443:True:=⟨⟩
theorem tw11613146033736222858:True:=⟨⟩
theorem tw11871266204619301204:True:=⟨⟩
theorem tw2563633762956556031:True:=⟨⟩
theorem tw173084828122964544:True:=⟨⟩
theorem tw11160779037267739498:True:=⟨⟩
theorem tw3582495464953291255:True:=⟨⟩
theorem tw4259441194309966678:True:=⟨⟩
theorem tw15183447706233519529:True:=⟨⟩
theorem tw7336052100295632369:True:=⟨⟩
theorem tw578689283874529152:True:=⟨⟩
theorem tw3500188702522100344:True:=⟨⟩
theorem tw18101297866594074237:True:=⟨⟩
theorem tw8123976796838949740:True:=⟨⟩
theorem tw440195280931278665:True:=⟨⟩
theorem tw17675395758675898210:True:=⟨⟩
theorem tw4391717907515798921:True:=⟨⟩
theorem tw12960578629553668383:True:=⟨⟩
theorem tw5464000523437927163:True:=⟨⟩
theorem tw7809421076812317648:True:=⟨⟩
theorem tw8595167189176144955:True:=⟨⟩
theorem tw13763230691667435897:True:=⟨⟩
theorem tw14298461737344854489:True:=⟨⟩
theorem tw16585120563296159322:True:=⟨⟩
theorem tw10668912326476559828:True:=⟨⟩
theorem tw8375957182072156126:True:=⟨⟩
theorem tw174569255048276101:True:=⟨⟩
theorem tw10766397148623585061:True:=⟨⟩
theorem tw12103127674269231627:True:=⟨⟩
theorem tw21570559057698357:True:=⟨⟩
theorem tw10166028032987186968:True:=⟨⟩
theorem tw1594746523298522841:True:=⟨⟩
theorem tw7156571502153887043:True:=⟨⟩
theorem tw9251985410402653087:True:=⟨⟩
theorem tw568527765741708266:True:=⟨⟩
theorem tw830763552303588123:True:=⟨⟩
theorem tw12360590850579697225:True:=⟨⟩
theorem tw4724645134394045963:True:=⟨⟩
theorem tw12204756356488537719:True:=⟨⟩
theorem tw16350949988351795632:True:=⟨⟩
theorem tw7942915769286776975:True:=⟨⟩
theorem tw13539965287324304561:True:=⟨⟩
theorem tw4089097542892694224:True:=⟨⟩
theorem tw10189354730948504311:True:=⟨⟩
theorem tw11493446623349864537:True:=⟨⟩
theorem tw3183715930766453872:True:=⟨⟩
theorem tw1227889855372751086:True:=⟨⟩
theorem tw3567324744433592138:True:=⟨⟩
theorem tw14384816013896776776:True:=⟨⟩
theorem tw3727654791442944882:True:=⟨⟩
theorem tw3876771940271525437:True:=⟨⟩
theorem tw12955810379799963863:True:=⟨⟩
theorem tw5178143127255901403:True:=⟨⟩
theorem tw7908299558298039141:True:=⟨⟩
theorem tw14102305292419063675:True:=⟨⟩
theorem tw767323942128293987:True:=⟨⟩
theorem tw10221633444493298575:True:=⟨⟩
theorem tw18206399088312802650:True:=⟨⟩
theorem tw1133614734499287075:True:=⟨⟩
theorem tw11380541736041342021:True:=⟨⟩
theorem tw1755797711607162639:True:=⟨⟩
theorem tw13998261895485616521:True:=⟨⟩
theorem tw5196153576347224213:True:=⟨⟩
theorem tw2276846185244133320:True:=⟨⟩
theorem tw9154037370358657224:True:=⟨⟩
theorem tw17223847475126716028:True:=⟨⟩
theorem tw18408617533605287040:True:=⟨⟩
theorem tw6437575718741616888:True:=⟨⟩
theorem tw9827698331213670596:True:=⟨⟩
theorem tw4273175455053559220:True:=⟨⟩
theorem tw6433192657849764313:True:=⟨⟩
theorem tw6143045283415679908:True:=⟨⟩
theorem tw11590506703606848639:True:=⟨⟩
theorem tw4614637096053399764:True:=⟨⟩
theorem tw15566573931666350462:True:=⟨⟩
theorem tw17700159085085894437:True:=⟨⟩
theorem tw10256665294353614823:True:=⟨⟩
theorem tw13464219345478118539:True:=⟨⟩
theorem tw9230869676011908940:True:=⟨⟩
theorem tw418826438825206761:True:=⟨⟩
theorem tw8780299460741824932:True:=⟨⟩
theorem tw1596998042888025264:True:=⟨⟩
theorem tw2429249676115057345:True:=⟨⟩
theorem tw12513381579969106226:True:=⟨⟩
theorem tw6137572496199922570:True:=⟨⟩
theorem tw16280290016985515839:True:=⟨⟩
theorem tw13518508645436011839:True:=⟨⟩
theorem tw14759076099466704609:True:=⟨⟩
theorem tw8451260074353523210:True:=⟨⟩
theorem tw13401263340896356334:True:=⟨⟩
theorem tw3911413507461471922:True:=⟨⟩
theorem tw16294689090414133470:True:=⟨⟩
theorem tw5344133935728791273:True:=⟨⟩
theorem tw6679428848817805295:True:=⟨⟩
theorem tw7106294168083388039:True:=⟨⟩
theorem tw5834095678955605080:True:=⟨⟩
theorem tw1237778523904204834:True:=⟨⟩
theorem tw14357929777782387068:True:=⟨⟩
theorem tw16011947682274813070:True:=⟨⟩
theorem tw12178650888067907364:True:=⟨⟩
theorem tw9877785577199351144:True:=⟨⟩
theorem tw17721723793304178638:True:=⟨⟩
theorem tw17130286452246215205:True:=⟨⟩
theorem tw4877907888953229108:True:=⟨⟩
theorem tw3999097943273801195:True:=⟨⟩
theorem tw13377349159900871551:True:=⟨⟩
theorem tw9448614311930987864:True:=⟨⟩
theorem tw4742003055371157244:True:=⟨⟩
theorem tw12698914430576508287:True:=⟨⟩
theorem tw4072089369508865224:True:=⟨⟩
theorem tw7310600719240569625:True:=⟨⟩
theorem tw6085144279549325352:True:=⟨⟩
theorem tw13696979437615240052:True:=⟨⟩
theorem tw5848526570989370177:True:=⟨⟩
theorem tw9354015951610059606:True:=⟨⟩
theorem tw14341744820881761414:True:=⟨⟩
theorem tw11252180897915713305:True:=⟨⟩
theorem tw13570143327677556347:True:=⟨⟩
theorem tw17323179223266488845:True:=⟨⟩
theorem tw1328641451270600893:True:=⟨⟩
theorem tw6757901917384719596:True:=⟨⟩
theorem tw11446773579491035643:True:=⟨⟩
theorem tw6101863734220573628:True:=⟨⟩
theorem tw6362230699143005624:True:=⟨⟩
theorem tw13474236451371831592:True:=⟨⟩
theorem tw5413489803449530875:True:=⟨⟩
theorem tw9544395121353211010:True:=⟨⟩
theorem tw14918418237712080108:True:=⟨⟩
theorem tw14454343776568289806:True:=⟨⟩
theorem tw1862569337299453279:True:=⟨⟩
theorem tw2398022846257813582:True:=⟨⟩
theorem tw9863109817097587481:True:=⟨⟩
theorem tw6477784971469781182:True:=⟨⟩
theorem tw10027786615751578687:True:=⟨⟩
theorem tw4559753775403830737:True:=⟨⟩
theorem tw6640712032777872303:True:=⟨⟩
theorem tw1988687698622721061:True:=⟨⟩
theorem tw4457656068382600659:True:=⟨⟩
theorem tw6077651639659718448:True:=⟨⟩
theorem tw14282278739496801124:True:=⟨⟩
theorem tw11601079161065479054:True:=⟨⟩
theorem tw2791334681248644669:True:=⟨⟩
theorem tw9245486308242657790:True:=⟨⟩
theorem tw3980647635113137391:True:=⟨⟩
theorem tw9951225883847779162:True:=⟨⟩
theorem tw12582505458282265224:True:=⟨⟩
theorem tw147249476646455975:True:=⟨⟩
theorem tw6702577807883112667:True:=⟨⟩
theorem tw13446506954333342881:True:=⟨⟩
theorem tw14661856391614930224:True:=⟨⟩
theorem tw2392819347968976321:True:=⟨⟩
theorem tw17481995719438925124:True:=⟨⟩
theorem tw16936593120466162777:True:=⟨⟩
theorem tw5977290784947895164:True:=⟨⟩
theorem tw11143796911635663765:True:=⟨⟩
theorem tw6423004048711677191:True:=⟨⟩
theorem tw2089786220703219714:True:=⟨⟩
theorem tw4969123638177766681:True:=⟨⟩
theorem tw379027047388095482:True:=⟨⟩
theorem tw11284690467118864826:True:=⟨⟩
theorem tw733574430829916965:True:=⟨⟩
theorem tw11621447985121221617:True:=⟨⟩
theorem tw3917017396978682399:True:=⟨⟩
theorem tw5308994051822286208:True:=⟨⟩
theorem tw4806303371541458879:True:=⟨⟩
theorem tw18019122517770550592:True:=⟨⟩
theorem tw12557682849345914258:True:=⟨⟩
theorem tw14229919895760390117:True:=⟨⟩
theorem tw9782078847458677566:True:=⟨⟩
theorem tw2535729118694392992:True:=⟨⟩
theorem tw13051316095857436664:True:=⟨⟩
theorem tw9513779164483734095:True:=⟨⟩
theorem tw17651925236824902559:True:=⟨⟩
theorem tw11362399498301035034:True:=⟨⟩
theorem tw12090332788173995169:True:=⟨⟩
theorem tw8466647776277696428:True:=⟨⟩
theorem tw14088876941983957325:True:=⟨⟩
theorem tw1542402783547645545:True:=⟨⟩
theorem tw1582147935209836776:True:=⟨⟩
theorem tw16291642430892653654:True:=⟨⟩
theorem tw3153699250598120852:True:=⟨⟩
theorem tw14874802746397479583:True:=⟨⟩
theorem tw683644620361714180:True:=⟨⟩
theorem tw17590150263012335174:True:=⟨⟩
theorem tw4445752762167341731:True:=⟨⟩
theorem tw10133579842726051704:True:=⟨⟩
theorem tw13065144238240901607:True:=⟨⟩
theorem tw13677596772049665929:True:=⟨⟩
theorem tw6734555522927343923:True:=⟨⟩
theorem tw14517432746340628513:True:=⟨⟩
theorem tw8775855027338194490:True:=⟨⟩
theorem tw4431671403976120319:True:=⟨⟩
theorem tw17511419431176324735:True:=⟨⟩
theorem tw10467770897612481676:True:=⟨⟩
theorem tw16794400800135664095:True:=⟨⟩
theorem tw12327355256313978555:True:=⟨⟩
theorem tw14922686297595198012:True:=⟨⟩
theorem tw4212510182522234402:True:=⟨⟩
theorem tw4472797148177500196:True:=⟨⟩
theorem tw11740896820260765318:True:=⟨⟩
theorem tw11603329151374790979:True:=⟨⟩
theorem tw402514098749888193:True:=⟨⟩
theorem tw13031120548346646044:True:=⟨⟩
theorem tw508260432973890430:True:=⟨⟩
theorem tw16636556049065642495:True:=⟨⟩
theorem tw12624266509836086439:True:=⟨⟩
theorem tw4167402329924189008:True:=⟨⟩
theorem tw14224408869973783921:True:=⟨⟩
theorem tw16712806370130836273:True:=⟨⟩
theorem tw9228620805776808600:True:=⟨⟩
theorem tw16340945806432232407:True:=⟨⟩
theorem tw1965496467081756049:True:=⟨⟩
theorem tw42372723029529177:True:=⟨⟩
theorem tw8981914956234434830:True:=⟨⟩
theorem tw13022047014424620125:True:=⟨⟩
theorem tw1865731669944925452:True:=⟨⟩
theorem tw8187753434712789637:True:=⟨⟩
theorem tw274246630733388148:True:=⟨⟩
theorem tw4332793569356057528:True:=⟨⟩
theorem tw2611081028924269926:True:=⟨⟩
theorem tw744622061330021397:True:=⟨⟩
theorem tw10645244454146626013:True:=⟨⟩
theorem tw2342783523363288609:True:=⟨⟩
theorem tw5812391507379796946:True:=⟨⟩
theorem tw13201566367683254691:True:=⟨⟩
theorem tw15259457899862994842:True:=⟨⟩
theorem tw17852706222659629028:True:=⟨⟩
theorem tw10576220074607061048:True:=⟨⟩
theorem tw8120970955643032990:True:=⟨⟩
theorem tw3027844489670447235:True:=⟨⟩
theorem tw3861765059364799664:True:=⟨⟩
theorem tw34807846374947346:True:=⟨⟩
theorem tw11132021002804580325:True:=⟨⟩
theorem tw17859832017911679430:True:=⟨⟩
theorem tw14065371496832502752:True:=⟨⟩
theorem tw2533589465684497710:True:=⟨⟩
theorem tw6344936711115068801:True:=⟨⟩
theorem tw1714830988890235801:True:=⟨⟩
theorem tw11148926227698871122:True:=⟨⟩
theorem tw333419514554814419:True:=⟨⟩
theorem tw4360926335148849888:True:=⟨⟩
theorem tw11729296887536087484:True:=⟨⟩
theorem tw11872225466114247363:True:=⟨⟩
theorem tw11293339387786485561:True:=⟨⟩
theorem tw11207020565262643248:True:=⟨⟩
theorem tw8304268103885080657:True:=⟨⟩
theorem tw16964305003571143187:True:=⟨⟩
theorem tw4230258996950491819:True:=⟨⟩
theorem tw14539960391466282395:True:=⟨⟩
theorem tw14007246917058076624:True:=⟨⟩
theorem tw11264339771076915013:True:=⟨⟩
theorem tw4073762637609852807:True:=⟨⟩
theorem tw15438433229700234615:True:=⟨⟩
theorem tw13190830753585051080:True:=⟨⟩
theorem tw10527475107505669265:True:=⟨⟩
theorem tw11086267960661963947:True:=⟨⟩
theorem tw10294333918844377146:True:=⟨⟩
theorem tw18087613387233443358:True:=⟨⟩
theorem tw3293707124924301024:True:=⟨⟩
theorem tw8534884152952694807:True:=⟨⟩
theorem tw234376257696057191:True:=⟨⟩
theorem tw4458481353581075441:True:=⟨⟩
theorem tw213632485288554323:True:=⟨⟩
theorem tw5321111119286335793:True:=⟨⟩
theorem tw14178830226568826842:True:=⟨⟩
theorem tw16340271875029814171:True:=⟨⟩
theorem tw12529233310982179504:True:=⟨⟩
theorem tw4344984443546921313:True:=⟨⟩
theorem tw231425010026754628:True:=⟨⟩
theorem tw3230490035773695485:True:=⟨⟩
theorem tw7900965591110769455:True:=⟨⟩
theorem tw1768879384948374553:True:=⟨⟩
theorem tw579456829526360977:True:=⟨⟩
theorem tw10028816893311093811:True:=⟨⟩
theorem tw12349075707425297855:True:=⟨⟩
theorem tw3983661974909258741:True:=⟨⟩
end PySem.W.Fast
open PySem PySem.W PyProof.Rows
set_option maxRecDepth 100000 in
set_option maxHeartbeats 0 in
theorem PySem.Challenge.cw_flagroll_k16_conditions_refused_holds : PySem.Challenge.rw_flagroll_k16_conditions_refused.Holds := by
  w_on; o_law; k_head; (case hw => w_witness2)
  k_fill
  refine L2.law_walk (l := PySem.Challenge.rw_flagroll_k16_conditions_refused) (T := Law.T) (n := 12) (f := Law.lawN) (x := Law.lawX) rfl rfl ⟨fun _ => rfl, by decide, by decide⟩ (fun w h Y => PySem.W.kIn_of Y) ?F Law.holds
  case F =>
    intro w mg fa h KX G hmg
    refine' Law.all_mk KX G hmg ?a23 ?l23 ?e23 ?k23 ?a24 ?l24 ?e24 ?k24 ?a25 ?l25 ?e25 ?k25 ?a26 ?l26 ?e26 ?k26 ?a27 ?l27 ?e27 ?k27 ?a28 ?l28 ?e28 ?k28 ?a29 ?l29 ?e29 ?k29 ?a30 ?l30 ?e30 ?k30 ?a31 ?l31 ?e31 ?k31 ?a32 ?l32 ?e32 ?k32 ?a33 ?l33 ?e33 ?k33 ?a34 ?l34 ?e34 ?k34 ?a35 ?l35 ?e35 ?k35 ?a36 ?l36 ?e36 ?k36 ?a37 ?l37 ?e37 ?k37 ?a38 ?l38 ?e38 ?k38 ?a39 ?l39 ?e39 ?k39 ?a40 ?l40 ?e40 ?k40 ?q18 ?q19 ?r19 ?q20 ?q21 ?q22 ?u41 ?u42 ?u43 ?u44 ?u45 ?u46 ?u47 ?u48 ?u49 ?u50 ?u51 ?u52 ?u53 ?u54 ?u56 ?u55 ?vn41 ?vg41 ?vo41 ?vc41 ?vb41 ?vj41 ?vi41 ?vx41 ?y41_44 ?y41_45 ?y41_46 ?y41_47 ?y41_48 ?y41_41 ?y41_42 ?y41_43 ?y41_49 ?y41_50 ?y41_51 ?y41_52 ?y41_53 ?y41_54 ?y41_55 ?m41_56 ?vn42 ?vg42 ?vo42 ?vc42 ?vb42 ?vj42 ?vi42 ?vx42 ?y42_44 ?y42_45 ?y42_46 ?y42_47 ?y42_48 ?y42_41 ?y42_42 ?y42_43 ?y42_49 ?y42_50 ?y42_51 ?y42_52 ?y42_53 ?y42_54 ?y42_55 ?m42_56 ?vn43 ?vg43 ?vo43 ?vc43 ?vb43 ?vj43 ?vi43 ?vx43 ?y43_44 ?y43_45 ?y43_46 ?y43_47 ?y43_48 ?y43_41 ?y43_42 ?y43_43 ?y43_49 ?y43_50 ?y43_51 ?y43_52 ?y43_53 ?y43_54 ?y43_55 ?m43_56 ?z0 ?z1 ?z2 ?z3 ?z4 ?z5 ?z6 ?z7 ?z8 ?z9 ?z10 ?z11 ?z12 ?z13 ?z14 ?z15 ?z16 ?z17
    (case a23 => k_is)
    (case l23 => k_is)
    (case e23 => k_is)
    (case k23 => k_is)
    (case a24 => k_is)
    (case l24 => k_is)
    (case e24 => k_is)
    (case k24 => k_is)
    (case a25 => k_is)
    (case l25 => k_is)
    (case e25 => k_is)
    (case k25 => k_is)
    (case a26 => k_is)
    (case l26 => k_is)
    (case e26 => k_is)
    (case k26 => k_is)
    (case a27 => k_is)
    (case l27 => k_is)
    (case e27 => k_is)
    (case k27 => k_is)
    (case a28 => k_is)
    (case l28 => k_is)
    (case e28 => k_is)
    (case k28 => k_is)
    (case a29 => k_is)
    (case l29 => k_is)
    (case e29 => k_is)
    (case k29 => k_is)
    (case a30 => k_is)
    (case l30 => k_is)
    (case e30 => k_is)
    (case k30 => k_is)
    (case a31 => k_is)
    (case l31 => k_is)
    (case e31 => k_is)
    (case k31 => k_is)
    (case a32 => k_is)
    (case l32 => k_is)
    (case e32 => k_is)
    (case k32 => k_is)
    (case a33 => k_is)
    (case l33 => k_is)
    (case e33 => k_is)
    (case k33 => k_is)
    (case a34 => k_is)
    (case l34 => k_is)
    (case e34 => k_is)
    (case k34 => k_is)
    (case a35 => k_is)
    (case l35 => k_is)
    (case e35 => k_is)
    (case k35 => k_is)
    (case a36 => k_is)
    (case l36 => k_is)
    (case e36 => k_is)
    (case k36 => k_is)
    (case a37 => k_is)
    (case l37 => k_is)
    (case e37 => k_is)
    (case k37 => k_is)
    (case a38 => k_is)
    (case l38 => k_is)
    (case e38 => k_is)
    (case k38 => k_is)
    (case a39 => k_is)
    (case l39 => k_is)
    (case e39 => k_is)
    (case k39 => k_is)
    (case a40 => k_is)
    (case l40 => k_is)
    (case e40 => k_is)
    (case k40 => k_is)
    (case q18 => k_is)
    (case q19 => k_is)
    (case r19 => k_is)
    (case q20 => k_is)
    (case q21 => k_is)
    (case q22 => k_is)
    (case u41 => k_is)
    (case u42 => k_is)
    (case u43 => k_is)
    (case u44 => k_is)
    (case u45 => k_is)
    (case u46 => k_is)
    (case u47 => k_is)
    (case u48 => k_is)
    (case u49 => k_is)
    (case u50 => k_is)
    (case u51 => k_is)
    (case u52 => k_is)
    (case u53 => k_is)
    (case u54 => k_is)
    (case u56 => k_is)
    (case u55 => k_is)
    (case vn41 => kernel_rfl)
    (case vg41 => kernel_rfl)
    (case vo41 => kernel_rfl)
    (case vc41 => kernel_rfl)
    (case vb41 => kernel_rfl)
    (case vj41 => kernel_rfl)
    (case vi41 => kernel_rfl)
    (case vx41 => kernel_rfl)
    (case y41_44 => kernel_rfl)
    (case y41_45 => kernel_rfl)
    (case y41_46 => kernel_rfl)
    (case y41_47 => kernel_rfl)
    (case y41_48 => kernel_rfl)
    (case y41_41 => kernel_rfl)
    (case y41_42 => kernel_rfl)
    (case y41_43 => kernel_rfl)
    (case y41_49 => kernel_rfl)
    (case y41_50 => kernel_rfl)
    (case y41_51 => kernel_rfl)
    (case y41_52 => kernel_rfl)
    (case y41_53 => kernel_rfl)
    (case y41_54 => kernel_rfl)
    (case y41_55 => kernel_rfl)
    (case m41_56 => kernel_rfl)
    (case vn42 => kernel_rfl)
    (case vg42 => kernel_rfl)
    (case vo42 => kernel_rfl)
    (case vc42 => kernel_rfl)
    (case vb42 => kernel_rfl)
    (case vj42 => kernel_rfl)
    (case vi42 => kernel_rfl)
    (case vx42 => kernel_rfl)
    (case y42_44 => kernel_rfl)
    (case y42_45 => kernel_rfl)
    (case y42_46 => kernel_rfl)
    (case y42_47 => kernel_rfl)
    (case y42_48 => kernel_rfl)
    (case y42_41 => kernel_rfl)
    (case y42_42 => kernel_rfl)
    (case y42_43 => kernel_rfl)
    (case y42_49 => kernel_rfl)
    (case y42_50 => kernel_rfl)
    (case y42_51 => kernel_rfl)
    (case y42_52 => kernel_rfl)
    (case y42_53 => kernel_rfl)
    (case y42_54 => kernel_rfl)
    (case y42_55 => kernel_rfl)
    (case m42_56 => kernel_rfl)
    (case vn43 => kernel_rfl)
    (case vg43 => kernel_rfl)
    (case vo43 => kernel_rfl)
    (case vc43 => kernel_rfl)
    (case vb43 => kernel_rfl)
    (case vj43 => kernel_rfl)
    (case vi43 => kernel_rfl)
    (case vx43 => kernel_rfl)
    (case y43_44 => kernel_rfl)
    (case y43_45 => kernel_rfl)
    (case y43_46 => kernel_rfl)
    (case y43_47 => kernel_rfl)
    (case y43_48 => kernel_rfl)
    (case y43_41 => kernel_rfl)
    (case y43_42 => kernel_rfl)
    (case y43_43 => kernel_rfl)
    (case y43_49 => kernel_rfl)
    (case y43_50 => kernel_rfl)
    (case y43_51 => kernel_rfl)
    (case y43_52 => kernel_rfl)
    (case y43_53 => kernel_rfl)
    (case y43_54 => kernel_rfl)
    (case y43_55 => kernel_rfl)
    (case m43_56 => kernel_rfl)
    (case z0 => k_is)
    (case z1 => k_is)
    (case z2 => k_is)
    (case z3 => k_is)
    (case z4 => k_is)
    (case z5 => k_is)
    (case z6 => k_is)
    (case z7 => k_is)
    (case z8 => k_is)
    (case z9 => k_is)
    (case z10 => k_is)
    (case z11 => k_is)
    (case z12 => k_is)
    (case z13 => k_is)
    (case z14 => k_is)
    (case z15 => k_is)
    (case z16 => k_is)
    (case z17 => k_is)
#print axioms PySem.Challenge.cw_flagroll_k16_conditions_refused_holds
